import PyProof.Rows.All
import Wide.All
import OpenK.AllK
import Wide.FinOn
import HandS.ForMost
import HandS.IsInst
import HandS.Evl
import HandS.Flow
import HandS.Conv
import HandS.Wide
import HandS.Walk
import HandS.Zip
import HandS.OwnEq
import HandS.Style
import HandS.TupAny
import PyProof.Rows.NestShow
import HandS.WordsExc
import HandS.ExcOwn
import HandS.ExcField
import HandS.ExcInit
import HandS.TryOnly
import HandS.ExcIs
import HandS.TryMany
import HandS.Text
import HandS.FStr
import HandS.StrMore
import PyProof.CompFree
import HandS.Comp
import HandS.Exc
import HandS.Codes
import KE.KTryMore
import HandS.ExcCtx
import HandS.Hot
import HandS.HotCalls
import HandS.SuiteRaise
import HandS.RaiseFrom
import PyProof.TupleIter
import PyProof.WalksMore
import KE.KMinKey
import HandS.SortKw
import HandS.SetFor
import KE.KNestM
import PySem.Challenge.RW_lagshift_k96_texts_of_no_net
set_option Elab.async false
set_option linter.all false
set_option maxRecDepth 100000
set_option maxHeartbeats 4000000
namespace Lag
open PySem PySem.Spec PyProof.Rows L2
/-! ### the text by its places -/
def topS (i : Nat) : Stmt := PySem.Challenge.pw_lagshift_k96_texts_of_no_net.main.body.getD i (.Pass ⟨0, 0, 0, 0⟩)
abbrev sCellAt : Stmt := topS 39
abbrev sWell : Stmt := topS 40
abbrev sDraw : Stmt := topS 41
abbrev sOne : Stmt := topS 42
abbrev sGate : Stmt := topS 43
/-! ### heaps -/
/-- all stands as it stood but at w -/
def But (w : Addr) (H H' : Hp) : Prop := ∀ b o, b ≠ w → H b = some o → H' b = some o
theorem But.refl (w : Addr) (H : Hp) : But w H H := fun _ _ _ h => h
theorem But.trans {w : Addr} {H H1 H2 : Hp} (a : But w H H1) (b : But w H1 H2) : But w H H2 := fun c o n h => b c o n (a c o n h)
theorem But.same {w : Addr} {H H1 : Hp} (a : Same H H1) : But w H H1 := fun c o _ h => a c o h
theorem But.upd {w : Addr} {H : Hp} {o : HO} : But w H (upd H w o) := fun c u n h => by rw [upd_ne n]; exact h
theorem But.new {w p : Addr} {H : Hp} {o : HO} (h : H p = none) : But w H (L2.upd H p o) := fun c u n e => by rw [upd_ne (ne_of_none e h)]; exact e
theorem same_new {H : Hp} {p : Addr} {o : HO} (h : H p = none) : Same H (upd H p o) := fun b x e => by rw [upd_ne (ne_of_none e h)]; exact e
/-- an object that H does not know may be changed -/
theorem same_mut {H H' : Hp} {p : Addr} {o : HO} (e : Same H H') (h : H p = none) : Same H (upd H' p o) := fun a u ha => by rw [upd_ne (ne_of_none ha h)]; exact e a u ha
theorem But.mut {w p : Addr} {H H' : Hp} {o : HO} (e : But w H H') (h : H p = none) : But w H (L2.upd H' p o) := fun a u n ha => by rw [upd_ne (ne_of_none ha h)]; exact e a u n ha
theorem But.seq {K : PySem.W.Frag} {w a : Addr} {H H' : Hp} {xs : List V} (e : But w H H') (n : a ≠ w) (h : SqL K H a xs) : SqL K H' a xs := by
  rcases h with (h | ⟨o, h⟩) | h
  · exact .inl (.inl (e _ _ n h))
  · exact .inl (.inr ⟨o, e _ _ n h⟩)
  · exact .inr h
/-- at w the well: three numbers -/
def WellAt (w : Addr) (H : Hp) : Prop := ∃ a b c : Int, H w = some (.lst [.int a, .int b, .int c])
theorem WellAt.new {w p : Addr} {H : Hp} {o : HO} (W : WellAt w H) (h : H p = none) : WellAt w (upd H p o) := by
  obtain ⟨a, b, c, e⟩ := W
  exact ⟨a, b, c, by rw [upd_ne (ne_of_none e h)]; exact e⟩
theorem WellAt.same {w : Addr} {H H' : Hp} (W : WellAt w H) (s : Same H H') : WellAt w H' := by
  obtain ⟨a, b, c, e⟩ := W
  exact ⟨a, b, c, s _ _ e⟩
theorem WellAt.ne {w p : Addr} {H : Hp} (W : WellAt w H) (h : H p = none) : w ≠ p := by
  obtain ⟨a, b, c, e⟩ := W
  exact ne_of_none e h
theorem WellAt.tup {K : PySem.W.Frag} {w p : Addr} {H : Hp} {xs : List V} (W : WellAt w H) (h : H p = some (.tup xs)) : p ≠ w := by
  obtain ⟨a, b, c, e⟩ := W
  exact ne_of h e (by intro q; cases q)
/-- a draw of the well: what stood stands, the well is one -/
structure Dr (w : Addr) (H H' : Hp) : Prop where
  but : But w H H'
  well : WellAt w H'
theorem Dr.trans {w : Addr} {H H1 H2 : Hp} (a : Dr w H H1) (b : Dr w H1 H2) : Dr w H H2 := ⟨a.but.trans b.but, b.well⟩
theorem Dr.free {w p : Addr} {H H' : Hp} (d : Dr w H H') (W : WellAt w H) (h : H' p = none) : H p = none := by
  cases q : H p with
  | none => rfl
  | some o =>
    have n : p ≠ w := (d.well.ne h).symm
    rw [d.but _ _ n q] at h
    cases h
/-! ### the promises of the draws -/
def spCellAt (K : PySem.W.Frag) : Sp := fun vs H Q _ => ∃ (a : Addr) (ns : List Int) (k : Int), vs = [.ref a, .int k] ∧ 0 ≤ k ∧ SqL K H a (ns.map V.int) ∧ ∀ z : Int, Q (.int z) H
def spWell : Sp := fun vs H Q _ => ∃ z : Int, vs = [.int z] ∧ ∀ p H', H p = none → Same H H' → WellAt p H' → Q (.ref p) H'
def spDraw : Sp := fun vs H Q _ => ∃ (w : Addr) (n : Int), vs = [.ref w, .int n] ∧ 0 < n ∧ n < 1000000 ∧ WellAt w H ∧ ∀ d H', 0 ≤ d → d < n → Dr w H H' → Q (.int d) H'
def spOne (K : PySem.W.Frag) : Sp := fun vs H Q _ => ∃ (w l : Addr) (xs : List V), vs = [.ref w, .ref l] ∧ l ≠ w ∧ WellAt w H ∧ SqL K H l xs ∧ xs ≠ [] ∧ xs.length < 1000000 ∧ ∀ v H', v ∈ xs → Dr w H H' → Q v H'
section
variable {P : Program} {w : World} {K : PySem.W.Frag} {mg : Str → Option Value} {base : Heap}
/-- a def at its name: it keeps its promise, its name holds it, its arguments bind -/
structure Df (P : Program) (w : World) (K : PySem.W.Frag) (mg : Str → Option Value) (base : Heap) (k : Nat) (name : Str) (ps : List Str) (sp : Sp) (f : Addr) (fd : FuncData) : Prop where
  ok : FnOk P w K mg base CX0 k f fd ps sp
  mg : mg name = some (.ref f)
  kp : PySem.W.keepIn K (.ref f) = true
  bd : Binds K fd ps []
/-! ### _law_cell_at -/
theorem scCellAt : FnScope ["_law_script", "_law_k"] ["_law_script", "_law_k"] (defScope sCellAt) := ⟨rfl, rfl, rfl, by decide +kernel, rfl, by decide +kernel, by decide +kernel⟩
abbrev DCellAt (P : Program) (w : World) (K : PySem.W.Frag) (mg : Str → Option Value) (base : Heap) := Df P w K mg base 1 "_law_cell_at" ["_law_script", "_law_k"] (spCellAt K)
theorem ok_cellAt {f : Addr} {fd : FuncData} (F : Fun K "_law_cell_at" "_law_cell_at" sCellAt f fd) (hm : mg "_law_cell_at" = some (.ref f)) (ml : mg "len" = none) : DCellAt P w K mg base f fd := by
  refine ⟨?_, hm, F.kp, F.binds fun _ _ _ _ _ _ us hl => match us, hl with | [_, _], _ => rfl⟩
  refine F.ok scCellAt (fun vs H Q E h => ?_) (fun cdv A outer s H vs Q E hr h => ?_)
  · obtain ⟨a, ns, k, rfl, _⟩ := h
    rfl
  · obtain ⟨a, ns, k, rfl, hk, hS, q⟩ := h
    refine ⟨_, pss_cons (ps_if (pt_cmpR op_lt (pv 1) (pe_callB call_len_seq (by rfl) ml PySem.boot_len (pa_cons (pv 0) pa_nil)) (nomark _))
        (pss_one (ps_ret (pe_ix ix_list (pv 0) (pv 1) (fun _ _ => rfl)))) pss_nil)
      (pss_one (ps_ret pe_int)), ?_⟩
    refine ⟨_, rfl, .ref a, rfl, a, _, rfl, .inl hS, _, _, rfl, rfl, _, rfl, ite2 (fun e => ?_) (fun e => ?_)⟩
    · have e1 : k < ((ns.map V.int).length : Int) := of_decide_eq_true e
      rw [List.length_map] at e1
      have hj : k.toNat < ns.length := by omega
      refine ⟨_, rfl, _, rfl, a, _, k, .int (ns[k.toNat]), rfl, rfl, hS, at_of (j := k.toNat) (by omega) ?_, q _⟩
      rw [List.getElem?_map, List.getElem?_eq_getElem hj]
      rfl
    · exact q 0
/-! ### _law_well -/
theorem scWell : FnScope ["_law_cell"] ["_law_cell"] (defScope sWell) := ⟨rfl, rfl, rfl, by decide +kernel, rfl, by decide +kernel, by decide +kernel⟩
abbrev DWell (P : Program) (w : World) (K : PySem.W.Frag) (mg : Str → Option Value) (base : Heap) := Df P w K mg base 1 "_law_well" ["_law_cell"] spWell
theorem ok_well {f : Addr} {fd : FuncData} (F : Fun K "_law_well" "_law_well" sWell f fd) (hm : mg "_law_well" = some (.ref f)) (mi : mg "int" = none) : DWell P w K mg base f fd := by
  refine ⟨?_, hm, F.kp, F.binds fun _ _ _ _ _ _ us hl => match us, hl with | [_], _ => rfl⟩
  refine F.ok scWell (fun vs H Q E h => ?_) (fun cdv A outer s H vs Q E hr h => ?_)
  · obtain ⟨z, rfl, _⟩ := h
    rfl
  · obtain ⟨z, rfl, q⟩ := h
    refine ⟨_, pss_one (ps_ret (pe_lst (pa_cons (pe_op op_mul (pv 0) (pe_callTy call_int1 (by rfl) mi (by decide +kernel) (pa_cons (pe_cmpR op_ge (pv 0) (pe_op op_pow pe_int pe_int) (nomark _)) pa_nil)))
      (pa_cons (pe_op op_mod (pv 0) pe_int) (pa_cons pe_int pa_nil))))), ?_⟩
    refine ⟨_, rfl, _, rfl, _, _, rfl, rfl, ⟨by decide, by decide, by decide⟩, _, _, rfl, rfl, .inr ⟨_, rfl, _, _, rfl, rfl, .inr ?_, ?_⟩⟩
    · cases decide (10 ^ (18 : Int).toNat ≤ z) with
      | true => exact ⟨by decide, by decide⟩
      | false => exact ⟨by decide, by decide⟩
    · refine ⟨_, rfl, _, _, rfl, rfl, (by show (0 : Int) < 2147483629; decide), (by show 3 ≤ sizeLine; decide), fun p hp => ?_⟩
      exact q p _ hp (same_new hp) ⟨_, _, _, upd_same⟩
end
end Lag

set_option maxRecDepth 100000
set_option maxHeartbeats 4000000
namespace Lag
open PySem PySem.Spec PyProof.Rows L2
section
variable {P : Program} {w : World} {K : PySem.W.Frag} {mg : Str → Option Value} {base : Heap}
/-! ### _law_draw -/
theorem scDraw : FnScope ["_law_well_here", "_law_many", "_law_found", "_law_number_here"] ["_law_well_here", "_law_many"] (defScope sDraw) := ⟨rfl, rfl, rfl, by decide +kernel, rfl, by decide +kernel, by decide +kernel⟩
theorem mod_b {x n : Int} (h : 0 < n) (hn : n ≤ 4294967296) : -(2 ^ 64) < x % n ∧ x % n < 2 ^ 64 := by
  have h1 := Int.emod_nonneg x (show n ≠ 0 by omega)
  have h2 := Int.emod_lt_of_pos x h
  constructor
  · have e : (-(2 ^ 64) : Int) = -18446744073709551616 := by decide
    omega
  · have e : (2 ^ 64 : Int) = 18446744073709551616 := by decide
    omega
abbrev DDraw (P : Program) (w : World) (K : PySem.W.Frag) (mg : Str → Option Value) (base : Heap) := Df P w K mg base 1 "_law_draw" ["_law_well_here", "_law_many"] spDraw
theorem ok_draw {f : Addr} {fd : FuncData} (F : Fun K "_law_draw" "_law_draw" sDraw f fd) (hm : mg "_law_draw" = some (.ref f)) : DDraw P w K mg base f fd := by
  refine ⟨?_, hm, F.kp, F.binds fun _ _ _ _ _ _ us hl => match us, hl with | [_, _], _ => rfl⟩
  refine F.ok scDraw (fun vs H Q E h => ?_) (fun cdv A outer s H vs Q E hr h => ?_)
  · obtain ⟨wl, n, rfl, _⟩ := h
    rfl
  · obtain ⟨wl, n, rfl, hn, hn2, ⟨a, b, c, hw⟩, q⟩ := h
    refine ⟨_, pss_cons (ps_if (pt_cmpR op_gt (pe_ix ix_list (pv 0) pe_int (fun _ _ => rfl)) pe_int (nomark _))
        (pss_cons (ps_set (i := 2) scDraw.nd rfl (Or.inl rfl) (pe_op op_mod (pe_ix ix_list (pv 0) pe_int (fun _ _ => rfl)) (pv 1)))
        (pss_cons (ps_asg (pe_op op_fdiv (pe_ix ix_list (pv 0) pe_int (fun _ _ => rfl)) (pv 1)) (pg_sub (pv 0) pe_int set_list))
        (pss_one (ps_ret (pv 2))))) pss_nil)
      (pss_cons (ps_asg (pe_op op_add (pe_ix ix_list (pv 0) pe_int (fun _ _ => rfl)) pe_int) (pg_sub (pv 0) pe_int set_list))
      (pss_cons (ps_set (i := 3) scDraw.nd rfl (Or.inl rfl) (pe_op op_mod (pe_op op_mul (pe_op op_add (pe_op op_add (pe_ix ix_list (pv 0) pe_int (fun _ _ => rfl)) (pe_op op_mul pe_int (pe_ix ix_list (pv 0) pe_int (fun _ _ => rfl)))) pe_int) pe_int) pe_int))
      (pss_cons (ps_set (i := 3) scDraw.nd rfl (Or.inl rfl) (pe_op op_mod (pe_op op_mul (pv 3) (pe_op op_add (pe_op op_add (pe_op op_fdiv (pv 3) pe_int) pe_int) (pe_ix ix_list (pv 0) pe_int (fun _ _ => rfl)))) pe_int))
      (pss_one (ps_ret (pe_op op_mod (pe_op op_fdiv (pe_op op_mod (pe_op op_mul (pv 3) (pe_op op_add (pe_op op_fdiv (pv 3) pe_int) pe_int)) pe_int) pe_int) (pv 1))))))), ?_⟩
    refine ⟨_, rfl, wl, _, 0, .int a, rfl, rfl, SqL.of hw, atI_nat (j := 0) rfl, _, _, rfl, rfl, _, rfl, ite2 (fun e => ?_) (fun e => ?_)⟩
    · refine ⟨_, rfl, wl, _, 0, .int a, rfl, rfl, SqL.of hw, atI_nat (j := 0) rfl, _, rfl, _, _, rfl, rfl, hn, ?_⟩
      refine ⟨_, rfl, wl, _, 0, .int a, rfl, rfl, SqL.of hw, atI_nat (j := 0) rfl, _, rfl, _, _, rfl, rfl, ⟨hn, by omega⟩, ?_⟩
      refine ⟨_, rfl, wl, _, 0, 0, rfl, rfl, hw, rfl, ?_⟩
      refine ⟨_, rfl, ?_⟩
      exact q _ _ (Int.emod_nonneg _ (by omega)) (Int.emod_lt_of_pos _ hn) ⟨But.upd, ⟨_, _, _, upd_same⟩⟩
    · have h1 : (upd H wl (HO.lst [.int a, .int b, .int (c + 1)])) wl = some (.lst [.int a, .int b, .int (c + 1)]) := upd_same
      refine ⟨_, rfl, wl, _, 2, .int c, rfl, rfl, SqL.of hw, atI_nat (j := 2) rfl, _, _, rfl, rfl, ?_⟩
      refine ⟨_, rfl, wl, _, 2, 2, rfl, rfl, hw, rfl, ?_⟩
      refine ⟨_, rfl, wl, _, 1, .int b, rfl, rfl, SqL.of h1, atI_nat (j := 1) rfl, _, rfl, wl, _, 2, .int (c + 1), rfl, rfl, SqL.of h1, atI_nat (j := 2) rfl, _, _, rfl, rfl, .inl ⟨by decide, by decide⟩, _, _, rfl, rfl, _, _, rfl, rfl, _, _, rfl, rfl, .inr ⟨by decide, by decide⟩, _, _, rfl, rfl, (by show (0 : Int) < 2147483629; decide), ?_⟩
      refine ⟨_, rfl, _, rfl, _, _, rfl, rfl, ⟨by decide, by decide⟩, _, _, rfl, rfl, _, rfl, wl, _, 2, .int (c + 1), rfl, rfl, SqL.of h1, atI_nat (j := 2) rfl, _, _, rfl, rfl, _, _, rfl, rfl, .inl (mod_b (by decide) (by decide)), _, _, rfl, rfl, (by show (0 : Int) < 2147483587; decide), ?_⟩
      refine ⟨_, rfl, _, rfl, _, _, rfl, rfl, ⟨by decide, by decide⟩, _, _, rfl, rfl, _, _, rfl, rfl, .inl (mod_b (by decide) (by decide)), _, _, rfl, rfl, (by show (0 : Int) < 2147483563; decide), _, _, rfl, rfl, ⟨by decide, by decide⟩, _, rfl, _, _, rfl, rfl, hn, ?_⟩
      exact q _ _ (Int.emod_nonneg _ (by omega)) (Int.emod_lt_of_pos _ hn) ⟨But.upd, ⟨_, _, _, h1⟩⟩
/-! ### _law_one -/
theorem scOne : FnScope ["_law_well_here", "_law_some"] ["_law_well_here", "_law_some"] (defScope sOne) := ⟨rfl, rfl, rfl, by decide +kernel, rfl, by decide +kernel, by decide +kernel⟩
abbrev DOne (P : Program) (w : World) (K : PySem.W.Frag) (mg : Str → Option Value) (base : Heap) := Df P w K mg base 2 "_law_one" ["_law_well_here", "_law_some"] (spOne K)
theorem ok_one {f fD : Addr} {fd fdD : FuncData} (F : Fun K "_law_one" "_law_one" sOne f fd) (hm : mg "_law_one" = some (.ref f)) (D0 : DDraw P w K mg base fD fdD) (ml : mg "len" = none) : DOne P w K mg base f fd := by
  refine ⟨?_, hm, F.kp, F.binds fun _ _ _ _ _ _ us hl => match us, hl with | [_, _], _ => rfl⟩
  refine F.ok scOne (fun vs H Q E h => ?_) (fun cdv A outer s H vs Q E hr h => ?_)
  · obtain ⟨wl, l, xs, rfl, _⟩ := h
    rfl
  · obtain ⟨wl, l, xs, rfl, hl, hw, hS, h0, hz, q⟩ := h
    refine ⟨_, pss_one (ps_ret (pe_ix ix_list (pv 1) (pe_call D0.ok hr (by rfl) D0.mg D0.kp D0.bd .nil pass0 (pa_cons (pv 0) (pa_cons (pe_callB call_len_seq (by rfl) ml PySem.boot_len (pa_cons (pv 1) pa_nil)) pa_nil))) (fun _ _ => rfl))), ?_⟩
    have hp : 0 < xs.length := by
      cases xs with
      | nil => exact absurd rfl h0
      | cons x r => simp
    refine ⟨_, rfl, _, rfl, _, rfl, l, xs, rfl, .inl hS, wl, _, rfl, by omega, by omega, hw, fun d H' d0 d1 D => ?_⟩
    have hj : d.toNat < xs.length := by omega
    refine ⟨l, xs, d, xs[d.toNat], rfl, rfl, D.but.seq hl hS, at_of (j := d.toNat) (by omega) (List.getElem?_eq_getElem hj), ?_⟩
    exact q _ _ (List.getElem_mem hj) D
end
end Lag

set_option maxRecDepth 100000
set_option maxHeartbeats 4000000
namespace Lag
open PySem PySem.Spec PyProof.Rows L2
/-! ### what is kept of tuples -/
def isT : HO → Prop
  | .tup _ => True
  | .frz _ _ => True
  | _ => False
/-- tuples, and what is locked, stand as they stood -/
def TK (H H' : Hp) : Prop := ∀ a o, isT o → H a = some o → H' a = some o
theorem TK.refl (H : Hp) : TK H H := fun _ _ _ h => h
theorem TK.trans {H H1 H2 : Hp} (a : TK H H1) (b : TK H1 H2) : TK H H2 := fun c o t h => b c o t (a c o t h)
theorem TK.same {H H1 : Hp} (a : Same H H1) : TK H H1 := fun c o _ h => a c o h
theorem TK.new {p : Addr} {H : Hp} {o : HO} (h : H p = none) : TK H (upd H p o) := TK.same (same_new h)
theorem TK.lst {l : Addr} {H : Hp} {xs : List V} {o : HO} (h : H l = some (.lst xs)) : TK H (upd H l o) := fun c u t e => by
  have n : c ≠ l := fun z => by
    rw [z, h] at e
    cases e
    exact t
  rw [upd_ne n]
  exact e
theorem TK.dr {w : Addr} {H H' : Hp} (W : WellAt w H) (d : But w H H') : TK H H' := fun c u t e => by
  obtain ⟨x, y, z, h⟩ := W
  have n : c ≠ w := fun z => by
    rw [z, h] at e
    cases e
    exact t
  exact d _ _ n e
theorem TK.seq {K : PySem.W.Frag} {H H' : Hp} {a : Addr} {xs : List V} (t : TK H H') (h : SqT K H a xs) : SqT K H' a xs := by
  rcases h with (h | ⟨o, h⟩) | h
  · exact .inl (.inl (t _ _ trivial h))
  · exact .inl (.inr ⟨o, t _ _ trivial h⟩)
  · exact .inr h
/-! ### gates and wires as data -/
abbrev Gt := Str × Int
abbrev Wr := Nat × Nat × List Int
def kinds : List Str := ["in", "out", "sum", "times", "most", "least", "first", "one"]
def portK (k : Str) : Prop := k = "in" ∨ k = "out"
/-- a gate -/
def GOk (g : Gt) : Prop := g.1 ∈ kinds ∧ 0 ≤ g.2 ∧ g.2 ≤ 100 ∧ (portK g.1 → g.2 = 0)
def GateV (K : PySem.W.Frag) (H : Hp) (v : V) (g : Gt) : Prop := ∃ a, v = .ref a ∧ SqT K H a [.str g.1, .int g.2]
def WireV (K : PySem.W.Frag) (H : Hp) (v : V) (x : Wr) : Prop := ∃ a b, v = .ref a ∧ SqT K H a [.int x.1, .int x.2.1, .ref b] ∧ SqT K H b (x.2.2.map V.int)
theorem GateV.tk {K : PySem.W.Frag} {H H' : Hp} {v : V} {g : Gt} (t : TK H H') (h : GateV K H v g) : GateV K H' v g := by
  obtain ⟨a, e, s⟩ := h
  exact ⟨a, e, t.seq s⟩
theorem WireV.tk {K : PySem.W.Frag} {H H' : Hp} {v : V} {x : Wr} (t : TK H H') (h : WireV K H v x) : WireV K H' v x := by
  obtain ⟨a, b, e, s, s2⟩ := h
  exact ⟨a, b, e, t.seq s, t.seq s2⟩
/-! ### _law_gate -/
def kinds11 : List Str := ["in", "in", "sum", "times", "most", "least", "first", "one", "sum", "out", "out"]
theorem k11 : ∀ k ∈ kinds11, k ∈ kinds := by decide +kernel
abbrev sGate' : Stmt := sGate
def spGate (K : PySem.W.Frag) : Sp := fun vs H Q _ => ∃ (wl : Addr) (b : Bool), vs = [.ref wl, .bl b] ∧ WellAt wl H ∧ ∀ (g : Gt) p H', GOk g → (b = true → g.1 ≠ "out") → Dr wl H H' → H p = none → H' p = some (.tup [.str g.1, .int g.2]) → Q (.ref p) H'
section
variable {P : Program} {w : World} {K : PySem.W.Frag} {mg : Str → Option Value} {base : Heap}
theorem scGate : FnScope ["_law_well_here", "_law_first", "_law_kind"] ["_law_well_here", "_law_first"] (defScope sGate) := ⟨rfl, rfl, rfl, by decide +kernel, rfl, by decide +kernel, by decide +kernel⟩
abbrev DGate (P : Program) (w : World) (K : PySem.W.Frag) (mg : Str → Option Value) (base : Heap) := Df P w K mg base 3 "_law_gate" ["_law_well_here", "_law_first"] (spGate K)
theorem Dr.new {wl p : Addr} {H : Hp} {o : HO} (W : WellAt wl H) (h : H p = none) : Dr wl H (upd H p o) := ⟨But.new h, W.new h⟩
theorem ok_gate {f fD fO : Addr} {fd fdD fdO : FuncData} (F : Fun K "_law_gate" "_law_gate" sGate f fd) (hm : mg "_law_gate" = some (.ref f)) (DD : DDraw P w K mg base fD fdD) (DO : DOne P w K mg base fO fdO) : DGate P w K mg base f fd := by
  refine ⟨?_, hm, F.kp, F.binds fun _ _ _ _ _ _ us hl => match us, hl with | [_, _], _ => rfl⟩
  refine F.ok scGate (fun vs H Q E h => ?_) (fun cdv A outer s H vs Q E hr h => ?_)
  · obtain ⟨wl, b, rfl, _⟩ := h
    rfl
  · obtain ⟨wl, b, rfl, hw, q⟩ := h
    have hr1 : Room 1 _ := hr.mono (by decide)
    refine ⟨_, pss_cons (ps_set (i := 2) scGate.nd rfl (Or.inl rfl) (pe_call DO.ok hr (by rfl) DO.mg DO.kp DO.bd .nil pass0 (pa_cons (pv 0) (pa_cons (pe_lst
        (pa_cons pe_str (pa_cons pe_str (pa_cons pe_str (pa_cons pe_str (pa_cons pe_str (pa_cons pe_str (pa_cons pe_str (pa_cons pe_str (pa_cons pe_str (pa_cons pe_str (pa_cons pe_str pa_nil)))))))))))) pa_nil))))
      (Evl.pss_cut (ps_if (PW.pt (pw_and (pt_val (pv 1)) (pw_and1 (pt_cmpR op_eq (pv 2) pe_str (nomark _))))) (pss_one (ps_set (i := 2) scGate.nd rfl (Or.inl rfl) pe_str)) pss_nil)
      (pss_cons (ps_if (pt_cmpR op_in_seq (pv 2) (pe_tup (pa_cons pe_str (pa_cons pe_str pa_nil))) (by rfl)) (pss_one (ps_ret (pe_tup (pa_cons (pv 2) (pa_cons pe_int pa_nil))))) pss_nil)
      (pss_one (ps_ret (pe_tup (pa_cons (pv 2) (pa_cons (pe_call DO.ok hr (by rfl) DO.mg DO.kp DO.bd .nil pass0 (pa_cons (pv 0) (pa_cons (pe_lst
        (pa_cons (pe_call DD.ok hr1 (by rfl) DD.mg DD.kp DD.bd .nil pass0 (pa_cons (pv 0) (pa_cons pe_int pa_nil))) (pa_cons (pe_call DD.ok hr1 (by rfl) DD.mg DD.kp DD.bd .nil pass0 (pa_cons (pv 0) (pa_cons pe_int pa_nil))) (pa_cons pe_int (pa_cons pe_int pa_nil))))) pa_nil))) pa_nil))))))), ?_⟩
    refine ⟨_, rfl, (by show 11 ≤ sizeLine; decide), fun l hl => ?_⟩
    refine ⟨wl, l, kinds11.map V.str, rfl, (hw.ne hl).symm, hw.new hl, SqL.of upd_same, by decide, by decide, fun v H1 hv D1 => ?_⟩
    have D1 : Dr wl H H1 := (Dr.new hw hl).trans D1
    obtain ⟨k0, hk0, rfl⟩ := List.mem_map.mp hv
    have hk0 := k11 k0 hk0
    -- if first and kind == 'out'
    refine ⟨fun σ H2 => ∃ k : Str, k ∈ kinds ∧ (b = true → k ≠ "out") ∧ σ = [some (.ref wl), some (.bl b), some (.str k)] ∧ H2 = H1, ?_, ?_⟩
    · refine ⟨_, rfl, b, rfl, ?_⟩
      refine ite2 (fun e => ?_) (fun e => ?_)
      · refine ⟨_, rfl, rfl, _, rfl, ite2 (fun e2 => ?_) (fun e2 => ?_)⟩
        · exact ⟨"in", by decide +kernel, fun _ => by decide +kernel, rfl, rfl⟩
        · exact ⟨k0, hk0, fun _ z => e2 (decide_eq_true (by rw [z])), rfl, rfl⟩
      · exact iteF ⟨k0, hk0, fun z => absurd z e, rfl, rfl⟩
    · rintro σ H2 ⟨k, hk, hb, rfl, rfl⟩
      -- if kind in ('in', 'out')
      refine ⟨_, rfl, (by show 2 ≤ sizeLine; decide), fun t ht => ?_⟩
      have Dt : Dr wl H (upd H2 t (.tup [.str "in", .str "out"])) := D1.trans (Dr.new D1.well ht)
      refine ⟨t, _, rfl, .inr (.inl (.inl upd_same)), rfl, rfl, _, rfl, ite2 (fun e => ?_) (fun e => ?_)⟩
      · refine ⟨_, rfl, (by show 2 ≤ sizeLine; decide), fun p hp => ?_⟩
        exact q (k, 0) p _ ⟨hk, Int.le_refl 0, (by show (0 : Int) ≤ 100; decide), fun _ => rfl⟩ hb (Dt.trans (Dr.new Dt.well hp)) (Dt.free hw hp) upd_same
      · refine ⟨_, rfl, _, rfl, _, rfl, wl, 10, rfl, by decide, by decide, Dt.well, fun d1 H3 a1 b1 E1 => ?_⟩
        have D3 := Dt.trans E1
        refine ⟨_, rfl, wl, 101, rfl, by decide, by decide, D3.well, fun d2 H4 a2 b2 E2 => ?_⟩
        have D4 := D3.trans E2
        refine ⟨(by show 4 ≤ sizeLine; decide), fun l2 hl2 => ?_⟩
        have D5 := D4.trans (Dr.new (o := .lst [.int d1, .int d2, .int 0, .int 100]) D4.well hl2)
        refine ⟨wl, l2, [.int d1, .int d2, .int 0, .int 100], rfl, (D4.well.ne hl2).symm, D5.well, SqL.of upd_same, by simp, by show 4 < 1000000; decide, fun v H6 hv E3 => ?_⟩
        have D6 := D5.trans E3
        obtain ⟨wt, rfl, w0, w1⟩ : ∃ wt, v = V.int wt ∧ 0 ≤ wt ∧ wt ≤ 100 := by
          simp only [List.mem_cons, List.not_mem_nil, or_false] at hv
          rcases hv with rfl | rfl | rfl | rfl
          · exact ⟨d1, rfl, a1, by omega⟩
          · exact ⟨d2, rfl, a2, by omega⟩
          · exact ⟨0, rfl, by decide, by decide⟩
          · exact ⟨100, rfl, by decide, by decide⟩
        refine ⟨(by show 2 ≤ sizeLine; decide), fun p hp => ?_⟩
        refine q (k, wt) p _ ⟨hk, w0, w1, fun hpk => ?_⟩ hb (D6.trans (Dr.new D6.well hp)) (D6.free hw hp) upd_same
        exact absurd (by rcases hpk with z | z <;> (have z' : k = _ := z; rw [z']; decide +kernel)) e
end
end Lag

set_option maxRecDepth 100000
set_option maxHeartbeats 4000000
namespace Lag
open PySem PySem.Spec PyProof.Rows L2
abbrev sWire : Stmt := topS 44
/-- registers' worths -/
def ROk (r : List Int) : Prop := ∀ x ∈ r, 0 ≤ x ∧ x ≤ 96
def spWire (K : PySem.W.Frag) : Sp := fun vs H Q _ => ∃ (wl : Addr) (a b : Nat), vs = [.ref wl, .int a, .int b] ∧ WellAt wl H ∧ ∀ (r : List Int) v H', ROk r → r.length ≤ 2 → (b ≤ a → r ≠ []) → Dr wl H H' → WireV K H' v (a, b, r) → Q v H'
/-- a comprehension without a test keeps each item -/
theorem tyes {σ : L2.St} {H : Hp} {A B : Hp → Prop} (h : A H) : tYes σ H (fun b H3 => if b = true then A H3 else B H3) := by
  show if true = true then A H else B H
  rw [if_pos rfl]
  exact h
theorem menu3 {d1 d2 : Int} {v : V} (hv : v ∈ [V.int d1, V.int d2, V.int 96]) (a1 : 0 ≤ d1) (b1 : d1 < 97) (a2 : 0 ≤ d2) (b2 : d2 < 97) : ∃ x, v = V.int x ∧ 0 ≤ x ∧ x ≤ 96 := by
  simp only [List.mem_cons, List.not_mem_nil, or_false] at hv
  rcases hv with rfl | rfl | rfl
  · exact ⟨d1, rfl, a1, by omega⟩
  · exact ⟨d2, rfl, a2, by omega⟩
  · exact ⟨96, rfl, by decide, by decide⟩
section
variable {P : Program} {w : World} {K : PySem.W.Frag} {mg : Str → Option Value} {base : Heap}
theorem scWire : FnScope ["_law_well_here", "_law_start", "_law_end", "_law_many", "_law_k"] ["_law_well_here", "_law_start", "_law_end"] (defScope sWire) := ⟨rfl, rfl, rfl, by decide +kernel, rfl, by decide +kernel, by decide +kernel⟩
abbrev DWire (P : Program) (w : World) (K : PySem.W.Frag) (mg : Str → Option Value) (base : Heap) := Df P w K mg base 3 "_law_wire" ["_law_well_here", "_law_start", "_law_end"] (spWire K)
theorem ok_wire {f fD fO : Addr} {fd fdD fdO : FuncData} (F : Fun K "_law_wire" "_law_wire" sWire f fd) (hm : mg "_law_wire" = some (.ref f)) (DD : DDraw P w K mg base fD fdD) (DO : DOne P w K mg base fO fdO) (mx : mg "max" = none) (mt : mg "tuple" = none) (mr : mg "range" = none) : DWire P w K mg base f fd := by
  refine ⟨?_, hm, F.kp, F.binds fun _ _ _ _ _ _ us hl => match us, hl with | [_, _, _], _ => rfl⟩
  refine F.ok scWire (fun vs H Q E h => ?_) (fun cdv A outer s H vs Q E hr h => ?_)
  · obtain ⟨wl, a, b, rfl, _⟩ := h
    rfl
  · obtain ⟨wl, a, b, rfl, hw, q⟩ := h
    have hr1 : Room 1 _ := hr.mono (by decide)
    refine ⟨_, pss_cons (ps_set (i := 3) scWire.nd rfl (Or.inl rfl) (pe_call DO.ok hr (by rfl) DO.mg DO.kp DO.bd .nil pass0 (pa_cons (pv 0) (pa_cons (pe_lst
        (pa_cons pe_int (pa_cons pe_int (pa_cons pe_int (pa_cons pe_int pa_nil))))) pa_nil))))
      (Evl.pss_cut (ps_if (pt_cmpR op_ge (pv 1) (pv 2) (nomark _)) (pss_one (ps_set (i := 3) scWire.nd rfl (Or.inl rfl) (pe_callB (call_max2 rfl) (by rfl) mx (by decide +kernel) (pa_cons pe_int (pa_cons (pv 3) pa_nil))))) pss_nil)
      (pss_one (ps_ret (pe_tup (pa_cons (pv 1) (pa_cons (pv 2) (pa_cons (pe_callTy call_tuple_of (by rfl) mt (by decide +kernel) (pa_cons
        (pe_lc (own := [("_law_k", 4)]) (g := gName 4) (tt := tYes) rfl scWire.nd (pi_range1 (by rfl) mr (pa_cons (pv 3) pa_nil)) (blkOk_by (N := ["_law_well_here", "_law_start", "_law_end", "_law_many", "_law_k"]) (sc := defScope sWire) (own := [("_law_k", 4)]) (by decide +kernel)) (fun _ _ _ _ _ => pg_name (i := 4) scWire.nd rfl (Or.inl rfl)) (fun _ _ _ _ _ => pts_nil)
          (fun _ _ _ _ _ => pe_call DO.ok hr (by rfl) DO.mg DO.kp DO.bd .nil pass0 (pa_cons (pv 0) (pa_cons (pe_lst
            (pa_cons (pe_call DD.ok hr1 (by rfl) DD.mg DD.kp DD.bd .nil pass0 (pa_cons (pv 0) (pa_cons pe_int pa_nil))) (pa_cons (pe_call DD.ok hr1 (by rfl) DD.mg DD.kp DD.bd .nil pass0 (pa_cons (pv 0) (pa_cons pe_int pa_nil))) (pa_cons pe_int pa_nil)))) pa_nil)))) pa_nil)) pa_nil))))))), ?_⟩
    refine ⟨_, rfl, (by show 4 ≤ sizeLine; decide), fun l hl => ?_⟩
    refine ⟨wl, l, [.int 0, .int 0, .int 1, .int 2], rfl, (hw.ne hl).symm, hw.new hl, SqL.of upd_same, by simp, by show 4 < 1000000; decide, fun v H1 hv D1 => ?_⟩
    have D1 : Dr wl H H1 := (Dr.new hw hl).trans D1
    obtain ⟨m0, rfl, m1, m2⟩ : ∃ m0, v = V.int m0 ∧ 0 ≤ m0 ∧ m0 ≤ 2 := by
      simp only [List.mem_cons, List.not_mem_nil, or_false] at hv
      rcases hv with rfl | rfl | rfl | rfl
      · exact ⟨0, rfl, by decide, by decide⟩
      · exact ⟨0, rfl, by decide, by decide⟩
      · exact ⟨1, rfl, by decide, by decide⟩
      · exact ⟨2, rfl, by decide, by decide⟩
    refine ⟨fun σ H2 => ∃ m : Int, 0 ≤ m ∧ m ≤ 2 ∧ (b ≤ a → 1 ≤ m) ∧ σ = [some (.ref wl), some (.int a), some (.int b), some (.int m), none] ∧ H2 = H1, ?_, ?_⟩
    · refine ⟨_, rfl, _, rfl, _, _, rfl, rfl, _, rfl, ite2 (fun e => ?_) (fun e => ?_)⟩
      · refine ⟨_, rfl, _, _, rfl, ?_⟩
        refine ⟨_, ?_, ?_, ?_, rfl, rfl⟩
        · split <;> omega
        · split <;> omega
        · intro _; split <;> omega
      · exact ⟨m0, m1, m2, fun z => absurd (decide_eq_true (by omega)) e, rfl, rfl⟩
    · rintro σ H2 ⟨m, m1, m2, m3, rfl, rfl⟩
      refine ⟨_, rfl, _, rfl, _, rfl, m, rfl, by omega, by omega, fun D hD => ?_⟩
      refine lc_range (lo := 0) (n := m.toNat) (fun i H3 => ∃ r : List Int, r.length = i ∧ ROk r ∧ H3 D = some (.lst (r.map V.int)) ∧ Dr wl H H3) ⟨[], rfl, by simp [ROk], upd_same, D1.trans (Dr.new D1.well hD)⟩ ?_ ?_
      · rintro i H3 hi ⟨r, hrl, hrk, hrD, D3⟩
        refine ⟨rfl, tyes ?_⟩
        refine ⟨_, rfl, _, rfl, wl, 97, rfl, by decide, by decide, D3.well, fun d1 H4 a1 b1 E1 => ?_⟩
        have D4 := D3.trans E1
        refine ⟨_, rfl, wl, 3, rfl, by decide, by decide, D4.well, fun d2 H5 a2 b2 E2 => ?_⟩
        have D5 := D4.trans E2
        refine ⟨(by show 3 ≤ sizeLine; decide), fun l2 hl2 => ?_⟩
        refine ⟨wl, l2, [.int d1, .int d2, .int 96], rfl, (D5.well.ne hl2).symm, D5.well.new hl2, SqL.of upd_same, by simp, by show 3 < 1000000; decide, fun v H6 hv E3 => ?_⟩
        have D6 := (D5.trans (Dr.new D5.well hl2)).trans E3
        obtain ⟨x, rfl, x0, x1⟩ := menu3 hv a1 b1 a2 (by omega)
        have nD : D ≠ wl := (D1.well.ne hD).symm
        have h6 : H6 D = some (.lst (r.map V.int)) := by
          refine E3.but _ _ nD ?_
          have h5 := E2.but _ _ nD (E1.but _ _ nD hrD)
          rw [upd_ne (ne_of_none h5 hl2)]
          exact h5
        refine ⟨_, h6, by rw [List.length_map, hrl]; exact small1000 (by omega), r ++ [x], by simp [hrl], ?_, ?_, ?_⟩
        · intro y hy
          rcases List.mem_append.mp hy with hy | hy
          · exact hrk y hy
          · simp at hy; subst hy; exact ⟨x0, x1⟩
        · rw [upd_same, List.map_append]; rfl
        · refine ⟨fun c o n e => ?_, ?_⟩
          · rw [upd_ne (ne_of_none e (D1.free hw hD))]
            exact D6.but c o n e
          · obtain ⟨x1, x2, x3, hx⟩ := D6.well
            exact ⟨x1, x2, x3, by rw [upd_ne nD.symm]; exact hx⟩
      · rintro H3 ⟨r, hrl, hrk, hrD, D3⟩
        refine ⟨D, _, rfl, .inl ⟨SqL.of hrD, fun t ht => ⟨(by show 3 ≤ sizeLine; decide), fun p hp => ?_⟩⟩⟩
        have D4 := D3.trans (Dr.new (o := .tup (r.map V.int)) D3.well ht)
        refine q r (.ref p) _ hrk (by omega) (fun z => ?_) (D4.trans (Dr.new D4.well hp)) ⟨p, t, rfl, .inl (.inl upd_same), ?_⟩
        · intro z2
          have := m3 z
          rw [z2] at hrl
          simp at hrl
          omega
        · have e : (upd H3 t (.tup (r.map V.int))) t = some (.tup (r.map V.int)) := upd_same
          exact .inl (.inl (by rw [upd_ne (ne_of_none e hp)]; exact e))
end
end Lag

set_option maxRecDepth 100000
set_option maxHeartbeats 4000000
namespace Lag
open PySem PySem.Spec PyProof.Rows L2
/-! ### two lists, place by place -/
def All2 {α β : Type} (R : α → β → Prop) (xs : List α) (ys : List β) : Prop := xs.length = ys.length ∧ ∀ (i : Nat) (x : α) (y : β), xs[i]? = some x → ys[i]? = some y → R x y
section
variable {α β : Type} {R S : α → β → Prop} {xs : List α} {ys : List β} {x : α} {y : β}
theorem All2.nil : All2 R [] [] := ⟨rfl, fun i x y h => by simp at h⟩
theorem All2.imp (h : All2 R xs ys) (f : ∀ x y, R x y → S x y) : All2 S xs ys := ⟨h.1, fun i x y a b => f x y (h.2 i x y a b)⟩
theorem All2.snoc (h : All2 R xs ys) (r : R x y) : All2 R (xs ++ [x]) (ys ++ [y]) := by
  refine ⟨by simp [h.1], fun i a b ha hb => ?_⟩
  by_cases hi : i < xs.length
  · rw [List.getElem?_append_left hi] at ha
    rw [List.getElem?_append_left (by rw [← h.1]; exact hi)] at hb
    exact h.2 i a b ha hb
  · rw [List.getElem?_append_right (by omega)] at ha
    rw [List.getElem?_append_right (by rw [← h.1]; omega), ← h.1] at hb
    cases e : i - xs.length with
    | zero =>
      rw [e] at ha hb
      simp at ha hb
      subst ha hb
      exact r
    | succ n =>
      rw [e] at ha
      simp at ha
theorem All2.cons (r : R x y) (h : All2 R xs ys) : All2 R (x :: xs) (y :: ys) := by
  refine ⟨by simp [h.1], fun i a b ha hb => ?_⟩
  cases i with
  | zero =>
    simp at ha hb
    subst ha hb
    exact r
  | succ n => exact h.2 n a b (by simpa using ha) (by simpa using hb)
theorem All2.head {x : α} {y : β} (h : All2 R (x :: xs) (y :: ys)) : R x y := h.2 0 x y rfl rfl
theorem All2.tail {x : α} {y : β} (h : All2 R (x :: xs) (y :: ys)) : All2 R xs ys := ⟨by have := h.1; simp at this; exact this, fun i a b ha hb => h.2 (i + 1) a b (by simpa using ha) (by simpa using hb)⟩
theorem All2.get (h : All2 R xs ys) {i : Nat} {x : α} (e : xs[i]? = some x) : ∃ y, ys[i]? = some y ∧ R x y := by
  have hi := (List.getElem?_eq_some_iff.mp e).1
  have hj : i < ys.length := by rw [← h.1]; exact hi
  exact ⟨ys[i], List.getElem?_eq_getElem hj, h.2 i x _ e (List.getElem?_eq_getElem hj)⟩
theorem All2.getR (h : All2 R xs ys) {i : Nat} {y : β} (e : ys[i]? = some y) : ∃ x, xs[i]? = some x ∧ R x y := by
  have hi := (List.getElem?_eq_some_iff.mp e).1
  have hj : i < xs.length := by rw [h.1]; exact hi
  exact ⟨xs[i], List.getElem?_eq_getElem hj, h.2 i _ y (List.getElem?_eq_getElem hj) e⟩
theorem All2.perm {xs' : List α} (p : xs'.Perm xs) : ∀ {ys : List β}, All2 R xs ys → ∃ ys', ys'.Perm ys ∧ All2 R xs' ys' := by
  induction p with
  | nil => intro ys h; exact ⟨ys, .refl _, h⟩
  | @cons a l1 l2 p ih =>
    intro ys h
    cases ys with
    | nil => have := h.1; simp at this
    | cons y ys =>
      obtain ⟨ys', p', h'⟩ := ih h.tail
      exact ⟨y :: ys', p'.cons y, h'.cons h.head⟩
  | swap a b l =>
    intro ys h
    match ys, h with
    | [], h => have := h.1; simp at this
    | [_], h => have := h.1; simp at this
    | y :: z :: ys, h => exact ⟨z :: y :: ys, .swap _ _ _, All2.cons h.tail.head (All2.cons h.head h.tail.tail)⟩
  | trans p1 p2 ih1 ih2 =>
    intro ys h
    obtain ⟨ys1, q1, h1⟩ := ih2 h
    obtain ⟨ys2, q2, h2⟩ := ih1 h1
    exact ⟨ys2, q2.trans q1, h2⟩
end
/-! ### nets as data -/
def kindAt (gs : List Gt) (i : Nat) : Str := (gs.getD i ("", 0)).1
def cnt (ws : List Wr) (e : Nat) : Nat := ws.countP (fun x => x.2.1 == e)
/-- a wire between these gates -/
structure WOk (gs : List Gt) (x : Wr) : Prop where
  s : x.1 < gs.length
  e : x.2.1 < gs.length
  ks : kindAt gs x.1 ≠ "out"
  ke : kindAt gs x.2.1 ≠ "in"
  r : ROk x.2.2
  rl : x.2.2.length ≤ 100
structure NetOk (gs : List Gt) (ws : List Wr) : Prop where
  ne : gs ≠ []
  gl : gs.length ≤ 100
  wl : ws.length ≤ 1000
  gok : ∀ g ∈ gs, GOk g
  wok : ∀ x ∈ ws, WOk gs x
  one : ∀ e, e < gs.length → kindAt gs e = "out" → cnt ws e = 1
  some : ∀ e, e < gs.length → kindAt gs e = "first" → 1 ≤ cnt ws e
  rank : ∃ ρ : Nat → Nat, ∀ x ∈ ws, x.2.2 = [] → ρ x.1 < ρ x.2.1
/-- numbered anew: the gate k is the old gate at left's place k -/
theorem NetOk.anew {gs : List Gt} {ws : List Wr} {left : List Nat} (N : NetOk gs ws) (p : left.Perm (List.range gs.length)) {ws' : List Wr} (pw : ws'.Perm ws) :
    NetOk (left.map fun k => gs.getD k ("", 0)) (ws'.map fun x => (left.idxOf x.1, left.idxOf x.2.1, x.2.2)) := by
  have hl : left.length = gs.length := by rw [p.length_eq, List.length_range]
  have nd : left.Nodup := p.nodup_iff.mpr List.nodup_range
  have mem : ∀ i, i < gs.length → i ∈ left := fun i hi => p.mem_iff.mpr (List.mem_range.mpr hi)
  have memb : ∀ i, i ∈ left → i < gs.length := fun i hi => List.mem_range.mp (p.mem_iff.mp hi)
  have il : ∀ i, i < gs.length → left.idxOf i < left.length := fun i hi => List.idxOf_lt_length_iff.mpr (mem i hi)
  have ge : ∀ i (h : i < gs.length), left[left.idxOf i]? = Option.some i := fun i h => by
    rw [List.getElem?_eq_getElem (il i h), List.getElem_idxOf]
  have kk : ∀ i, i < gs.length → kindAt (left.map fun k => gs.getD k ("", 0)) (left.idxOf i) = kindAt gs i := fun i h => by
    unfold kindAt
    rw [List.getD_eq_getElem?_getD, List.getElem?_map, ge i h]
    rfl
  have inj : ∀ i j, i < gs.length → j < gs.length → left.idxOf i = left.idxOf j → i = j := fun i j hi hj e => by
    have h1 := ge i hi
    rw [e, ge j hj] at h1
    exact (Option.some.inj h1).symm
  have cc : ∀ e, e < gs.length → cnt (ws'.map fun x => (left.idxOf x.1, left.idxOf x.2.1, x.2.2)) (left.idxOf e) = cnt ws e := fun e he => by
    unfold cnt
    rw [List.countP_map, ← pw.countP_eq]
    refine List.countP_congr fun x hx => ?_
    have := (N.wok x (pw.mem_iff.mp hx)).e
    simp only [Function.comp, beq_iff_eq]
    exact ⟨fun z => inj _ _ this he z, fun z => by rw [z]⟩
  have back : ∀ e, e < left.length → ∃ i, i < gs.length ∧ left.idxOf i = e := fun e he => by
    refine ⟨left[e], memb _ (List.getElem_mem he), ?_⟩
    exact List.Nodup.idxOf_getElem nd e he
  obtain ⟨ρ, hρ⟩ := N.rank
  refine ⟨?_, by simpa [hl] using N.gl, by simpa [pw.length_eq] using N.wl, ?_, ?_, ?_, ?_, ?_⟩
  · intro z
    have := congrArg List.length z
    simp [hl] at this
    exact N.ne this
  · intro g hg
    obtain ⟨k, hk, rfl⟩ := List.mem_map.mp hg
    refine N.gok _ ?_
    rw [List.getD_eq_getElem?_getD, List.getElem?_eq_getElem (memb k hk)]
    exact List.getElem_mem _
  · intro y hy
    obtain ⟨x, hx, rfl⟩ := List.mem_map.mp hy
    have W := N.wok x (pw.mem_iff.mp hx)
    refine ⟨by simpa using il _ W.s, by simpa using il _ W.e, ?_, ?_, W.r, W.rl⟩
    · show kindAt _ (left.idxOf x.1) ≠ _
      rw [kk _ W.s]
      exact W.ks
    · show kindAt _ (left.idxOf x.2.1) ≠ _
      rw [kk _ W.e]
      exact W.ke
  · intro e he hk
    obtain ⟨i, hi, rfl⟩ := back e (by simpa using he)
    rw [kk i hi] at hk
    rw [cc i hi]
    exact N.one i hi hk
  · intro e he hk
    obtain ⟨i, hi, rfl⟩ := back e (by simpa using he)
    rw [kk i hi] at hk
    rw [cc i hi]
    exact N.some i hi hk
  · refine ⟨fun k => ρ (left.getD k 0), fun y hy h => ?_⟩
    obtain ⟨x, hx, rfl⟩ := List.mem_map.mp hy
    have W := N.wok x (pw.mem_iff.mp hx)
    have := hρ x (pw.mem_iff.mp hx) h
    simp only [List.getD_eq_getElem?_getD, ge _ W.s, ge _ W.e, Option.getD_some]
    exact this
end Lag

set_option maxRecDepth 100000
set_option maxHeartbeats 4000000
namespace Lag
open PySem PySem.Spec PyProof.Rows L2
/-! ### [left.pop(draw(well, len(left))) for k in range(len(left))] -/
theorem set_well {wl D : Addr} {H0 H : Hp} {o : HO} (d : Dr wl H0 H) (h0 : H0 D = none) (n : D ≠ wl) : Dr wl H0 (upd H D o) := by
  refine ⟨fun c u nc e => ?_, ?_⟩
  · rw [upd_ne (ne_of_none e h0)]
    exact d.but c u nc e
  · obtain ⟨x1, x2, x3, hx⟩ := d.well
    exact ⟨x1, x2, x3, by rw [upd_ne n.symm]; exact hx⟩
theorem perm_erase {α : Type} : ∀ (l : List α) (k : Nat) (h : k < l.length), (l[k] :: l.eraseIdx k).Perm l
  | [], k, h => by simp at h
  | a :: l, 0, _ => .refl _
  | a :: l, k + 1, h => by
    have h' : k < l.length := by simpa using h
    show (l[k] :: a :: l.eraseIdx k).Perm (a :: l)
    exact (List.Perm.swap _ _ _).trans ((perm_erase l k h').cons a)
theorem perm_pop {α : Type} {acc rem xs : List α} {k : Nat} {y : α} (h : (acc ++ rem).Perm xs) (e : rem[k]? = some y) : ((acc ++ [y]) ++ rem.eraseIdx k).Perm xs := by
  obtain ⟨hk, rfl⟩ := List.getElem?_eq_some_iff.mp e
  refine List.Perm.trans ?_ h
  rw [List.append_assoc]
  refine List.Perm.append_left acc ?_
  exact perm_erase rem k hk
def tLen (K : PySem.W.Frag) (i : Nat) : TE := tCB (Evl.rLenS K) (tCons (tVar i) tNil)
def popT (K : PySem.W.Frag) : TE := tLc (iRng1 (tCons (tLen K 10) tNil)) (gName 3) tYes (tBM K "list" rPopAt (tVar 10) (tCons (tCall spDraw [] E0 (tCons (tVar 0) (tCons (tLen K 10) tNil))) tNil)) [3]
theorem popAll {K : PySem.W.Frag} {σ : L2.St} {H : Hp} {Q : VK} {wl L : Addr} {vs : List V} (h0 : σ[0]? = some (some (.ref wl))) (h10 : σ[10]? = some (some (.ref L))) (hL : H L = some (.lst vs)) (hw : WellAt wl H) (hn : L ≠ wl) (hz : vs.length ≤ 1000)
    (q : ∀ D vs' H', vs'.Perm vs → H D = none → H' D = some (.lst vs') → (∀ b o, b ≠ wl → b ≠ L → H b = some o → H' b = some o) → WellAt wl H' → Q (.ref D) H') : popT K σ H Q := by
  have s0 : ∀ x, (((wipe σ [3]).set 3 x))[0]? = some (some (.ref wl)) := fun x => by
    show (((σ.set 3 none).set 3 x))[0]? = _
    rw [List.getElem?_set_ne (by decide), List.getElem?_set_ne (by decide)]
    exact h0
  have s10 : ∀ x, (((wipe σ [3]).set 3 x))[10]? = some (some (.ref L)) := fun x => by
    show (((σ.set 3 none).set 3 x))[10]? = _
    rw [List.getElem?_set_ne (by decide), List.getElem?_set_ne (by decide)]
    exact h10
  refine ⟨_, h10, L, vs, rfl, .inl (SqL.of hL), _, rfl, by omega, by omega, fun D hD => ?_⟩
  have nDL : L ≠ D := ne_of_none hL hD
  have nDw : D ≠ wl := (hw.ne hD).symm
  refine lc_range (lo := 0) (n := ((vs.length : Int)).toNat) (fun i H3 => ∃ acc rem : List V, acc.length = i ∧ (acc ++ rem).Perm vs ∧ H3 D = some (.lst acc) ∧ H3 L = some (.lst rem) ∧ (∀ b o, b ≠ wl → b ≠ L → H b = some o → H3 b = some o) ∧ WellAt wl H3)
    ⟨[], vs, rfl, by simp, upd_same, by rw [upd_ne nDL]; exact hL, fun b o _ _ e => by rw [upd_ne (ne_of_none e hD)]; exact e, hw.new hD⟩ ?_ ?_
  · rintro i H3 hi ⟨acc, rem, hal, hp, hDa, hLr, hk, hw3⟩
    have hlen : acc.length + rem.length = vs.length := by
      have := hp.length_eq
      simpa using this
    have hrem : 0 < rem.length := by omega
    refine ⟨?_, tyes ?_⟩
    · show ((σ.set 3 none).set 3 _).set 3 none = σ.set 3 none
      simp
    refine ⟨_, s10 _, .inl ⟨rfl, _, SqL.of hLr⟩, _, s0 _, _, s10 _, L, rem, rfl, .inl (SqL.of hLr), wl, _, rfl, by omega, by omega, hw3, fun d H4 d0 d1 E1 => ?_⟩
    have hj : d.toNat < rem.length := by omega
    have hLr4 := E1.but _ _ hn hLr
    have hDa4 := E1.but _ _ nDw hDa
    have hg : rem[d.toNat]? = some rem[d.toNat] := List.getElem?_eq_getElem hj
    refine ⟨L, rem, d, d.toNat, rem[d.toNat], rfl, rfl, hLr4, by omega, by omega, PySem.seqIndex_of d0 d1, hg, ?_⟩
    refine ⟨acc, by rw [upd_ne nDL.symm]; exact hDa4, small1000 (by omega), acc ++ [rem[d.toNat]], rem.eraseIdx d.toNat, by simp [hal], perm_pop hp hg, upd_same, ?_, ?_, ?_⟩
    · rw [upd_ne nDL, upd_same]
    · intro b o nb nL e
      rw [upd_ne (ne_of_none e hD), upd_ne nL]
      exact E1.but _ _ nb (hk b o nb nL e)
    · obtain ⟨x1, x2, x3, hx⟩ := E1.well
      exact ⟨x1, x2, x3, by rw [upd_ne nDw.symm, upd_ne hn.symm]; exact hx⟩
  · rintro H3 ⟨acc, rem, hal, hp, hDa, hLr, hk, hw3⟩
    have hlen : acc.length + rem.length = vs.length := by
      have := hp.length_eq
      simpa using this
    have hr : rem = [] := by
      cases rem with
      | nil => rfl
      | cons _ _ => simp at hlen; omega
    subst hr
    rw [List.append_nil] at hp
    exact q D acc H3 hp hD hDa hk hw3
end Lag

set_option maxRecDepth 100000
set_option maxHeartbeats 4000000
namespace Lag
open PySem PySem.Spec PyProof.Rows L2
abbrev sParts : Stmt := topS 45
/-! ### what stands while the parts are made -/
structure PS1 (K : PySem.W.Frag) (wl : Addr) (H0 H : Hp) (g : Addr) (gs : List Gt) : Prop where
  w0 : WellAt wl H0
  dr : Dr wl H0 H
  gn : H0 g = none
  gl : ∃ vs, H g = some (.lst vs) ∧ All2 (GateV K H) vs gs
  gok : ∀ x ∈ gs, GOk x
  g0 : ∀ x : Gt, gs[0]? = some x → x.1 ≠ ("out" : Str)
theorem PS1.step {K : PySem.W.Frag} {wl g : Addr} {H0 H H' : Hp} {gs : List Gt} (p : PS1 K wl H0 H g gs) (d : Dr wl H H') : PS1 K wl H0 H' g gs := by
  obtain ⟨vs, h, a⟩ := p.gl
  exact ⟨p.w0, p.dr.trans d, p.gn, ⟨vs, d.but _ _ (p.w0.ne p.gn).symm h, a.imp fun _ _ r => r.tk (TK.dr p.dr.well d.but)⟩, p.gok, p.g0⟩
structure PS2 (K : PySem.W.Frag) (wl : Addr) (H0 H : Hp) (g st wi : Addr) (gs : List Gt) (sts : List Nat) (ws : List Wr) : Prop extends PS1 K wl H0 H g gs where
  sn : H0 st = none
  sl : H st = some (.lst (sts.map fun i => V.int (i : Nat)))
  wn : H0 wi = none
  wv : ∃ vs, H wi = some (.lst vs) ∧ All2 (WireV K H) vs ws
  nsw : st ≠ wi
  ngw : g ≠ wi
theorem PS2.step {K : PySem.W.Frag} {wl g st wi : Addr} {H0 H H' : Hp} {gs : List Gt} {sts : List Nat} {ws : List Wr} (p : PS2 K wl H0 H g st wi gs sts ws) (d : Dr wl H H') : PS2 K wl H0 H' g st wi gs sts ws := by
  obtain ⟨vs, h, a⟩ := p.wv
  exact ⟨p.toPS1.step d, p.sn, d.but _ _ (p.w0.ne p.sn).symm p.sl, p.wn, ⟨vs, d.but _ _ (p.w0.ne p.wn).symm h, a.imp fun _ _ r => r.tk (TK.dr p.dr.well d.but)⟩, p.nsw, p.ngw⟩
theorem PS2.app {K : PySem.W.Frag} {wl g st wi : Addr} {H0 H : Hp} {gs : List Gt} {sts : List Nat} {ws : List Wr} {vs : List V} {v : V} {x : Wr} (p : PS2 K wl H0 H g st wi gs sts ws) (hv : H wi = some (.lst vs)) (hx : WireV K H v x) :
    PS2 K wl H0 (upd H wi (.lst (vs ++ [v]))) g st wi gs sts (ws ++ [x]) := by
  obtain ⟨vs', h, a⟩ := p.wv
  obtain ⟨gv, hg, ag⟩ := p.gl
  rw [hv] at h
  cases h
  have t : TK H (upd H wi (.lst (vs ++ [v]))) := TK.lst hv
  exact ⟨⟨p.w0, set_well p.dr p.wn (p.w0.ne p.wn).symm, p.gn, ⟨gv, by rw [upd_ne p.ngw]; exact hg, ag.imp fun _ _ r => r.tk t⟩, p.gok, p.g0⟩, p.sn, by rw [upd_ne p.nsw]; exact p.sl, p.wn, ⟨_, upd_same, (a.imp fun _ _ r => r.tk t).snoc (hx.tk t)⟩, p.nsw, p.ngw⟩
/-- the wires into the gates ahead of i -/
structure WInv (gs : List Gt) (ws : List Wr) (i : Nat) : Prop where
  ok : ∀ x ∈ ws, WOk gs x ∧ (x.2.2 = [] → x.1 < x.2.1) ∧ x.2.1 < i
  one : ∀ e, e < i → kindAt gs e = "out" → cnt ws e = 1
  some : ∀ e, e < i → kindAt gs e = "first" → 1 ≤ cnt ws e
  len : ws.length ≤ 3 * i
  r2 : ∀ x ∈ ws, x.2.2.length ≤ 2
/-- .. and j wires into the gate i -/
structure WInv2 (gs : List Gt) (ws : List Wr) (i j : Nat) : Prop where
  ok : ∀ x ∈ ws, WOk gs x ∧ (x.2.2 = [] → x.1 < x.2.1) ∧ x.2.1 < i + 1
  one : ∀ e, e < i → kindAt gs e = "out" → cnt ws e = 1
  some : ∀ e, e < i → kindAt gs e = "first" → 1 ≤ cnt ws e
  here : cnt ws i = j
  len : ws.length ≤ 3 * i + j
  r2 : ∀ x ∈ ws, x.2.2.length ≤ 2
theorem WInv.go {gs : List Gt} {ws : List Wr} {i : Nat} (h : WInv gs ws i) : WInv2 gs ws i 0 := by
  refine ⟨fun x hx => ⟨(h.ok x hx).1, (h.ok x hx).2.1, by have := (h.ok x hx).2.2; omega⟩, h.one, h.some, ?_, h.len, h.r2⟩
  unfold cnt
  rw [List.countP_eq_zero]
  intro x hx z
  have := (h.ok x hx).2.2
  simp at z
  omega
theorem WInv2.app {gs : List Gt} {ws : List Wr} {i j : Nat} {x : Wr} (h : WInv2 gs ws i j) (hx : WOk gs x) (hr : x.2.2 = [] → x.1 < x.2.1) (he : x.2.1 = i) (h2 : x.2.2.length ≤ 2) : WInv2 gs (ws ++ [x]) i (j + 1) := by
  have c : ∀ e, e < i → cnt (ws ++ [x]) e = cnt ws e := fun e he' => by
    unfold cnt
    rw [List.countP_append]
    have : (x.2.1 == e) = false := by simp; omega
    simp [List.countP_cons, this]
  refine ⟨fun y hy => ?_, fun e h1 h2 => by rw [c e h1]; exact h.one e h1 h2, fun e h1 h2 => by rw [c e h1]; exact h.some e h1 h2, ?_, by have := h.len; simp; omega, fun y hy => ?_⟩
  · rcases List.mem_append.mp hy with hy | hy
    · exact h.ok y hy
    · simp at hy
      subst hy
      exact ⟨hx, hr, by omega⟩
  · have := h.here
    unfold cnt at this ⊢
    rw [List.countP_append, this]
    simp [List.countP_cons, he]
  · rcases List.mem_append.mp hy with hy | hy
    · exact h.r2 y hy
    · simp at hy
      subst hy
      exact h2
theorem WInv2.done {gs : List Gt} {ws : List Wr} {i j : Nat} (h : WInv2 gs ws i j) (h1 : kindAt gs i = "out" → j = 1) (h2 : kindAt gs i = "first" → 1 ≤ j) (hj : j ≤ 3) : WInv gs ws (i + 1) := by
  refine ⟨fun x hx => h.ok x hx, fun e he hk => ?_, fun e he hk => ?_, by have := h.len; omega, h.r2⟩
  · by_cases hi : e = i
    · subst hi
      rw [h.here]
      exact h1 hk
    · exact h.one e (by omega) hk
  · by_cases hi : e = i
    · subst hi
      rw [h.here]
      exact h2 hk
    · exact h.some e (by omega) hk
theorem WInv.net {gs : List Gt} {ws : List Wr} (h : WInv gs ws gs.length) (ne : gs ≠ []) (gl : gs.length ≤ 100) (gok : ∀ g ∈ gs, GOk g) : NetOk gs ws :=
  ⟨ne, gl, by have := h.len; omega, gok, fun x hx => (h.ok x hx).1, h.one, h.some, id, fun x hx hr => (h.ok x hx).2.1 hr⟩
theorem many_ok (k : Str) (d2 d4 : Int) (a2 : 0 ≤ d2) (b2 : d2 < 2) (a4 : 0 ≤ d4) (b4 : d4 < 4) :
    ∃ m : Int, (valV (mergeK [] [((Sum.inr "in" : Key), V.int 0), (Sum.inr "out", V.int 1), (Sum.inr "first", V.int (1 + d2))]) (Sum.inr k)).getD (V.int d4) = V.int m ∧ 0 ≤ m ∧ m ≤ 3 ∧ (k = "in" → m = 0) ∧ (k = "out" → m = 1) ∧ (k = "first" → 1 ≤ m) := by
  have n1 : ¬ (("in" : Str) = "out") := by decide +kernel
  have n2 : ¬ (("in" : Str) = "first") := by decide +kernel
  have n3 : ¬ (("out" : Str) = "first") := by decide +kernel
  have e : mergeK [] [((Sum.inr "in" : Key), V.int 0), (Sum.inr "out", V.int 1), (Sum.inr "first", V.int (1 + d2))] = [((Sum.inr "in" : Key), V.int 0), (Sum.inr "out", V.int 1), (Sum.inr "first", V.int (1 + d2))] := by
    simp [mergeK, putK, n1, n2, n3]
  rw [e]
  by_cases h1 : k = "in"
  · subst h1
    rw [valV_pos rfl]
    exact ⟨0, rfl, by decide, by decide, fun _ => rfl, fun z => absurd z n1, fun z => absurd z n2⟩
  · rw [valV_neg (by intro z; exact h1 (Sum.inr.inj z).symm)]
    by_cases h2 : k = "out"
    · subst h2
      rw [valV_pos rfl]
      exact ⟨1, rfl, by decide, by decide, fun z => absurd z h1, fun _ => rfl, fun z => absurd z n3⟩
    · rw [valV_neg (by intro z; exact h2 (Sum.inr.inj z).symm)]
      by_cases h3 : k = "first"
      · subst h3
        rw [valV_pos rfl]
        exact ⟨1 + d2, rfl, by omega, by omega, fun z => absurd z h1, fun z => absurd z h2, fun _ => by omega⟩
      · rw [valV_neg (by intro z; exact h3 (Sum.inr.inj z).symm), valV_nil]
        exact ⟨d4, rfl, by omega, by omega, fun z => absurd z h1, fun z => absurd z h2, fun z => absurd z h3⟩
end Lag

set_option maxRecDepth 100000
set_option maxHeartbeats 8000000
namespace Lag
open PySem PySem.Spec PyProof.Rows L2
/-- lists of gates, of wires, that stand tracked -/
def LG (K : PySem.W.Frag) (H : Hp) (l : Addr) (gs : List Gt) : Prop := ∃ vs, H l = some (.lst vs) ∧ All2 (GateV K H) vs gs
def LW (K : PySem.W.Frag) (H : Hp) (l : Addr) (ws : List Wr) : Prop := ∃ vs, H l = some (.lst vs) ∧ All2 (WireV K H) vs ws
def spParts (K : PySem.W.Frag) : Sp := fun vs H Q _ => ∃ (wl : Addr) (m : Int), vs = [.ref wl, .int m] ∧ 0 < m ∧ m ≤ 20 ∧ WellAt wl H ∧
  ∀ (gs : List Gt) (ws : List Wr) (lg lw p : Addr) (H' : Hp), NetOk gs ws → gs.length ≤ 20 → (∀ x ∈ ws, x.2.2.length ≤ 2) → ws.length ≤ 60 → Dr wl H H' → H lg = none → H lw = none → lg ≠ lw → LG K H' lg gs → LW K H' lw ws → H' p = some (.tup [.ref lg, .ref lw]) → Q (.ref p) H'
abbrev nParts : List Str := ["_law_well_here", "_law_most", "_law_gates", "_law_k", "_law_starts", "_law_wires", "_law_end", "_law_kind", "_law_wait", "_law_many", "_law_left", "_law_gate_here", "_law_start", "_law_row"]
theorem scParts : FnScope nParts ["_law_well_here", "_law_most"] (defScope sParts) := ⟨rfl, rfl, rfl, by decide +kernel, rfl, by decide +kernel, by decide +kernel⟩
theorem kindAt_get {gs : List Gt} {i : Nat} {g : Gt} (h : gs[i]? = some g) : kindAt gs i = g.1 := by
  unfold kindAt
  rw [List.getD_eq_getElem?_getD, h]
  rfl
/-- all but the well and one list is kept -/
theorem TK.two {wl L : Addr} {H H' : Hp} {vs : List V} (W : WellAt wl H) (hL : H L = some (.lst vs)) (k : ∀ b o, b ≠ wl → b ≠ L → H b = some o → H' b = some o) : TK H H' := fun c u t e => by
  obtain ⟨x, y, z, h⟩ := W
  refine k c u (fun z => ?_) (fun z => ?_) e
  · rw [z, h] at e
    cases e
    exact t
  · rw [z, hL] at e
    cases e
    exact t
theorem PS1.two {K : PySem.W.Frag} {wl g L : Addr} {H0 H H' : Hp} {gs : List Gt} {vs : List V} (p : PS1 K wl H0 H g gs) (hL : H L = some (.lst vs)) (h0 : H0 L = none) (ng : g ≠ L) (k : ∀ b o, b ≠ wl → b ≠ L → H b = some o → H' b = some o) (W : WellAt wl H') : PS1 K wl H0 H' g gs := by
  obtain ⟨gv, h, a⟩ := p.gl
  exact ⟨p.w0, ⟨fun b o n e => k b o n (ne_of_none e h0) (p.dr.but b o n e), W⟩, p.gn, ⟨gv, k _ _ (p.w0.ne p.gn).symm ng h, a.imp fun _ _ r => r.tk (TK.two p.dr.well hL k)⟩, p.gok, p.g0⟩
theorem all2_eq {α β : Type} {f : β → α} : ∀ {xs : List α} {ys : List β}, All2 (fun x y => x = f y) xs ys → xs = ys.map f
  | [], [], _ => rfl
  | [], _ :: _, h => by have := h.1; simp at this
  | _ :: _, [], h => by have := h.1; simp at this
  | x :: xs, y :: ys, h => by rw [List.map_cons, ← all2_eq h.tail, ← h.head]
theorem eq_all2 {α β : Type} {f : β → α} (ys : List β) : All2 (fun x y => x = f y) (ys.map f) ys := ⟨by simp, fun i x y h1 h2 => by
  rw [List.getElem?_map, h2] at h1
  exact (Option.some.inj h1).symm⟩
theorem rgV_nat (n : Nat) : rgV 0 (n : Int) = (List.range n).map fun i => V.int (i : Nat) := by
  unfold rgV
  have : ((n : Int) - 0).toNat = n := by omega
  rw [this]
  refine List.map_congr_left fun i _ => ?_
  rw [Int.zero_add]
theorem flat_ints (l : List Nat) : (l.map fun i => V.int (i : Nat)).all flatV = true := by
  rw [List.all_eq_true]
  intro x hx
  obtain ⟨i, _, rfl⟩ := List.mem_map.mp hx
  rfl
/-- where a number stands among numbers without two alike -/
theorem idx_at {left : List Nat} {a : Nat} (h : a ∈ left) : (left.map fun i => V.int (i : Nat))[left.idxOf a]? = some (V.int (a : Nat)) := by
  rw [List.getElem?_map, List.getElem?_eq_getElem (List.idxOf_lt_length_iff.mpr h), List.getElem_idxOf]
  rfl
theorem eqV_int (a b : Int) : eqV (V.int a) (V.int b) = decide (a = b) := rfl
theorem idx_no {left : List Nat} {a m : Nat} {z : V} (nd : left.Nodup) (hm : m < left.idxOf a) (h : (left.map fun i => V.int (i : Nat))[m]? = some z) : eqV z (V.int (a : Nat)) = false := by
  rw [List.getElem?_map] at h
  cases e : left[m]? with
  | none =>
    rw [e] at h
    cases h
  | some b =>
    rw [e] at h
    cases h
    rw [eqV_int]
    refine decide_eq_false fun z => ?_
    have z : b = a := by omega
    obtain ⟨hm', eb⟩ := List.getElem?_eq_some_iff.mp e
    have := List.Nodup.idxOf_getElem nd m hm'
    rw [eb, z] at this
    omega
section
variable {P : Program} {w : World} {K : PySem.W.Frag} {mg : Str → Option Value} {base : Heap}
abbrev DParts (P : Program) (w : World) (K : PySem.W.Frag) (mg : Str → Option Value) (base : Heap) := Df P w K mg base 4 "_law_parts" ["_law_well_here", "_law_most"] (spParts K)
theorem ok_parts {f fD fO fG fW : Addr} {fd fdD fdO fdG fdW : FuncData} (F : Fun K "_law_parts" "_law_parts" sParts f fd) (hm : mg "_law_parts" = some (.ref f)) (DD : DDraw P w K mg base fD fdD) (DO : DOne P w K mg base fO fdO)
    (DG : DGate P w K mg base fG fdG) (DW : DWire P w K mg base fW fdW) (me : mg "enumerate" = none) (mr : mg "range" = none) (ml : mg "len" = none) (mls : mg "list" = none) : DParts P w K mg base f fd := by
  refine ⟨?_, hm, F.kp, F.binds fun _ _ _ _ _ _ us hl => match us, hl with | [_, _], _ => rfl⟩
  refine F.ok scParts (fun vs H Q E h => ?_) (fun cdv A outer s H vs Q E hr h => ?_)
  · obtain ⟨wl, m, rfl, _⟩ := h
    rfl
  · obtain ⟨wl, m, rfl, hm0, hm1, hw, q⟩ := h
    have hr1 : Room 1 _ := hr.mono (by decide)
    have hr2 : Room 2 _ := hr.mono (by decide)
    have nd := scParts.nd
    refine ⟨_, pss_cons (ps_set (i := 2) nd rfl (Or.inr rfl) (pe_lst pa_nil)) <|
      pss_cons (ps_for PassesOwn.never rfl (pi_range1 (by rfl) mr (pa_cons (pe_op op_add pe_int (pe_call DD.ok hr1 (by rfl) DD.mg DD.kp DD.bd .nil pass0 (pa_cons (pv 0) (pa_cons (pv 1) pa_nil)))) pa_nil)) (pg_name (i := 3) nd rfl (Or.inl rfl)) <|
        pss_one <| ps_expr <| pe_bm PySem.F.plainAttrs_list PySem.F.slot_list_append PySem.F.type_list_append mt_append (pv 2) <| (pa_cons · pa_nil) <| pe_call DG.ok hr (by rfl) DG.mg DG.kp DG.bd .nil pass0 <| pa_cons (pv 0) <| pa_cons (pe_cmpR op_eq (pv 3) pe_int (nomark _)) pa_nil) <|
      pss_cons (ps_setLc (i := 4) (own := [("_law_k", 3), ("_law_gate_here", 11)]) (g := gTup K 2 (gCons (gName 3) (gCons (gName 11) gNil))) (tt := tTest (tOp rNe (tOp (rIxT K) (tVar 11) (tC (.int 0))) (tC (.str "out")))) (te := tVar 3) rfl nd rfl rfl (sw_true rfl rfl rfl (by decide +kernel))
          (pi_enum (by rfl) me (pa_cons (pv 2) pa_nil)) (blkOk_by (N := nParts) (sc := defScope sParts) (own := [("_law_k", 3), ("_law_gate_here", 11)]) (by decide +kernel))
          (fun _ _ _ _ _ => pg_tup rfl (pgs_cons (pg_name (i := 3) nd rfl (Or.inl rfl)) (pgs_cons (pg_name (i := 11) nd rfl (Or.inl rfl)) pgs_nil)))
          (fun _ _ _ _ _ => pts_one (pt_cmpR op_ne (pe_ix ix_tup (pv 11) pe_int (fun _ _ => rfl)) pe_str (nomark _))) (fun _ _ _ _ _ => pv 3)) <|
      pss_cons (ps_set (i := 5) nd rfl (Or.inl rfl) (pe_lst pa_nil)) <|
      pss_cons (ps_for PassesOwn.never rfl (pi_enum (by rfl) me (pa_cons (pv 2) pa_nil)) (pg_tup rfl (pgs_cons (pg_name (i := 6) nd rfl (Or.inl rfl)) (pgs_cons (pg_tup rfl (pgs_cons (pg_name (i := 7) nd rfl (Or.inl rfl)) (pgs_cons (pg_name (i := 8) nd rfl (Or.inl rfl)) pgs_nil))) pgs_nil))) <|
        pss_cons (ps_set (i := 9) nd rfl (Or.inl rfl) (pe_dget2 (hu_of hr) (pe_disp (pps_cons pe_str pe_int (pps_cons pe_str pe_int (pps_cons pe_str (pe_op op_add pe_int (pe_call DD.ok hr1 (by rfl) DD.mg DD.kp DD.bd .nil pass0 (pa_cons (pv 0) (pa_cons pe_int pa_nil)))) pps_nil))) (by rfl) (by rfl) (fun z => by cases z) (by decide))
            (pv 7) (pe_call DD.ok hr1 (by rfl) DD.mg DD.kp DD.bd .nil pass0 (pa_cons (pv 0) (pa_cons pe_int pa_nil))) ⟨rfl, rfl, rfl, rfl⟩)) <|
        pss_one <| ps_for PassesOwn.never rfl (pi_range1 (by rfl) mr (pa_cons (pv 9) pa_nil)) (pg_name (i := 3) nd rfl (Or.inl rfl)) <|
          pss_one <| ps_expr <| pe_bm PySem.F.plainAttrs_list PySem.F.slot_list_append PySem.F.type_list_append mt_append (pv 5) <| (pa_cons · pa_nil) <| pe_call DW.ok hr (by rfl) DW.mg DW.kp DW.bd .nil pass0 <|
            pa_cons (pv 0) <| pa_cons (pe_call DO.ok hr2 (by rfl) DO.mg DO.kp DO.bd .nil pass0 (pa_cons (pv 0) (pa_cons (pv 4) pa_nil))) <| pa_cons (pv 6) pa_nil) <|
      pss_cons (ps_set (i := 10) nd rfl (Or.inr rfl) (pe_callTy call_list_of (by rfl) mls (by decide +kernel) (pa_cons (pv 5) pa_nil))) <|
      Evl.pss_cut (ps_if (pt_cmpR op_eq (pe_call DD.ok hr1 (by rfl) DD.mg DD.kp DD.bd .nil pass0 (pa_cons (pv 0) (pa_cons pe_int pa_nil))) pe_int (nomark _))
        (pss_one (ps_setLc (i := 5) (own := [("_law_k", 3)]) (g := gName 3) (tt := tYes) (te := tBM K "list" rPopAt (tVar 10) (tCons (tCall spDraw [] E0 (tCons (tVar 0) (tCons (tLen K 10) tNil))) tNil)) rfl nd rfl rfl (sw_true rfl rfl rfl (by decide +kernel))
          (pi_range1 (by rfl) mr (pa_cons (pe_callB call_len_seq (by rfl) ml PySem.boot_len (pa_cons (pv 10) pa_nil)) pa_nil)) (blkOk_by (N := nParts) (sc := defScope sParts) (own := [("_law_k", 3)]) (by decide +kernel)) (fun _ _ _ _ _ => pg_name (i := 3) nd rfl (Or.inl rfl)) (fun _ _ _ _ _ => pts_nil)
          (fun _ _ _ _ _ => pe_bm PySem.F.plainAttrs_list PySem.F.slot_list_pop PySem.F.type_list_pop mt_popAt (pv 10) (pa_cons (pe_call DD.ok hr1 (by rfl) DD.mg DD.kp DD.bd .nil pass0 (pa_cons (pv 0) (pa_cons (pe_callB call_len_seq (by rfl) ml PySem.boot_len (pa_cons (pv 10) pa_nil)) pa_nil))) pa_nil)))) pss_nil) <|
      pss_cons (ps_set (i := 10) nd rfl (Or.inr rfl) (pe_listRg rfl (by rfl) mls (prg_1 (by rfl) mr (pe_callB call_len_seq (by rfl) ml PySem.boot_len (pa_cons (pv 2) pa_nil))))) <|
      Evl.pss_cut (ps_if (pt_cmpR op_eq (pe_call DD.ok hr1 (by rfl) DD.mg DD.kp DD.bd .nil pass0 (pa_cons (pv 0) (pa_cons pe_int pa_nil))) pe_int (nomark _))
        (pss_one (ps_set (i := 10) nd rfl (Or.inr rfl) (pe_lc (own := [("_law_k", 3)]) (g := gName 3) (tt := tYes) (te := tBM K "list" rPopAt (tVar 10) (tCons (tCall spDraw [] E0 (tCons (tVar 0) (tCons (tLen K 10) tNil))) tNil)) rfl nd
          (pi_range1 (by rfl) mr (pa_cons (pe_callB call_len_seq (by rfl) ml PySem.boot_len (pa_cons (pv 10) pa_nil)) pa_nil)) (blkOk_by (N := nParts) (sc := defScope sParts) (own := [("_law_k", 3)]) (by decide +kernel)) (fun _ _ _ _ _ => pg_name (i := 3) nd rfl (Or.inl rfl)) (fun _ _ _ _ _ => pts_nil)
          (fun _ _ _ _ _ => pe_bm PySem.F.plainAttrs_list PySem.F.slot_list_pop PySem.F.type_list_pop mt_popAt (pv 10) (pa_cons (pe_call DD.ok hr1 (by rfl) DD.mg DD.kp DD.bd .nil pass0 (pa_cons (pv 0) (pa_cons (pe_callB call_len_seq (by rfl) ml PySem.boot_len (pa_cons (pv 10) pa_nil)) pa_nil))) pa_nil))))) pss_nil) <|
      pss_one <| ps_ret <| pe_tup <| pa_cons
        (pe_lc (own := [("_law_k", 3)]) (g := gName 3) (tt := tYes) (te := tOp (rIxL K) (tVar 2) (tVar 3)) rfl nd (pi_list (pv 10)) (blkOk_by (N := nParts) (sc := defScope sParts) (own := [("_law_k", 3)]) (by decide +kernel)) (fun _ _ _ _ _ => pg_name (i := 3) nd rfl (Or.inl rfl)) (fun _ _ _ _ _ => pts_nil)
          (fun _ _ _ _ _ => pe_ix ix_list (pv 2) (pv 3) (fun _ _ => rfl))) <|
        (pa_cons · pa_nil) <| pe_lc (own := [("_law_start", 12), ("_law_end", 6), ("_law_row", 13)]) (g := gTup K 3 (gCons (gName 12) (gCons (gName 6) (gCons (gName 13) gNil)))) (tt := tYes)
            (te := tTup (tCons (tBM K "list" (rIndex K) (tVar 10) (tCons (tVar 12) tNil)) (tCons (tBM K "list" (rIndex K) (tVar 10) (tCons (tVar 6) tNil)) (tCons (tVar 13) tNil)))) rfl nd (pi_list (pv 5))
          (blkOk_by (N := nParts) (sc := defScope sParts) (own := [("_law_start", 12), ("_law_end", 6), ("_law_row", 13)]) (by decide +kernel))
          (fun _ _ _ _ _ => pg_tup rfl (pgs_cons (pg_name (i := 12) nd rfl (Or.inl rfl)) (pgs_cons (pg_name (i := 6) nd rfl (Or.inl rfl)) (pgs_cons (pg_name (i := 13) nd rfl (Or.inl rfl)) pgs_nil)))) (fun _ _ _ _ _ => pts_nil)
          (fun _ _ _ _ _ => pe_tup (pa_cons (pe_bm PySem.F.plainAttrs_list PySem.F.slot_list_index PySem.F.type_list_index mt_index (pv 10) (pa_cons (pv 12) pa_nil)) (pa_cons (pe_bm PySem.F.plainAttrs_list PySem.F.slot_list_index PySem.F.type_list_index mt_index (pv 10) (pa_cons (pv 6) pa_nil)) (pa_cons (pv 13) pa_nil)))), ?_⟩
    -- gates = []
    refine ⟨Nat.zero_le _, fun g hg => ?_⟩
    have ngw : g ≠ wl := (hw.ne hg).symm
    refine ⟨_, rfl, _, rfl, wl, m, rfl, hm0, by omega, hw.new hg, fun d H1 d0 d1 E1 => ?_⟩
    have D1 := (Dr.new (o := .lst []) hw hg).trans E1
    refine ⟨_, _, rfl, rfl, _, rfl, by omega, by omega, ?_⟩
    refine for_range (lo := 0) (n := (1 + d).toNat) (fun i σ H2 => ∃ (k3 : Option V) (gs : List Gt), σ = [some (.ref wl), some (.int m), some (.ref g), k3, none, none, none, none, none, none, none, none, none, none] ∧ gs.length = i ∧ PS1 K wl H H2 g gs)
      ⟨none, [], rfl, rfl, ⟨hw, D1, hg, ⟨[], E1.but _ _ ngw upd_same, All2.nil⟩, by simp, by simp⟩⟩ ?_ ?_
    · rintro i σ H2 hi ⟨k3, gs, rfl, hgl, p1⟩
      obtain ⟨vs, hgv, hga⟩ := p1.gl
      refine ⟨_, rfl, .inl ⟨rfl, _, SqL.of hgv⟩, _, rfl, _, rfl, rfl, wl, _, rfl, p1.dr.well, fun gt p H3 gok gne E2 hp hp3 => ?_⟩
      have hg3 := E2.but _ _ ngw hgv
      have npg : p ≠ g := fun z => by
        rw [z, hgv] at hp
        cases hp
      have t3 : TK H2 H3 := TK.dr p1.dr.well E2.but
      have hlv : vs.length = i := by rw [hga.1, hgl]
      refine ⟨g, vs, _, rfl, rfl, hg3, small1000 (by omega), _, gs ++ [gt], rfl, by simp [hgl], ⟨hw, set_well (p1.dr.trans E2) hg ngw, hg, ⟨_, upd_same, ((hga.imp fun _ _ r => r.tk t3).imp fun _ _ r => r.tk (TK.lst hg3)).snoc ⟨p, rfl, .inl (.inl (by rw [upd_ne npg]; exact hp3))⟩⟩, ?_, ?_⟩⟩
      · intro x hx
        rcases List.mem_append.mp hx with hx | hx
        · exact p1.gok x hx
        · simp at hx
          subst hx
          exact gok
      · intro x hx
        by_cases hi0 : gs.length = 0
        · have : gs = [] := List.length_eq_zero_iff.mp hi0
          subst this
          simp at hx
          subst hx
          refine gne (decide_eq_true ?_)
          have : i = 0 := by simpa using hgl.symm
          subst this
          rfl
        · rw [List.getElem?_append_left (by omega)] at hx
          exact p1.g0 x hx
    · rintro σ H2 ⟨k3, gs, rfl, hgl, p1⟩
      obtain ⟨vs, hgv, hga⟩ := p1.gl
      have hlv : vs.length = gs.length := hga.1
      have hn : gs.length ≤ 20 := by omega
      have hpos : 0 < gs.length := by omega
      -- starts = [k for k, gate in enumerate(gates) if gate[0] != 'out']
      refine ⟨_, rfl, g, vs, rfl, SqL.of hgv, fun st hst => ?_⟩
      refine lc_it (walk_enum (K := K) (a := g) (xs := vs)) (fun i H3 => ∃ sts : List Nat, H3 st = some (.lst (sts.map fun i => V.int (i : Nat))) ∧ (∀ k ∈ sts, k < gs.length ∧ kindAt gs k ≠ "out") ∧ (0 < i → sts ≠ []) ∧ sts.length ≤ i ∧ Same H2 H3)
        ⟨[], upd_same, by simp, by simp, Nat.le_refl _, same_new hst⟩ (fun i H3 _ ⟨_, _, _, _, _, sm⟩ => sm.seq (SqL.of hgv)) ?_ ?_
      · rintro i x H3 H3' hi ⟨sts, hs3, hsk, hs0, hsl, sm⟩ ⟨T, x1, y, rfl, hT, rfl, ex, ey⟩
        cases ex
        obtain ⟨gt, hgt, ga, rfl, sq⟩ := hga.get ey
        have smT : Same H3 (upd H3 T (.tup [.int (i : Nat), .ref ga])) := same_new hT
        have t : TK H2 (upd H3 T (.tup [.int (i : Nat), .ref ga])) := TK.same (sm.trans smT)
        have hsT := smT _ _ hs3
        refine ⟨T, _, rfl, .inl (.inl upd_same), rfl, _, _, rfl, _, _, rfl, rfl, rfl, ?_⟩
        refine ⟨_, rfl, ga, _, 0, .str gt.1, rfl, rfl, t.seq sq, atI_nat (j := 0) rfl, rfl, _, rfl, ite2 (fun e => ?_) (fun e => ?_)⟩
        · have hk : kindAt gs i ≠ "out" := by
            rw [kindAt_get hgt]
            intro z
            rw [z] at e
            simp at e
          refine ⟨_, rfl, _, hsT, by rw [List.length_map]; exact small1000 (by omega), sts ++ [i], ?_, ?_, by simp, by simp; omega, same_mut (sm.trans smT) hst⟩
          · rw [upd_same, List.map_append]
            rfl
          · intro k hk'
            rcases List.mem_append.mp hk' with hk' | hk'
            · exact hsk k hk'
            · simp at hk'
              subst hk'
              exact ⟨by rw [← hlv]; exact hi, hk⟩
        · refine ⟨sts, hsT, hsk, fun _ => ?_, by omega, sm.trans smT⟩
          by_cases hi0 : i = 0
          · subst hi0
            have := p1.g0 gt hgt
            exfalso
            apply e
            simp [this]
          · exact hs0 (by omega)
      · rintro H3 ⟨sts, hs3, hsk, hs0, hsl, sm⟩
        have hsne : sts ≠ [] := hs0 (by omega)
        have p3 : PS1 K wl H H3 g gs := p1.step ⟨But.same sm, p1.dr.well.same sm⟩
        have hst0 : H st = none := p1.dr.free hw hst
        -- wires = []
        refine ⟨Nat.zero_le _, fun wi hwi => ?_⟩
        have p4 : PS2 K wl H (upd H3 wi (.lst [])) g st wi gs sts [] := by
          have d4 : Dr wl H3 (upd H3 wi (.lst [])) := Dr.new p3.dr.well hwi
          obtain ⟨gv, hgv3, _⟩ := p3.gl
          exact ⟨p3.step d4, hst0, same_new hwi _ _ hs3, p3.dr.free hw hwi, ⟨[], upd_same, All2.nil⟩, ne_of_none hs3 hwi, ne_of_none hgv3 hwi⟩
        obtain ⟨gv, hgv4, hga4⟩ := p4.gl
        refine ⟨_, rfl, g, gv, rfl, SqL.of hgv4, for_it (walk_enum (K := K) (a := g) (xs := gv)) (fun i σ H5 => ∃ (k3 s6 s7 s8 s9 : Option V) (ws : List Wr), σ = [some (.ref wl), some (.int m), some (.ref g), k3, some (.ref st), some (.ref wi), s6, s7, s8, s9, none, none, none, none] ∧
            PS2 K wl H H5 g st wi gs sts ws ∧ WInv gs ws i ∧ H5 g = some (.lst gv) ∧ All2 (GateV K H5) gv gs)
          ⟨_, _, _, _, _, [], rfl, p4, ⟨by simp, by simp, by simp, by simp, by simp⟩, hgv4, hga4⟩ (fun i σ H5 _ ⟨_, _, _, _, _, _, _, _, _, e, _⟩ => SqL.of e) ?_ ?_⟩
        · rintro i x σ H5 H5' hi ⟨k3, s6, s7, s8, s9, ws, rfl, p5, hW, hg5, ha5⟩ ⟨T, x1, y, rfl, hT, rfl, ex, ey⟩
          cases ex
          have hlg : gv.length = gs.length := ha5.1
          obtain ⟨gt, hgt, ga, rfl, sq⟩ := ha5.get ey
          have d6 : Dr wl H5 (upd H5 T (.tup [.int (i : Nat), .ref ga])) := Dr.new p5.dr.well hT
          have t6 : TK H5 (upd H5 T (.tup [.int (i : Nat), .ref ga])) := TK.new hT
          refine ⟨T, _, rfl, .inl (.inl upd_same), rfl, _, _, rfl, _, _, rfl, ga, _, rfl, t6.seq sq, rfl, _, _, rfl, _, _, rfl, rfl, rfl, ?_⟩
          have p6 := p5.step d6
          -- many = {..}.get(kind, draw(well, 4))
          intro p hp
          have d7 := Dr.new (o := .dK []) p6.dr.well hp
          have npw : p ≠ wl := (p6.dr.well.ne hp).symm
          refine ⟨_, rfl, wl, 2, rfl, by decide, by decide, d7.well, fun d2 H7 a2 b2 E2 => ⟨_, _, rfl, rfl, ?_⟩⟩
          have d8 := d7.trans E2
          refine ⟨E2.but _ _ npw upd_same, [(Sum.inr "in", V.int 0), (Sum.inr "out", V.int 1), (Sum.inr "first", V.int (1 + d2))], rfl, (by show 3 ≤ 15; decide), ?_⟩
          have np5 := hp
          have d9 : Dr wl (upd H5 T (.tup [.int (i : Nat), .ref ga])) (upd H7 p (.dK (mergeK [] [(Sum.inr "in", V.int 0), (Sum.inr "out", V.int 1), (Sum.inr "first", V.int (1 + d2))]))) := set_well d8 hp npw
          refine ⟨p, rfl, .inl ⟨_, .inl upd_same⟩, _, rfl, _, rfl, wl, 4, rfl, by decide, by decide, d9.well, fun d4 H8 a4 b4 E4 => ?_⟩
          have d10 := d9.trans E4
          refine ⟨_, .inl ⟨_, Sum.inr gt.1, .inl (E4.but _ _ npw upd_same), rfl, rfl⟩, ?_⟩
          obtain ⟨mm, hmm, mm0, mm3, mi, mo, mf⟩ := many_ok gt.1 d2 d4 a2 b2 a4 b4
          rw [hmm]
          have p8 := p6.step d10
          have hk : kindAt gs i = gt.1 := kindAt_get hgt
          have hg8 : H8 g = some (.lst gv) := d10.but _ _ (p6.w0.ne p6.gn).symm (d6.but _ _ (p6.w0.ne p6.gn).symm hg5)
          have t8 : TK H5 H8 := t6.trans (TK.dr p6.dr.well d10.but)
          refine ⟨_, rfl, mm, rfl, by omega, by omega, for_range (lo := 0) (n := mm.toNat) (fun j σ H9 => ∃ (k3 : Option V) (ws : List Wr), σ = [some (.ref wl), some (.int m), some (.ref g), k3, some (.ref st), some (.ref wi), some (.int (i : Nat)), some (.str gt.1), some (.int gt.2), some (.int mm), none, none, none, none] ∧
              PS2 K wl H H9 g st wi gs sts ws ∧ WInv2 gs ws i j ∧ H9 g = some (.lst gv) ∧ All2 (GateV K H9) gv gs)
            ⟨_, ws, rfl, p8, hW.go, hg8, ha5.imp fun _ _ r => r.tk t8⟩ ?_ ?_⟩
          · rintro j σ H9 hj ⟨k3, ws, rfl, p9, hW2, hg9, ha9⟩
            obtain ⟨wv, hwv, hwa⟩ := p9.wv
            have nwl : wi ≠ wl := (p9.w0.ne p9.wn).symm
            refine ⟨_, rfl, .inl ⟨rfl, _, SqL.of hwv⟩, _, rfl, _, rfl, _, rfl, wl, st, _, rfl, (p9.w0.ne p9.sn).symm, p9.dr.well, SqL.of p9.sl, by simpa using hsne, by rw [List.length_map]; omega, fun v H10 hv E10 => ?_⟩
            obtain ⟨a, hak, rfl⟩ := List.mem_map.mp hv
            have p10 := p9.step E10
            refine ⟨_, rfl, wl, a, i, rfl, p10.dr.well, fun r v H11 rok rlen rne E11 hx => ?_⟩
            have p11 := p10.step E11
            have hwv11 := E11.but _ _ nwl (E10.but _ _ nwl hwv)
            have hlw : wv.length = ws.length := hwa.1
            have hg11 := E11.but _ _ (p9.w0.ne p9.gn).symm (E10.but _ _ (p9.w0.ne p9.gn).symm hg9)
            have t11 : TK H9 H11 := (TK.dr p9.dr.well E10.but).trans (TK.dr p10.dr.well E11.but)
            have hil : i < gs.length := by omega
            refine ⟨wi, wv, _, rfl, rfl, hwv11, small1000 (by have := hW2.len; omega), _, ws ++ [(a, i, r)], rfl, p11.app hwv11 hx, hW2.app ⟨(hsk a hak).1, hil, (hsk a hak).2, ?_, rok, by show r.length ≤ 100; omega⟩ ?_ rfl rlen, by rw [upd_ne p9.ngw]; exact hg11, (ha9.imp fun _ _ r => r.tk t11).imp fun _ _ r => r.tk (TK.lst hwv11)⟩
            · show kindAt gs i ≠ "in"
              intro z
              have := mi (by rw [← hk]; exact z)
              omega
            · intro z
              show a < i
              exact Nat.lt_of_not_le fun z2 => rne z2 z
          · rintro σ H9 ⟨k3, ws, rfl, p9, hW2, hg9, ha9⟩
            refine ⟨_, _, _, _, _, ws, rfl, p9, hW2.done (fun z => ?_) (fun z => ?_) (by omega), hg9, ha9⟩
            · have := mo (by rw [← hk]; exact z)
              omega
            · have := mf (by rw [← hk]; exact z)
              omega
        · rintro σ H5 ⟨k3, s6, s7, s8, s9, ws, rfl, p5, hW, hg5, ha5⟩
          have hlg : gv.length = gs.length := ha5.1
          rw [hlg] at hW
          have N : NetOk gs ws := hW.net (by intro z; rw [z] at hpos; simp at hpos) (by omega) p5.gok
          obtain ⟨wv, hwv, hwa⟩ := p5.wv
          have hlw : wv.length = ws.length := hwa.1
          have hws := N.wl
          have nwl : wi ≠ wl := (p5.w0.ne p5.wn).symm
          -- left = list(wires)
          refine ⟨_, rfl, wi, wv, rfl, .inl (SqL.of hwv), fun L hL => ?_⟩
          have d6 : Dr wl H5 (upd H5 L (.lst wv)) := Dr.new p5.dr.well hL
          have p6 := p5.step d6
          have hL0 : H L = none := p5.dr.free hw hL
          have nLw : L ≠ wl := (p5.dr.well.ne hL).symm
          have nwL : wi ≠ L := ne_of_none hwv hL
          have ngL : g ≠ L := ne_of_none hg5 hL
          -- if draw(well, 2) == 0: wires = [..]
          refine ⟨fun σ H7 => ∃ (wi' L' : Addr) (wv' : List V) (ws' : List Wr), σ = [some (.ref wl), some (.int m), some (.ref g), k3, some (.ref st), some (.ref wi'), s6, s7, s8, s9, some (.ref L'), none, none, none] ∧
            H7 wi' = some (.lst wv') ∧ All2 (WireV K H7) wv' ws' ∧ ws'.Perm ws ∧ PS1 K wl H H7 g gs ∧ H wi' = none, ?_, ?_⟩
          · refine ⟨_, rfl, wl, 2, rfl, by decide, by decide, p6.dr.well, fun d H7 d0 d1 E7 => ⟨rfl, _, rfl, ite2 (fun e => ?_) (fun e => ?_)⟩⟩
            · have p7 := p6.step E7
              have hL7 : H7 L = some (.lst wv) := E7.but _ _ nLw upd_same
              have t7 : TK H5 H7 := (TK.new hL).trans (TK.dr p6.dr.well E7.but)
              refine popAll (K := K) (wl := wl) (L := L) (vs := wv) rfl rfl hL7 E7.well nLw (by omega) fun D wv' H8 pm hD hD8 hk8 hw8 => ?_
              obtain ⟨ws', pw, hwa'⟩ := (hwa.imp fun _ _ r => r.tk t7).perm pm
              exact ⟨D, L, wv', ws', rfl, hD8, hwa'.imp fun _ _ r => r.tk (TK.two E7.well hL7 hk8), pw, p7.toPS1.two hL7 hL0 ngL hk8 hw8, p7.dr.free hw hD⟩
            · have p7 := p6.step E7
              have t7 : TK H5 H7 := (TK.new hL).trans (TK.dr p6.dr.well E7.but)
              exact ⟨wi, L, wv, ws, rfl, E7.but _ _ nwl (by rw [upd_ne nwL]; exact hwv), hwa.imp fun _ _ r => r.tk t7, .refl _, p7.toPS1, p5.wn⟩
          · rintro σ H7 ⟨wi', L', wv', ws', rfl, hwv', hwa', pw, p7, hwi0⟩
            obtain ⟨gv7, hg7, ha7⟩ := p7.gl
            have hlg7 : gv7.length = gs.length := ha7.1
            have nwl' : wi' ≠ wl := (hw.ne hwi0).symm
            -- left = list(range(len(gates)))
            refine ⟨_, rfl, g, gv7, rfl, .inl (SqL.of hg7), _, rfl, RgOk.of_le (by omega) (by omega) (by omega) (by omega), fun L2 hL2 => ?_⟩
            rw [rgV_nat, hlg7]
            have d8 : Dr wl H7 (upd H7 L2 (.lst ((List.range gs.length).map fun i => V.int (i : Nat)))) := Dr.new p7.dr.well hL2
            have p8 := p7.step d8
            have hL20 : H L2 = none := p7.dr.free hw hL2
            have nL2w : L2 ≠ wl := (p7.dr.well.ne hL2).symm
            have nwL2 : wi' ≠ L2 := ne_of_none hwv' hL2
            have ngL2 : g ≠ L2 := ne_of_none hg7 hL2
            refine ⟨fun σ H9 => ∃ (L3 : Addr) (left : List Nat), σ = [some (.ref wl), some (.int m), some (.ref g), k3, some (.ref st), some (.ref wi'), s6, s7, s8, s9, some (.ref L3), none, none, none] ∧
              H9 L3 = some (.lst (left.map fun i => V.int (i : Nat))) ∧ left.Perm (List.range gs.length) ∧ H9 wi' = some (.lst wv') ∧ All2 (WireV K H9) wv' ws' ∧ PS1 K wl H H9 g gs, ?_, ?_⟩
            · refine ⟨_, rfl, wl, 2, rfl, by decide, by decide, p8.dr.well, fun d H9 d0 d1 E9 => ⟨rfl, _, rfl, ite2 (fun e => ?_) (fun e => ?_)⟩⟩
              · have p9 := p8.step E9
                have hL9 : H9 L2 = some (.lst ((List.range gs.length).map fun i => V.int (i : Nat))) := E9.but _ _ nL2w upd_same
                have t9 : TK H7 H9 := (TK.new hL2).trans (TK.dr p8.dr.well E9.but)
                have hw9 : H9 wi' = some (.lst wv') := E9.but _ _ nwl' (by rw [upd_ne nwL2]; exact hwv')
                refine popAll (K := K) (wl := wl) (L := L2) rfl rfl hL9 E9.well nL2w (by simp; omega) fun D vs' H10 pm hD hD10 hk10 hw10 => ?_
                obtain ⟨left, pl, al⟩ := (eq_all2 (f := fun i : Nat => V.int (i : Nat)) (List.range gs.length)).perm pm
                refine ⟨D, left, rfl, by rw [← all2_eq al]; exact hD10, pl, hk10 _ _ nwl' nwL2 hw9, (hwa'.imp fun _ _ r => r.tk t9).imp fun _ _ r => r.tk (TK.two E9.well hL9 hk10), p9.two hL9 hL20 ngL2 hk10 hw10⟩
              · have p9 := p8.step E9
                have t9 : TK H7 H9 := (TK.new hL2).trans (TK.dr p8.dr.well E9.but)
                exact ⟨L2, List.range gs.length, rfl, E9.but _ _ nL2w upd_same, .refl _, E9.but _ _ nwl' (by rw [upd_ne nwL2]; exact hwv'), hwa'.imp fun _ _ r => r.tk t9, p9⟩
            · rintro σ H9 ⟨L3, left, rfl, hL3, pl, hw9, hwa9, p9⟩
              obtain ⟨gv9, hg9, ha9⟩ := p9.gl
              have hlg9 : gv9.length = gs.length := ha9.1
              have hll : left.length = gs.length := by rw [pl.length_eq, List.length_range]
              have ndl : left.Nodup := pl.nodup_iff.mpr List.nodup_range
              have memb : ∀ k, k ∈ left → k < gs.length := fun k hk => List.mem_range.mp (pl.mem_iff.mp hk)
              have memr : ∀ k, k < gs.length → k ∈ left := fun k hk => pl.mem_iff.mpr (List.mem_range.mpr hk)
              have hlw9 : wv'.length = ws'.length := hwa9.1
              have hlws : ws'.length = ws.length := pw.length_eq
              -- [gates[k] for k in left]
              refine ⟨_, rfl, L3, rfl, ⟨_, SqL.of hL3⟩, fun D4 hD4 => ?_⟩
              refine lc_list (K := K) (a := L3) (xs := left.map fun i => V.int (i : Nat)) (fun i Hc => ∃ acc, Hc D4 = some (.lst acc) ∧ acc.length = i ∧ All2 (GateV K H9) acc ((left.take i).map fun k => gs.getD k ("", 0)) ∧ Same H9 Hc)
                ⟨[], upd_same, rfl, by simpa using All2.nil, same_new hD4⟩ (fun i Hc _ ⟨_, _, _, _, sm⟩ => sm.seq (SqL.of hL3)) ?_ ?_
              · rintro i x Hc hx ⟨acc, hacc, hal, haa, sm⟩
                rw [List.getElem?_map] at hx
                cases ek : left[i]? with
                | none =>
                  rw [ek] at hx
                  cases hx
                | some k =>
                rw [ek] at hx
                cases hx
                have hk : k < gs.length := memb k (List.mem_of_getElem? ek)
                have hi : i < left.length := (List.getElem?_eq_some_iff.mp ek).1
                refine ⟨rfl, tyes ?_⟩
                refine ⟨_, rfl, _, rfl, g, gv9, k, gv9[k]'(by omega), rfl, rfl, sm.seq (SqL.of hg9), atI_nat (List.getElem?_eq_getElem (by omega)), acc, hacc, small1000 (by omega), acc ++ [gv9[k]'(by omega)], upd_same, by simp [hal], ?_, same_mut sm hD4⟩
                rw [List.take_add_one, ek, List.map_append]
                refine haa.snoc ?_
                show GateV K H9 _ (gs.getD k ("", 0))
                rw [List.getD_eq_getElem?_getD, List.getElem?_eq_getElem hk]
                exact ha9.2 k _ _ (List.getElem?_eq_getElem (by omega)) (List.getElem?_eq_getElem hk)
              · rintro H10 ⟨gacc, hgacc, hgl4, hga4', sm10⟩
                rw [List.length_map] at hgl4 hga4'
                rw [List.take_length] at hga4'
                -- the wires
                refine ⟨_, rfl, wi', rfl, ⟨_, SqL.of (sm10 _ _ hw9)⟩, fun D5 hD5 => ?_⟩
                refine lc_list (K := K) (a := wi') (xs := wv') (fun i Hc => ∃ acc, Hc D5 = some (.lst acc) ∧ acc.length = i ∧ All2 (WireV K Hc) acc ((ws'.take i).map fun x => (left.idxOf x.1, left.idxOf x.2.1, x.2.2)) ∧ Same H10 Hc)
                  ⟨[], upd_same, rfl, by simpa using All2.nil, same_new hD5⟩ (fun i Hc _ ⟨_, _, _, _, sm⟩ => sm.seq (SqL.of (sm10 _ _ hw9))) ?_ ?_
                · rintro i x Hc hx ⟨acc, hacc, hal, haa, sm⟩
                  obtain ⟨y, hy, xa, xb, rfl, sq1, sq2⟩ := hwa9.get hx
                  have hyi : i < ws'.length := (List.getElem?_eq_some_iff.mp hy).1
                  have W := N.wok y (pw.mem_iff.mp (List.mem_of_getElem? hy))
                  have tc : TK H9 Hc := TK.same (sm10.trans sm)
                  have hL3c : SqL K Hc L3 (left.map fun i => V.int (i : Nat)) := SqL.of (sm _ _ (sm10 _ _ hL3))
                  refine ⟨xa, _, rfl, tc.seq sq1, rfl, _, _, rfl, _, _, rfl, _, _, rfl, rfl, rfl, tyes ?_⟩
                  refine ⟨_, rfl, .inl ⟨rfl, _, hL3c⟩, _, rfl, L3, _, _, left.idxOf y.1, _, rfl, rfl, hL3c, rfl, flat_ints _, idx_at (memr _ W.s), by rw [eqV_int]; exact decide_eq_true rfl, fun mm z hm hz => idx_no ndl hm hz, ?_⟩
                  refine ⟨_, rfl, .inl ⟨rfl, _, hL3c⟩, _, rfl, L3, _, _, left.idxOf y.2.1, _, rfl, rfl, hL3c, rfl, flat_ints _, idx_at (memr _ W.e), by rw [eqV_int]; exact decide_eq_true rfl, fun mm z hm hz => idx_no ndl hm hz, ?_⟩
                  refine ⟨_, rfl, (by show 3 ≤ sizeLine; decide), fun t ht => ?_⟩
                  have smt : Same Hc (upd Hc t (.tup [.int (left.idxOf y.1 : Nat), .int (left.idxOf y.2.1 : Nat), .ref xb])) := same_new ht
                  have hDt : (upd Hc t (.tup [.int (left.idxOf y.1 : Nat), .int (left.idxOf y.2.1 : Nat), .ref xb])) D5 = some (.lst acc) := smt _ _ hacc
                  have ntD : t ≠ D5 := fun z => by
                    rw [z, hacc] at ht
                    cases ht
                  refine ⟨acc, hDt, small1000 (by omega), acc ++ [.ref t], upd_same, by simp [hal], ?_, same_mut (sm.trans smt) hD5⟩
                  have t2 : TK Hc (upd (upd Hc t (.tup [.int (left.idxOf y.1 : Nat), .int (left.idxOf y.2.1 : Nat), .ref xb])) D5 (.lst (acc ++ [.ref t]))) := (TK.new ht).trans (TK.lst hDt)
                  rw [List.take_add_one, hy, List.map_append]
                  refine (haa.imp fun _ _ r => r.tk t2).snoc ⟨t, xb, rfl, .inl (.inl (by rw [upd_ne ntD]; exact upd_same)), (tc.trans t2).seq sq2⟩
                · rintro H11 ⟨wacc, hwacc, hwl5, hwa5, sm11⟩
                  rw [hlw9, List.take_length] at hwa5
                  refine ⟨(by show 2 ≤ sizeLine; decide), fun p hp => ?_⟩
                  have smp : Same H11 (upd H11 p (.tup [.ref D4, .ref D5])) := same_new hp
                  have s9 : Same H9 (upd H11 p (.tup [.ref D4, .ref D5])) := (sm10.trans sm11).trans smp
                  have n45 : D4 ≠ D5 := ne_of_none hgacc hD5
                  refine q _ _ D4 D5 p _ (N.anew pl pw) (by rw [List.length_map, hll]; exact hn) (fun x hx => by obtain ⟨y, hy, rfl⟩ := List.mem_map.mp hx; exact hW.r2 y (pw.mem_iff.mp hy)) (by rw [List.length_map, hlws]; have := hW.len; omega) (p9.dr.trans ⟨But.same s9, p9.dr.well.same s9⟩) (p9.dr.free hw hD4) (p9.dr.free hw (sm10.free hD5)) n45 ⟨gacc, smp _ _ (sm11 _ _ hgacc), hga4'.imp fun _ _ r => r.tk (TK.same s9)⟩ ⟨wacc, smp _ _ hwacc, hwa5.imp fun _ _ r => r.tk (TK.same smp)⟩ upd_same
end
end Lag

set_option maxRecDepth 100000
set_option maxHeartbeats 4000000
namespace Lag
open PySem PySem.Spec PyProof.Rows L2
abbrev sWhole : Stmt := topS 9
abbrev sFromTo : Stmt := topS 10
abbrev sWorth : Stmt := topS 11
abbrev sIsGate : Stmt := topS 22
abbrev sChkGates : Stmt := topS 21
/-! ### o[i] of a list, by values -/
def rGetL (K : PySem.W.Frag) : V → V → Hp → VK → Prop := fun o i H Q => ∃ (p : Addr) (xs : List V) (j : Nat) (v : V), o = .ref p ∧ i = .int (j : Nat) ∧ SqL K H p xs ∧ xs[j]? = some v ∧ Q v H
theorem get_list {X : Cx} : PGet X (rGetL X.K) := by
  intro pins s σ H o i ov iv Q I ro ri h
  obtain ⟨p, xs, j, v, rfl, rfl, hq, he, q⟩ := h
  cases ro
  obtain ⟨t, rfl⟩ := ri
  obtain ⟨its, r, pl, hz⟩ := I.list hq
  obtain ⟨w, ew, rw'⟩ := r.get he
  have hl := r.length
  have hn := line63
  have hj : j < its.length := (List.getElem?_eq_some_iff.mp ew).1
  exact wpAny_getItem_list pl.isList (by omega) (by omega) (by simpa using ew) ⟨v, H, I, rw', q⟩
/-! ### names of built-ins, constants of the text -/
structure Bt (mg : Str → Option Value) : Prop where
  isi : mg "isinstance" = none
  int : mg "int" = none
  bool : mg "bool" = none
  len : mg "len" = none
  tuple : mg "tuple" = none
  str : mg "str" = none
  list : mg "list" = none
  all : mg "all" = none
  enum : mg "enumerate" = none
  zip : mg "zip" = none
  range : mg "range" = none
  max : mg "max" = none
structure Cns (K : PySem.W.Frag) (mg : Str → Option Value) (aK aW aF : Addr) : Prop where
  gw : ∃ t, mg "GREATEST_WORTH" = some (.int 96 t)
  ga : ∃ t, mg "GREATEST_WAIT" = some (.int 100 t)
  mK : mg "KINDS" = some (.ref aK)
  sK : ∀ H, SqT K H aK (kinds.map V.str)
  mW : mg "OUTER_KINDS" = some (.ref aW)
  sW : ∀ H, SqT K H aW [.str "in", .str "out"]
  mF : mg "KINDS_WITH_A_WIRE" = some (.ref aF)
  sF : ∀ H, SqT K H aF [.str "out", .str "first"]
theorem ty_tup {K : PySem.W.Frag} {H : Hp} {a : Addr} {xs : List V} (h : SqT K H a xs) : TyX K H (.ref a) (.type "tuple") := by
  rcases h with (h | ⟨o, h⟩) | ⟨o, its, n, hk, hc, _⟩
  · exact .base (.tup h)
  · exact .fTuple h
  · exact .kTuple hk hc
theorem ty_lst {K : PySem.W.Frag} {H : Hp} {a : Addr} {xs : List V} (h : SqL K H a xs) : TyX K H (.ref a) (.type "list") := by
  rcases h with (h | ⟨o, h⟩) | ⟨o, its, n, hk, hc, _⟩
  · exact .base (.lst h)
  · exact .base (.frz h)
  · exact .kList hk hc
/-! ### promises -/
def spWhole : Sp := fun vs H Q _ => ∃ n : Int, vs = [.int n] ∧ Q (.bl true) H
def spFromTo : Sp := fun vs H Q _ => ∃ n a b : Int, vs = [.int n, .int a, .int b] ∧ Q (.bl (decide (a ≤ n) && decide (n ≤ b))) H
def spWorth : Sp := fun vs H Q _ => ∃ n : Int, vs = [.int n] ∧ Q (.bl (decide (0 ≤ n) && decide (n ≤ 96))) H
def spIsGate (K : PySem.W.Frag) : Sp := fun vs H Q _ => ∃ (v : V) (g : Gt), vs = [v] ∧ GateV K H v g ∧ GOk g ∧ ∀ H', Same H H' → Q (.bl true) H'
/-- lists that are read -/
def RG (K : PySem.W.Frag) (H : Hp) (l : Addr) (gs : List Gt) : Prop := ∃ vs, SqL K H l vs ∧ All2 (GateV K H) vs gs
def RW (K : PySem.W.Frag) (H : Hp) (l : Addr) (ws : List Wr) : Prop := ∃ vs, SqL K H l vs ∧ All2 (WireV K H) vs ws
theorem RG.same {K : PySem.W.Frag} {H H' : Hp} {l : Addr} {gs : List Gt} (h : RG K H l gs) (s : Same H H') : RG K H' l gs := by
  obtain ⟨vs, q, a⟩ := h
  exact ⟨vs, s.seq q, a.imp fun _ _ r => r.tk (TK.same s)⟩
theorem RW.same {K : PySem.W.Frag} {H H' : Hp} {l : Addr} {ws : List Wr} (h : RW K H l ws) (s : Same H H') : RW K H' l ws := by
  obtain ⟨vs, q, a⟩ := h
  exact ⟨vs, s.seq q, a.imp fun _ _ r => r.tk (TK.same s)⟩
def spChkGates (K : PySem.W.Frag) : Sp := fun vs H Q _ => ∃ (l : Addr) (gs : List Gt), vs = [.ref l] ∧ RG K H l gs ∧ gs ≠ [] ∧ (∀ g ∈ gs, GOk g) ∧ ∀ H', Same H H' → Q .non H'
section
variable {P : Program} {w : World} {K : PySem.W.Frag} {mg : Str → Option Value} {base : Heap}
/-! ### is_whole, is_whole_from_to, is_worth -/
theorem scWhole : FnScope ["thing"] ["thing"] (defScope sWhole) := ⟨rfl, rfl, rfl, by decide +kernel, rfl, by decide +kernel, by decide +kernel⟩
abbrev DWhole (P : Program) (w : World) (K : PySem.W.Frag) (mg : Str → Option Value) (base : Heap) := Df P w K mg base 1 "is_whole" ["thing"] spWhole
theorem ok_whole {f : Addr} {fd : FuncData} (F : Fun K "is_whole" "is_whole" sWhole f fd) (hm : mg "is_whole" = some (.ref f)) (B : Bt mg) : DWhole P w K mg base f fd := by
  refine ⟨?_, hm, F.kp, F.binds fun _ _ _ _ _ _ us hl => match us, hl with | [_], _ => rfl⟩
  refine F.ok scWhole (fun vs H Q E h => ?_) (fun cdv A outer s H vs Q E hr h => ?_)
  · obtain ⟨n, rfl, _⟩ := h
    rfl
  · obtain ⟨n, rfl, q⟩ := h
    refine ⟨_, pss_one <| ps_ret <| pe_and (pe_callB call_isi (by rfl) B.isi (by decide +kernel) (pa_cons (pv 0) (pa_cons (pe_bltn (v := .ty "int") (by rfl) B.int (by decide +kernel) rfl) pa_nil)))
      (pe_one (pe_not (pe_callB call_isi (by rfl) B.isi (by decide +kernel) (pa_cons (pv 0) (pa_cons (pe_bltn (v := .ty "bool") (by rfl) B.bool (by decide +kernel) rfl) pa_nil))))), ?_⟩
    refine ⟨_, rfl, _, _, _, _, true, rfl, .ty "int", .base (.int n), kit_ty (by decide +kernel), true, rfl, iteT ?_⟩
    exact ⟨_, rfl, _, _, _, _, false, rfl, .ty "bool", .base (.int n), kit_ty (by decide +kernel), false, rfl, q⟩
theorem scFromTo : FnScope ["thing", "least", "greatest"] ["thing", "least", "greatest"] (defScope sFromTo) := ⟨rfl, rfl, rfl, by decide +kernel, rfl, by decide +kernel, by decide +kernel⟩
abbrev DFromTo (P : Program) (w : World) (K : PySem.W.Frag) (mg : Str → Option Value) (base : Heap) := Df P w K mg base 2 "is_whole_from_to" ["thing", "least", "greatest"] spFromTo
theorem ok_fromTo {f fW : Addr} {fd fdW : FuncData} (F : Fun K "is_whole_from_to" "is_whole_from_to" sFromTo f fd) (hm : mg "is_whole_from_to" = some (.ref f)) (DW : DWhole P w K mg base fW fdW) : DFromTo P w K mg base f fd := by
  refine ⟨?_, hm, F.kp, F.binds fun _ _ _ _ _ _ us hl => match us, hl with | [_, _, _], _ => rfl⟩
  refine F.ok scFromTo (fun vs H Q E h => ?_) (fun cdv A outer s H vs Q E hr h => ?_)
  · obtain ⟨n, a, b, rfl, _⟩ := h
    rfl
  · obtain ⟨n, a, b, rfl, q⟩ := h
    refine ⟨_, pss_one <| ps_ret <| pe_and (pe_call DW.ok hr (by rfl) DW.mg DW.kp DW.bd .nil pass0 (pa_cons (pv 0) pa_nil)) (pe_one (pe_chain op_le op_le (pv 1) (pv 0) (pv 2))), ?_⟩
    refine ⟨_, rfl, n, rfl, true, rfl, iteT ?_⟩
    refine ⟨_, rfl, _, rfl, _, _, rfl, rfl, _, rfl, ?_⟩
    cases e : decide (a ≤ n) with
    | false =>
      rw [e] at q
      exact iteF q
    | true =>
      rw [e] at q
      exact iteT ⟨_, rfl, _, _, rfl, rfl, q⟩
theorem scWorth : FnScope ["thing"] ["thing"] (defScope sWorth) := ⟨rfl, rfl, rfl, by decide +kernel, rfl, by decide +kernel, by decide +kernel⟩
abbrev DWorth (P : Program) (w : World) (K : PySem.W.Frag) (mg : Str → Option Value) (base : Heap) := Df P w K mg base 3 "is_worth" ["thing"] spWorth
theorem ok_worth {f fF aK aW aF : Addr} {fd fdF : FuncData} (F : Fun K "is_worth" "is_worth" sWorth f fd) (hm : mg "is_worth" = some (.ref f)) (C : Cns K mg aK aW aF) (DF : DFromTo P w K mg base fF fdF) : DWorth P w K mg base f fd := by
  obtain ⟨tg, hgw⟩ := C.gw
  refine ⟨?_, hm, F.kp, F.binds fun _ _ _ _ _ _ us hl => match us, hl with | [_], _ => rfl⟩
  refine F.ok scWorth (fun vs H Q E h => ?_) (fun cdv A outer s H vs Q E hr h => ?_)
  · obtain ⟨n, rfl, _⟩ := h
    rfl
  · obtain ⟨n, rfl, q⟩ := h
    refine ⟨_, pss_one <| ps_ret <| pe_call DF.ok hr (by rfl) DF.mg DF.kp DF.bd .nil pass0 <| pa_cons (pv 0) <| pa_cons pe_int <| pa_cons (pe_glob (v := .int 96) (by rfl) hgw ⟨_, rfl⟩) pa_nil, ?_⟩
    exact ⟨_, rfl, n, 0, 96, rfl, q⟩
/-! ### is_gate -/
theorem scIsGate : FnScope ["thing", "kind", "wait"] ["thing"] (defScope sIsGate) := ⟨rfl, rfl, rfl, by decide +kernel, rfl, by decide +kernel, by decide +kernel⟩
abbrev DIsGate (P : Program) (w : World) (K : PySem.W.Frag) (mg : Str → Option Value) (base : Heap) := Df P w K mg base 3 "is_gate" ["thing"] (spIsGate K)
theorem kinds_in {k : Str} (h : k ∈ kinds) : inV (.str k) (kinds.map V.str) = true := by
  unfold inV
  rw [List.any_eq_true]
  exact ⟨.str k, List.mem_map.mpr ⟨k, h, rfl⟩, beq_self_eq_true k⟩
theorem flat_strs (l : List Str) : (l.map V.str).all flatV = true := by
  rw [List.all_eq_true]
  intro x hx
  obtain ⟨i, _, rfl⟩ := List.mem_map.mp hx
  rfl
theorem ok_isGate {f fF aK aW aF : Addr} {fd fdF : FuncData} (F : Fun K "is_gate" "is_gate" sIsGate f fd) (hm : mg "is_gate" = some (.ref f)) (B : Bt mg) (C : Cns K mg aK aW aF) (DF : DFromTo P w K mg base fF fdF) : DIsGate P w K mg base f fd := by
  obtain ⟨tg, hga⟩ := C.ga
  refine ⟨?_, hm, F.kp, F.binds fun _ _ _ _ _ _ us hl => match us, hl with | [_], _ => rfl⟩
  refine F.ok scIsGate (fun vs H Q E h => ?_) (fun cdv A outer s H vs Q E hr h => ?_)
  · obtain ⟨v, g, rfl, _⟩ := h
    rfl
  · obtain ⟨v, g, rfl, ⟨a, rfl, sq⟩, gok, q⟩ := h
    have nd := scIsGate.nd
    refine ⟨_, pss_cons (ps_if (PW.pt (pw_or (pt_not (pt_val (pe_callB call_isi (by rfl) B.isi (by decide +kernel) (pa_cons (pv 0) (pa_cons (pe_bltn (v := .ty "tuple") (by rfl) B.tuple (by decide +kernel) rfl) pa_nil)))))
          (pw_or1 (pt_cmpR op_ne (pe_callB call_len_seq (by rfl) B.len PySem.boot_len (pa_cons (pv 0) pa_nil)) pe_int (nomark _))))) (pss_one (ps_ret pe_bl)) pss_nil) <|
      pss_cons (ps_asg (pv 0) (pg_tup (by rfl) (pgs_cons (pg_name (i := 1) nd rfl (.inl rfl)) (pgs_cons (pg_name (i := 2) nd rfl (.inl rfl)) pgs_nil)))) <|
      pss_cons (ps_if (PW.pt (pw_or (pt_not (pt_val (pe_callB call_isi (by rfl) B.isi (by decide +kernel) (pa_cons (pv 1) (pa_cons (pe_bltn (v := .ty "str") (by rfl) B.str (by decide +kernel) rfl) pa_nil)))))
          (pw_or1 (pt_cmpR op_notIn_seq (pv 1) (pe_glob (v := .ref aK) (by rfl) C.mK rfl) (by rfl))))) (pss_one (ps_ret pe_bl)) pss_nil) <|
      pss_one <| ps_ret <| pe_call DF.ok hr (by rfl) DF.mg DF.kp DF.bd .nil pass0 <| pa_cons (pv 2) <| pa_cons pe_int <| (pa_cons · pa_nil) <|
        pe_ifExp (pt_cmpR op_in_seq (pv 1) (pe_glob (v := .ref aW) (by rfl) C.mW rfl) (by rfl)) pe_int (pe_glob (v := .int 100) (by rfl) hga ⟨_, rfl⟩), ?_⟩
    refine ⟨_, rfl, _, _, _, _, true, rfl, .ty "tuple", ty_tup sq, kit_ty (by decide +kernel), true, rfl, ?_⟩
    refine iteF ⟨_, rfl, a, _, rfl, .inr sq, rfl, _, rfl, iteF ?_⟩
    refine ⟨_, rfl, a, _, rfl, sq, rfl, _, _, rfl, _, _, rfl, rfl, ?_⟩
    refine ⟨_, rfl, _, _, _, _, true, rfl, .ty "str", .base (.str g.1), kit_ty (by decide +kernel), true, rfl, ?_⟩
    refine iteF ⟨_, rfl, aK, _, rfl, .inr (C.sK H), rfl, flat_strs _, false, ?_, iteF ?_⟩
    · show V.bl (!inV (V.str g.1) (kinds.map V.str)) = V.bl false
      rw [kinds_in gok.1]
      rfl
    refine ⟨_, rfl, _, rfl, aW, _, rfl, .inr (C.sW H), rfl, rfl, _, rfl, ite2 (fun e => ?_) (fun e => ?_)⟩
    · have hp : portK g.1 := by
        have e' : inV (V.str g.1) [V.str "in", V.str "out"] = true := e
        unfold inV at e'
        rw [List.any_eq_true] at e'
        obtain ⟨x, hx, hxe⟩ := e'
        simp only [List.mem_cons, List.not_mem_nil, or_false] at hx
        rcases hx with rfl | rfl
        · exact .inl (eq_of_beq hxe).symm
        · exact .inr (eq_of_beq hxe).symm
      have h0 := gok.2.2.2 hp
      refine ⟨g.2, 0, 0, rfl, ?_⟩
      rw [h0]
      exact q H (Same.refl H)
    · refine ⟨g.2, 0, 100, rfl, ?_⟩
      rw [decide_eq_true gok.2.1, decide_eq_true gok.2.2.1]
      exact q H (Same.refl H)
end
end Lag

set_option maxRecDepth 100000
set_option maxHeartbeats 4000000
namespace Lag
open PySem PySem.Spec PyProof.Rows L2
abbrev sIsWire : Stmt := topS 24
abbrev sTaken : Stmt := topS 25
def spIsWire (K : PySem.W.Frag) : Sp := fun vs H Q _ => ∃ (v : V) (x : Wr) (n : Nat), vs = [v, .int (n : Nat)] ∧ WireV K H v x ∧ x.1 < n ∧ x.2.1 < n ∧ ROk x.2.2 ∧ x.2.2.length ≤ 1000 ∧ ∀ H', Same H H' → Q (.bl true) H'
def spTaken (K : PySem.W.Frag) : Sp := fun vs H Q _ => ∃ (v : V) (x : Wr) (lg lc : Addr) (gs : List Gt) (cs : List Nat), vs = [v, .ref lg, .ref lc] ∧ WireV K H v x ∧ RG K H lg gs ∧ SqL K H lc (cs.map fun i => V.int (i : Nat)) ∧ WOk gs x ∧ cs.length = gs.length ∧
  (kindAt gs x.2.1 = "out" → cs[x.2.1]? = some 0) ∧ Q (.bl true) H
section
variable {P : Program} {w : World} {K : PySem.W.Frag} {mg : Str → Option Value} {base : Heap}
/-! ### check_gates -/
theorem scChkGates : FnScope ["gates", "thing"] ["gates"] (defScope sChkGates) := ⟨rfl, rfl, rfl, by decide +kernel, rfl, by decide +kernel, by decide +kernel⟩
abbrev DChkGates (P : Program) (w : World) (K : PySem.W.Frag) (mg : Str → Option Value) (base : Heap) := Df P w K mg base 4 "check_gates" ["gates"] (spChkGates K)
theorem ok_chkGates {f fG : Addr} {fd fdG : FuncData} (F : Fun K "check_gates" "check_gates" sChkGates f fd) (hm : mg "check_gates" = some (.ref f)) (B : Bt mg) (DG : DIsGate P w K mg base fG fdG) : DChkGates P w K mg base f fd := by
  refine ⟨?_, hm, F.kp, F.binds fun _ _ _ _ _ _ us hl => match us, hl with | [_], _ => rfl⟩
  refine F.ok scChkGates (fun vs H Q E h => ?_) (fun cdv A outer s H vs Q E hr h => ?_)
  · obtain ⟨l, gs, rfl, _⟩ := h
    rfl
  · obtain ⟨l, gs, rfl, R, hne, gok, q⟩ := h
    have nd := scChkGates.nd
    refine ⟨_, pss_cons (ps_if (PW.pt (pw_or (pt_not (pt_val (pe_callB call_isi (by rfl) B.isi (by decide +kernel) (pa_cons (pv 0) (pa_cons (pe_bltn (v := .ty "list") (by rfl) B.list (by decide +kernel) rfl) pa_nil)))))
          (pw_or1 (pt_cmpR op_eq (pe_callB call_len_seq (by rfl) B.len PySem.boot_len (pa_cons (pv 0) pa_nil)) pe_int (nomark _))))) (pss_one ps_never) pss_nil) <|
      pss_one <| ps_for PassesOwn.never rfl (pi_list (pv 0)) (pg_name (i := 1) nd rfl (.inl rfl)) <|
        pss_one <| ps_if (pt_not (pt_val (pe_call DG.ok hr (by rfl) DG.mg DG.kp DG.bd .nil pass0 (pa_cons (pv 1) pa_nil)))) (pss_one ps_never) pss_nil, ?_⟩
    obtain ⟨gv, sg, ga⟩ := R
    have hl : gv.length = gs.length := ga.1
    have hpos : 0 < gs.length := by
      cases gs with
      | nil => exact absurd rfl hne
      | cons _ _ => simp
    refine ⟨_, rfl, _, _, _, _, true, rfl, .ty "list", ty_lst sg, kit_ty (by decide +kernel), true, rfl, ?_⟩
    refine iteF ⟨_, rfl, l, gv, rfl, .inl sg, rfl, false, ?_, iteF ?_⟩
    · show V.bl (decide (V.int (gv.length : Int) = V.int 0)) = V.bl false
      rw [decide_eq_false]
      intro z
      have := V.int.inj z
      omega
    refine ⟨_, rfl, l, rfl, ⟨_, sg⟩, for_list (K := K) (a := l) (xs := gv) (fun i σ H2 => ∃ y, σ = [some (.ref l), y] ∧ Same H H2) ⟨_, rfl, Same.refl H⟩ (fun i σ H2 _ ⟨_, _, sm⟩ => sm.seq sg) ?_ ?_⟩
    · rintro i x σ H2 hx ⟨y, rfl, sm⟩
      obtain ⟨g, hg, gv⟩ := ga.get hx
      refine ⟨_, rfl, x, g, rfl, gv.tk (TK.same sm), gok g (List.mem_of_getElem? hg), fun H3 sm3 => ⟨true, rfl, iteF ⟨_, rfl, sm.trans sm3⟩⟩⟩
    · rintro σ H2 ⟨y, rfl, sm⟩
      exact q H2 sm
/-! ### is_wire -/
abbrev nIsWire : List Str := ["thing", "many_gates", "start", "end", "held", "worth"]
theorem scIsWire : FnScope nIsWire ["thing", "many_gates"] (defScope sIsWire) := ⟨rfl, rfl, rfl, by decide +kernel, rfl, by decide +kernel, by decide +kernel⟩
abbrev DIsWire (P : Program) (w : World) (K : PySem.W.Frag) (mg : Str → Option Value) (base : Heap) := Df P w K mg base 4 "is_wire" ["thing", "many_gates"] (spIsWire K)
theorem ok_isWire {f fF fW : Addr} {fd fdF fdW : FuncData} (F : Fun K "is_wire" "is_wire" sIsWire f fd) (hm : mg "is_wire" = some (.ref f)) (B : Bt mg) (DF : DFromTo P w K mg base fF fdF) (DW : DWorth P w K mg base fW fdW) : DIsWire P w K mg base f fd := by
  refine ⟨?_, hm, F.kp, F.binds fun _ _ _ _ _ _ us hl => match us, hl with | [_, _], _ => rfl⟩
  refine F.ok scIsWire (fun vs H Q E h => ?_) (fun cdv A outer s H vs Q E hr h => ?_)
  · obtain ⟨v, x, n, rfl, _⟩ := h
    rfl
  · obtain ⟨v, x, n, rfl, ⟨a, b, rfl, sq1, sq2⟩, hs, he, rok, rl, q⟩ := h
    have nd := scIsWire.nd
    have hr2 : Room 2 _ := hr.mono (by decide)
    refine ⟨_, pss_cons (ps_if (PW.pt (pw_or (pt_not (pt_val (pe_callB call_isi (by rfl) B.isi (by decide +kernel) (pa_cons (pv 0) (pa_cons (pe_bltn (v := .ty "tuple") (by rfl) B.tuple (by decide +kernel) rfl) pa_nil)))))
          (pw_or1 (pt_cmpR op_ne (pe_callB call_len_seq (by rfl) B.len PySem.boot_len (pa_cons (pv 0) pa_nil)) pe_int (nomark _))))) (pss_one (ps_ret pe_bl)) pss_nil) <|
      pss_cons (ps_asg (pv 0) (pg_tup (by rfl) (pgs_cons (pg_name (i := 2) nd rfl (.inl rfl)) (pgs_cons (pg_name (i := 3) nd rfl (.inl rfl)) (pgs_cons (pg_name (i := 4) nd rfl (.inl rfl)) pgs_nil))))) <|
      pss_cons (ps_if (PW.pt (pw_or (pt_not (pt_val (pe_call DF.ok hr2 (by rfl) DF.mg DF.kp DF.bd .nil pass0 (pa_cons (pv 2) (pa_cons pe_int (pa_cons (pe_op op_sub (pv 1) pe_int) pa_nil))))))
          (pw_or1 (pt_not (pt_val (pe_call DF.ok hr2 (by rfl) DF.mg DF.kp DF.bd .nil pass0 (pa_cons (pv 3) (pa_cons pe_int (pa_cons (pe_op op_sub (pv 1) pe_int) pa_nil))))))))) (pss_one (ps_ret pe_bl)) pss_nil) <|
      pss_one <| ps_ret <| pe_and (pe_callB call_isi (by rfl) B.isi (by decide +kernel) (pa_cons (pv 4) (pa_cons (pe_bltn (v := .ty "tuple") (by rfl) B.tuple (by decide +kernel) rfl) pa_nil))) <| pe_one <|
        pe_callB (cr_all rfl) (by rfl) B.all (by decide +kernel) <| (pa_cons · pa_nil) <| pe_lc (own := [("worth", 5)]) (g := gName 5) (tt := tYes) (te := tCall spWorth [] E0 (tCons (tVar 5) tNil)) rfl nd (pi_tup (pv 4)) (blkOk_by (N := nIsWire) (sc := defScope sIsWire) (own := [("worth", 5)]) (by decide +kernel))
          (fun _ _ _ _ _ => pg_name (i := 5) nd rfl (.inl rfl)) (fun _ _ _ _ _ => pts_nil) (fun _ _ _ _ _ => pe_call DW.ok hr (by rfl) DW.mg DW.kp DW.bd .nil pass0 (pa_cons (pv 5) pa_nil)), ?_⟩
    refine ⟨_, rfl, _, _, _, _, true, rfl, .ty "tuple", ty_tup sq1, kit_ty (by decide +kernel), true, rfl, ?_⟩
    refine iteF ⟨_, rfl, a, _, rfl, .inr sq1, rfl, _, rfl, iteF ?_⟩
    refine ⟨_, rfl, a, _, rfl, sq1, rfl, _, _, rfl, _, _, rfl, _, _, rfl, rfl, ?_⟩
    refine ⟨_, rfl, _, rfl, _, _, rfl, rfl, _, _, _, rfl, true, ?_, iteF ?_⟩
    · rw [decide_eq_true (by omega), decide_eq_true (by omega)]
      rfl
    refine ⟨_, rfl, _, rfl, _, _, rfl, rfl, _, _, _, rfl, true, ?_, iteF ?_⟩
    · rw [decide_eq_true (by omega), decide_eq_true (by omega)]
      rfl
    refine ⟨_, rfl, _, _, _, _, true, rfl, .ty "tuple", ty_tup sq2, kit_ty (by decide +kernel), true, rfl, iteT ?_⟩
    refine ⟨_, rfl, b, rfl, ⟨_, sq2⟩, fun D hD => ?_⟩
    refine lc_tup (K := K) (a := b) (xs := x.2.2.map V.int) (fun i Hc => Hc D = some (.lst ((List.replicate i true).map V.bl)) ∧ Same H Hc) ⟨upd_same, same_new hD⟩ (fun i Hc _ ⟨_, sm⟩ => (TK.same sm).seq sq2) ?_ ?_
    · rintro i y Hc hy ⟨hc, sm⟩
      rw [List.getElem?_map] at hy
      cases ey : x.2.2[i]? with
      | none =>
        rw [ey] at hy
        cases hy
      | some z =>
      rw [ey] at hy
      cases hy
      have hz := rok z (List.mem_of_getElem? ey)
      have hi : i < x.2.2.length := (List.getElem?_eq_some_iff.mp ey).1
      refine ⟨rfl, tyes ?_⟩
      refine ⟨_, rfl, z, rfl, _, hc, by rw [List.length_map, List.length_replicate]; exact small1000 (by omega), ?_, same_mut sm hD⟩
      rw [upd_same, decide_eq_true hz.1, decide_eq_true hz.2, List.replicate_succ', List.map_append]
      rfl
    · rintro Hc ⟨hc, sm⟩
      refine ⟨D, _, rfl, SqL.of hc, ?_⟩
      have e : (List.replicate (x.2.2.map V.int).length true).all id = true := by
        rw [List.all_eq_true]
        intro y hy
        rw [List.mem_replicate] at hy
        rw [hy.2]
        rfl
      rw [e]
      exact q Hc sm
/-! ### is_taken -/
theorem scTaken : FnScope ["wire", "gates", "come", "start", "end"] ["wire", "gates", "come"] (defScope sTaken) := ⟨rfl, rfl, rfl, by decide +kernel, rfl, by decide +kernel, by decide +kernel⟩
abbrev DTaken (P : Program) (w : World) (K : PySem.W.Frag) (mg : Str → Option Value) (base : Heap) := Df P w K mg base 1 "is_taken" ["wire", "gates", "come"] (spTaken K)
theorem ok_taken {f : Addr} {fd : FuncData} (F : Fun K "is_taken" "is_taken" sTaken f fd) (hm : mg "is_taken" = some (.ref f)) : DTaken P w K mg base f fd := by
  refine ⟨?_, hm, F.kp, F.binds fun _ _ _ _ _ _ us hl => match us, hl with | [_, _, _], _ => rfl⟩
  refine F.ok scTaken (fun vs H Q E h => ?_) (fun cdv A outer s H vs Q E hr h => ?_)
  · obtain ⟨v, x, lg, lc, gs, cs, rfl, _⟩ := h
    rfl
  · obtain ⟨v, x, lg, lc, gs, cs, rfl, ⟨a, b, rfl, sq1, sq2⟩, ⟨gv, sg, ga⟩, sc, W, hcl, h0, q⟩ := h
    have nd := scTaken.nd
    refine ⟨_, pss_cons (ps_par (i := 3) (j := 4) (by rfl) nd rfl rfl (by decide) rfl rfl (pa_cons (pe_ix ix_tup (pv 0) pe_int (fun _ _ => rfl)) (pa_cons (pe_ix ix_tup (pv 0) pe_int (fun _ _ => rfl)) pa_nil)) (by rfl)) <|
      pss_cons (ps_if (PW.pt (pw_or (pt_cmpR op_eq (pe_ix ix_tup (pe_ix ix_list (pv 1) (pv 3) (fun _ _ => rfl)) pe_int (fun _ _ => rfl)) pe_str (nomark _)) (pw_or1 (pt_cmpR op_eq (pe_ix ix_tup (pe_ix ix_list (pv 1) (pv 4) (fun _ _ => rfl)) pe_int (fun _ _ => rfl)) pe_str (nomark _))))) (pss_one (ps_ret pe_bl)) pss_nil) <|
      pss_one <| ps_ret <| pe_or (pe_cmpR op_ne (pe_ix ix_tup (pe_ix ix_list (pv 1) (pv 4) (fun _ _ => rfl)) pe_int (fun _ _ => rfl)) pe_str (nomark _)) (pe_one (pe_cmpR op_eq (pe_ix ix_list (pv 2) (pv 4) (fun _ _ => rfl)) pe_int (nomark _))), ?_⟩
    have hl : gv.length = gs.length := ga.1
    obtain ⟨vs1, g1, e1, f1, a1, rfl, s1⟩ : ∃ vs1 g1, gv[x.1]? = some vs1 ∧ gs[x.1]? = some g1 ∧ GateV K H vs1 g1 := by
      have e1 : gs[x.1]? = some (gs[x.1]'W.s) := List.getElem?_eq_getElem W.s
      obtain ⟨y, hy, r⟩ := ga.getR e1
      exact ⟨y, _, hy, e1, r⟩
    obtain ⟨vs2, g2, e2, f2, a2, rfl, s2⟩ : ∃ vs2 g2, gv[x.2.1]? = some vs2 ∧ gs[x.2.1]? = some g2 ∧ GateV K H vs2 g2 := by
      have e1 : gs[x.2.1]? = some (gs[x.2.1]'W.e) := List.getElem?_eq_getElem W.e
      obtain ⟨y, hy, r⟩ := ga.getR e1
      exact ⟨y, _, hy, e1, r⟩
    have k1 := kindAt_get f1
    have k2 := kindAt_get f2
    refine ⟨_, rfl, a, _, 0, _, rfl, rfl, sq1, atI_nat (j := 0) rfl, _, rfl, a, _, 1, _, rfl, rfl, sq1, atI_nat (j := 1) rfl, _, _, rfl, ?_⟩
    refine ⟨_, rfl, _, rfl, lg, gv, _, _, rfl, rfl, sg, atI_nat e1, a1, _, 0, _, rfl, rfl, s1, atI_nat (j := 0) rfl, rfl, false, ?_, iteF ?_⟩
    · show V.bl (decide (V.str g1.1 = V.str "out")) = V.bl false
      rw [decide_eq_false]
      intro z
      exact W.ks (by rw [k1]; exact V.str.inj z)
    refine ⟨_, rfl, _, rfl, lg, gv, _, _, rfl, rfl, sg, atI_nat e2, a2, _, 0, _, rfl, rfl, s2, atI_nat (j := 0) rfl, rfl, false, ?_, iteF ?_⟩
    · show V.bl (decide (V.str g2.1 = V.str "in")) = V.bl false
      rw [decide_eq_false]
      intro z
      exact W.ke (by rw [k2]; exact V.str.inj z)
    refine ⟨_, rfl, _, rfl, lg, gv, _, _, rfl, rfl, sg, atI_nat e2, a2, _, 0, _, rfl, rfl, s2, atI_nat (j := 0) rfl, rfl, _, rfl, ite2 (fun e => ?_) (fun e => ?_)⟩
    · exact q
    · have hk : kindAt gs x.2.1 = "out" := by
        rw [k2]
        refine Classical.byContradiction fun z => e ?_
        show (!decide (V.str g2.1 = V.str "out")) = true
        rw [decide_eq_false (fun y => z (V.str.inj y))]
        rfl
      have hc := h0 hk
      refine ⟨_, rfl, _, rfl, lc, _, _, .int 0, rfl, rfl, sc, atI_nat (by rw [List.getElem?_map, hc]; rfl), rfl, q⟩
end
end Lag

set_option maxRecDepth 100000
set_option maxHeartbeats 4000000
namespace Lag
open PySem PySem.Spec PyProof.Rows L2
abbrev sChkWires : Stmt := topS 23
def cntL (n : Nat) (ws : List Wr) : List Nat := (List.range n).map (cnt ws)
theorem cntL_len (n : Nat) (ws : List Wr) : (cntL n ws).length = n := by simp [cntL]
theorem cntL_get {n e : Nat} {ws : List Wr} (h : e < n) : (cntL n ws)[e]? = some (cnt ws e) := by
  unfold cntL
  rw [List.getElem?_map, List.getElem?_range h]
  rfl
theorem cntL_nil (n : Nat) : cntL n [] = List.replicate n 0 := by
  refine List.ext_getElem? fun i => ?_
  by_cases h : i < n
  · rw [cntL_get h, List.getElem?_replicate, if_pos h]
    rfl
  · rw [List.getElem?_eq_none (by rw [cntL_len]; omega), List.getElem?_eq_none (by simp; omega)]
theorem cnt_app (ws : List Wr) (x : Wr) (e : Nat) : cnt (ws ++ [x]) e = cnt ws e + if x.2.1 = e then 1 else 0 := by
  unfold cnt
  rw [List.countP_append, List.countP_cons, List.countP_nil]
  by_cases h : x.2.1 = e <;> simp [h]
theorem cntL_app {n : Nat} {ws : List Wr} {x : Wr} (h : x.2.1 < n) : (cntL n ws).set x.2.1 (cnt ws x.2.1 + 1) = cntL n (ws ++ [x]) := by
  refine List.ext_getElem? fun i => ?_
  by_cases hi : i < n
  · rw [cntL_get hi, cnt_app, List.getElem?_set]
    by_cases e : x.2.1 = i
    · rw [if_pos e, if_pos e, if_pos (by rw [cntL_len]; exact h), e]
    · rw [if_neg e, if_neg e, cntL_get hi]
      rfl
  · rw [List.getElem?_eq_none (by rw [List.length_set, cntL_len]; omega), List.getElem?_eq_none (by rw [cntL_len]; omega)]
theorem cnt_take_lt {ws : List Wr} {i : Nat} {x : Wr} (h : ws[i]? = some x) : cnt (ws.take i) x.2.1 + 1 ≤ cnt ws x.2.1 := by
  have e : ws.take (i + 1) = ws.take i ++ [x] := by rw [List.take_add_one, h]; rfl
  have h1 : cnt (ws.take (i + 1)) x.2.1 ≤ cnt ws x.2.1 := by
    unfold cnt
    exact List.Sublist.countP_le (List.take_sublist _ _)
  rw [e, cnt_app, if_pos rfl] at h1
  exact h1
def spChkWires (K : PySem.W.Frag) : Sp := fun vs H Q _ => ∃ (lg lw : Addr) (gs : List Gt) (ws : List Wr), vs = [.ref lg, .ref lw] ∧ RG K H lg gs ∧ RW K H lw ws ∧ NetOk gs ws ∧ ∀ H', Same H H' → Q .non H'
theorem map_set' {α β : Type} (f : α → β) (l : List α) (i : Nat) (a : α) : (l.map f).set i (f a) = (l.set i a).map f := by simp [List.map_set]
section
variable {P : Program} {w : World} {K : PySem.W.Frag} {mg : Str → Option Value} {base : Heap}
theorem scChkWires : FnScope ["gates", "wires", "come", "place", "thing", "gate", "many"] ["gates", "wires"] (defScope sChkWires) := ⟨rfl, rfl, rfl, by decide +kernel, rfl, by decide +kernel, by decide +kernel⟩
abbrev DChkWires (P : Program) (w : World) (K : PySem.W.Frag) (mg : Str → Option Value) (base : Heap) := Df P w K mg base 5 "check_wires" ["gates", "wires"] (spChkWires K)
theorem ok_chkWires {f fW fT aK aW aF : Addr} {fd fdW fdT : FuncData} (F : Fun K "check_wires" "check_wires" sChkWires f fd) (hm : mg "check_wires" = some (.ref f)) (B : Bt mg) (C : Cns K mg aK aW aF) (DW : DIsWire P w K mg base fW fdW) (DT : DTaken P w K mg base fT fdT) : DChkWires P w K mg base f fd := by
  refine ⟨?_, hm, F.kp, F.binds fun _ _ _ _ _ _ us hl => match us, hl with | [_, _], _ => rfl⟩
  refine F.ok scChkWires (fun vs H Q E h => ?_) (fun cdv A outer s H vs Q E hr h => ?_)
  · obtain ⟨lg, lw, gs, ws, rfl, _⟩ := h
    rfl
  · obtain ⟨lg, lw, gs, ws, rfl, RGs, ⟨wv, sw, wa⟩, N, q⟩ := h
    have nd := scChkWires.nd
    have hr1 : Room 1 _ := hr.mono (by decide)
    refine ⟨_, pss_cons (ps_if (pt_not (pt_val (pe_callB call_isi (by rfl) B.isi (by decide +kernel) (pa_cons (pv 1) (pa_cons (pe_bltn (v := .ty "list") (by rfl) B.list (by decide +kernel) rfl) pa_nil))))) (pss_one ps_never) pss_nil) <|
      pss_cons (ps_set (i := 2) nd rfl (Or.inl rfl) (pe_op op_rep (pe_lst (pa_cons pe_int pa_nil)) (pe_callB call_len_seq (by rfl) B.len PySem.boot_len (pa_cons (pv 0) pa_nil)))) <|
      pss_cons (ps_for PassesOwn.never rfl (pi_enum (by rfl) B.enum (pa_cons (pv 1) pa_nil)) (pg_tup rfl (pgs_cons (pg_name (i := 3) nd rfl (Or.inl rfl)) (pgs_cons (pg_name (i := 4) nd rfl (Or.inl rfl)) pgs_nil))) <|
        pss_cons (ps_if (PW.pt (pw_or (pt_not (pt_val (pe_call DW.ok hr (by rfl) DW.mg DW.kp DW.bd .nil pass0 (pa_cons (pv 4) (pa_cons (pe_callB call_len_seq (by rfl) B.len PySem.boot_len (pa_cons (pv 0) pa_nil)) pa_nil)))))
            (pw_or1 (pt_not (pt_val (pe_call DT.ok hr1 (by rfl) DT.mg DT.kp DT.bd .nil pass0 (pa_cons (pv 4) (pa_cons (pv 0) (pa_cons (pv 2) pa_nil))))))))) (pss_one ps_never) pss_nil) <|
        pss_one <| ps_augS (pv 2) (pe_ix ix_tup (pv 4) pe_int (fun _ _ => rfl)) get_list pe_int ip_add set_list) <|
      pss_one <| ps_for PassesOwn.never rfl (pi_zip (by rfl) B.zip (pa_cons (pv 0) (pa_cons (pv 2) pa_nil))) (pg_tup rfl (pgs_cons (pg_name (i := 5) nd rfl (Or.inl rfl)) (pgs_cons (pg_name (i := 6) nd rfl (Or.inl rfl)) pgs_nil))) <|
        pss_one <| ps_if (PW.pt (pw_and (pt_cmpR op_in_seq (pe_ix ix_tup (pv 5) pe_int (fun _ _ => rfl)) (pe_glob (v := .ref aF) (by rfl) C.mF rfl) (by rfl)) (pw_and1 (pt_cmpR op_eq (pv 6) pe_int (nomark _))))) (pss_one ps_never) pss_nil, ?_⟩
    obtain ⟨gv, sg, ga⟩ := id RGs
    have hlg : gv.length = gs.length := ga.1
    have hlw : wv.length = ws.length := wa.1
    have hgl := N.gl
    refine ⟨_, rfl, _, _, _, _, true, rfl, .ty "list", ty_lst sw, kit_ty (by decide +kernel), true, rfl, iteF ?_⟩
    refine ⟨(by show 1 ≤ sizeLine; decide), fun l0 hl0 => ?_⟩
    refine ⟨_, rfl, lg, gv, rfl, .inl ((same_new hl0).seq sg), ?_⟩
    refine ⟨l0, _, _, rfl, rfl, upd_same, by omega, by omega, ?_, fun lc hlc => ?_⟩
    · show 1 * _ ≤ sizeLine
      have : 1 * ((gv.length : Int)).toNat ≤ 1000 := by omega
      exact Nat.le_of_lt (small1000 this)
    have sm0 : Same H (upd H l0 (.lst [.int 0])) := same_new hl0
    have hlc0 : H lc = none := sm0.free hlc
    have e0 : (List.replicate ((gv.length : Int)).toNat [V.int 0]).flatten = (cntL gs.length (ws.take 0)).map fun i => V.int (i : Nat) := by
      rw [List.take_zero, cntL_nil, List.map_replicate, ← hlg, Int.toNat_natCast]
      generalize gv.length = n
      induction n with
      | zero => rfl
      | succ n ih =>
        rw [List.replicate_succ, List.flatten_cons, ih, List.replicate_succ]
        rfl
    rw [e0]
    -- for place, thing in enumerate(wires)
    refine ⟨_, rfl, lw, wv, rfl, (sm0.trans (same_new hlc)).seq sw, for_it (walk_enum (K := K) (a := lw) (xs := wv)) (fun i σ H2 => ∃ s3 s4 : Option V, σ = [some (.ref lg), some (.ref lw), some (.ref lc), s3, s4, none, none] ∧
        H2 lc = some (.lst ((cntL gs.length (ws.take i)).map fun i => V.int (i : Nat))) ∧ Same H H2)
      ⟨_, _, rfl, upd_same, sm0.trans (same_new hlc)⟩ (fun i σ H2 _ ⟨_, _, _, _, sm⟩ => sm.seq sw) ?_ ?_⟩
    · rintro i v σ H2 H2' hi ⟨s3, s4, rfl, hc, sm⟩ ⟨T, x1, y, rfl, hT, rfl, ex, ey⟩
      cases ex
      obtain ⟨x, hx, wx⟩ := wa.get ey
      have W := N.wok x (List.mem_of_getElem? hx)
      have hxi : i < ws.length := (List.getElem?_eq_some_iff.mp hx).1
      have smT : Same H2 (upd H2 T (.tup [.int (i : Nat), y])) := same_new hT
      have sm2 := sm.trans smT
      refine ⟨T, _, rfl, .inl (.inl upd_same), rfl, _, _, rfl, _, _, rfl, rfl, ?_⟩
      refine ⟨_, rfl, _, rfl, lg, gv, rfl, .inl (sm2.seq sg), y, x, gv.length, rfl, wx.tk (TK.same sm2), by rw [hlg]; exact W.s, by rw [hlg]; exact W.e, W.r, by have := W.rl; omega, fun H3 sm3 => ⟨true, rfl, iteF ?_⟩⟩
      have sm4 := sm2.trans sm3
      have hc3 := sm3 _ _ (smT _ _ hc)
      refine ⟨_, rfl, _, rfl, _, rfl, y, x, lg, lc, gs, cntL gs.length (ws.take i), rfl, wx.tk (TK.same sm4), RGs.same sm4, SqL.of hc3, W, cntL_len _ _, fun hk => ?_, true, rfl, iteF ?_⟩
      · rw [cntL_get W.e]
        have h1 := N.one _ W.e hk
        have h2 := cnt_take_lt hx
        congr 1
        omega
      obtain ⟨a, b, rfl, sq1, sq2⟩ := wx
      have hlen : x.2.1 < (cntL gs.length (ws.take i)).length := by rw [cntL_len]; exact W.e
      refine ⟨_, rfl, _, rfl, a, _, 1, _, rfl, rfl, (TK.same sm4).seq sq1, atI_nat (j := 1) rfl, lc, _, x.2.1, .int (cnt (ws.take i) x.2.1 : Nat), rfl, rfl, SqL.of hc3, by rw [List.getElem?_map, cntL_get W.e]; rfl, _, _, rfl, rfl, lc, _, _, x.2.1, rfl, rfl, hc3, Evl.ixN_nat (by rw [List.length_map]; exact hlen), ?_⟩
      refine ⟨_, _, rfl, ?_, same_mut sm4 hlc0⟩
      have et : ws.take (i + 1) = ws.take i ++ [x] := by rw [List.take_add_one, hx]; rfl
      rw [upd_same, et, ← cntL_app W.e, ← map_set']
      rfl
    · rintro σ H2 ⟨s3, s4, rfl, hc, sm⟩
      rw [hlw, List.take_length] at hc
      -- for gate, many in zip(gates, come)
      refine ⟨_, rfl, _, rfl, lg, lc, gv, _, rfl, sm.seq sg, SqL.of hc, RZ.for_zipL (K := K) (a := lg) (b := lc) (xs := gv) (by rw [List.length_map, cntL_len]; exact hlg) (fun i σ H3 => ∃ s5 s6 : Option V, σ = [some (.ref lg), some (.ref lw), some (.ref lc), s3, s4, s5, s6] ∧ Same H2 H3)
        ⟨_, _, rfl, Same.refl H2⟩ (fun i σ H3 ⟨_, _, _, sm3⟩ => ⟨(sm.trans sm3).seq sg, SqL.of (sm3 _ _ hc)⟩) ?_ ?_⟩
      · rintro i x y T σ H3 hx hy ⟨s5, s6, rfl, sm3⟩ hT
        obtain ⟨g, hg, a, rfl, sq⟩ := ga.get hx
        have hgi : i < gs.length := (List.getElem?_eq_some_iff.mp hg).1
        rw [List.getElem?_map, cntL_get hgi] at hy
        cases hy
        have sm4 : Same H (upd H3 T (.tup [.ref a, .int (cnt ws i : Nat)])) := (sm.trans sm3).trans (same_new hT)
        refine ⟨T, _, rfl, .inl (.inl upd_same), rfl, _, _, rfl, _, _, rfl, rfl, ?_⟩
        refine ⟨_, rfl, a, _, 0, _, rfl, rfl, (TK.same sm4).seq sq, atI_nat (j := 0) rfl, aF, _, rfl, .inr (C.sF _), rfl, rfl, _, rfl, ite2 (fun e => ?_) (fun e => ?_)⟩
        · have e' : inV (V.str g.1) [V.str "out", V.str "first"] = true := e
          have hpos : 1 ≤ cnt ws i := by
            unfold inV at e'
            rw [List.any_eq_true] at e'
            obtain ⟨x, hx, hxe⟩ := e'
            simp only [List.mem_cons, List.not_mem_nil, or_false] at hx
            rcases hx with rfl | rfl
            · have := N.one i hgi (by rw [kindAt_get hg]; exact (eq_of_beq hxe).symm)
              omega
            · exact N.some i hgi (by rw [kindAt_get hg]; exact (eq_of_beq hxe).symm)
          refine ⟨_, rfl, rfl, false, ?_, iteF ⟨_, _, rfl, sm3.trans (same_new hT)⟩⟩
          show V.bl (decide (V.int (cnt ws i : Int) = V.int 0)) = V.bl false
          rw [decide_eq_false]
          intro z
          have := V.int.inj z
          omega
        · exact iteF ⟨_, _, rfl, sm3.trans (same_new hT)⟩
      · rintro σ H3 ⟨s5, s6, rfl, sm3⟩
        exact q H3 (sm.trans sm3)
end
end Lag

set_option maxRecDepth 100000
set_option maxHeartbeats 4000000
namespace Lag
open PySem PySem.Spec PyProof.Rows L2
/-! ### the order of gates along wires without registers: the mathematics -/
def bare (ws : List Wr) : List (Nat × Nat) := (ws.filter fun x => x.2.2.isEmpty).map fun x => (x.1, x.2.1)
/-- how many wires of B lead into e from gates that are not in dn -/
def mis (B : List (Nat × Nat)) (dn : List Nat) (e : Nat) : Nat := B.countP fun b => b.2 == e && !dn.contains b.1
def frm (B : List (Nat × Nat)) (g e : Nat) : Nat := B.countP fun b => b.1 == g && b.2 == e
theorem mis_split {B : List (Nat × Nat)} {dn : List Nat} {g : Nat} (h : g ∉ dn) (e : Nat) : mis B dn e = mis B (dn ++ [g]) e + frm B g e := by
  unfold mis frm
  induction B with
  | nil => rfl
  | cons b B ih =>
    rw [List.countP_cons, List.countP_cons, List.countP_cons, ih]
    by_cases h1 : b.2 = e
    · by_cases h2 : b.1 = g
      · have : b.1 ∉ dn := by rw [h2]; exact h
        simp [h1, h2, h]
        omega
      · by_cases h3 : b.1 ∈ dn
        · simp [h1, h2, h3]
        · simp [h1, h2, h3]
          omega
    · simp [h1]
theorem mis_zero {B : List (Nat × Nat)} {dn : List Nat} {e : Nat} (h : mis B dn e = 0) {b : Nat × Nat} (hb : b ∈ B) (he : b.2 = e) : b.1 ∈ dn := by
  unfold mis at h
  rw [List.countP_eq_zero] at h
  have := h b hb
  simp [he] at this
  exact this
theorem frm_drop {B : List (Nat × Nat)} {j : Nat} {b : Nat × Nat} (h : B[j]? = some b) (g e : Nat) : frm (B.drop j) g e = frm (B.drop (j + 1)) g e + if b.1 = g ∧ b.2 = e then 1 else 0 := by
  obtain ⟨hj, rfl⟩ := List.getElem?_eq_some_iff.mp h
  rw [List.drop_eq_getElem_cons hj]
  unfold frm
  rw [List.countP_cons]
  by_cases h1 : B[j].1 = g <;> by_cases h2 : B[j].2 = e <;> simp [h1, h2]
structure KI (B : List (Nat × Nat)) (n : Nat) (placed : List Nat) (d : Nat) : Prop where
  nd : placed.Nodup
  lt : ∀ e ∈ placed, e < n
  le : d ≤ placed.length
  iff : ∀ e, e < n → (e ∈ placed ↔ mis B (placed.take d) e = 0)
  top : ∀ (j e : Nat), placed[j]? = some e → ∀ b ∈ B, b.2 = e → b.1 ∈ placed.take j
structure KJ (B : List (Nat × Nat)) (n : Nat) (placed : List Nat) (d g j : Nat) : Prop where
  nd : placed.Nodup
  lt : ∀ e ∈ placed, e < n
  at_ : placed[d]? = some g
  iff : ∀ e, e < n → (e ∈ placed ↔ mis B (placed.take (d + 1)) e + frm (B.drop j) g e = 0)
  top : ∀ (j e : Nat), placed[j]? = some e → ∀ b ∈ B, b.2 = e → b.1 ∈ placed.take j
theorem take_add {l : List Nat} {d g : Nat} (h : l[d]? = some g) : l.take (d + 1) = l.take d ++ [g] := by rw [List.take_add_one, h]; rfl
theorem nodup_take {l : List Nat} {d g : Nat} (nd : l.Nodup) (h : l[d]? = some g) : g ∉ l.take d := by
  intro hm
  obtain ⟨i, hi⟩ := List.getElem?_of_mem hm
  have h1 : i < d := by
    have := (List.getElem?_eq_some_iff.mp hi).1
    rw [List.length_take] at this
    omega
  rw [List.getElem?_take_of_lt h1] at hi
  have := nd_ix nd hi h
  omega
theorem KI.go {B : List (Nat × Nat)} {n : Nat} {placed : List Nat} {d g : Nat} (h : KI B n placed d) (hg : placed[d]? = some g) : KJ B n placed d g 0 :=
  ⟨h.nd, h.lt, hg, fun e he => by rw [h.iff e he, take_add hg, mis_split (nodup_take h.nd hg), List.drop_zero], h.top⟩
theorem KJ.done {B : List (Nat × Nat)} {n : Nat} {placed : List Nat} {d g : Nat} (h : KJ B n placed d g B.length) : KI B n placed (d + 1) := by
  have hd : d < placed.length := (List.getElem?_eq_some_iff.mp h.at_).1
  refine ⟨h.nd, h.lt, hd, fun e he => ?_, h.top⟩
  rw [h.iff e he, List.drop_length]
  rfl
theorem KJ.skip {B : List (Nat × Nat)} {n : Nat} {placed : List Nat} {d g j : Nat} {b : Nat × Nat} (h : KJ B n placed d g j) (hb : B[j]? = some b) (hg : b.1 ≠ g) : KJ B n placed d g (j + 1) :=
  ⟨h.nd, h.lt, h.at_, fun e he => by rw [h.iff e he, frm_drop hb, if_neg (fun z => hg z.1)]; rfl, h.top⟩
theorem KJ.not {B : List (Nat × Nat)} {n : Nat} {placed : List Nat} {d g j : Nat} {b : Nat × Nat} (h : KJ B n placed d g j) (hb : B[j]? = some b) (hg : b.1 = g) (hn : mis B (placed.take (d + 1)) b.2 + frm (B.drop (j + 1)) g b.2 ≠ 0) : KJ B n placed d g (j + 1) := by
  refine ⟨h.nd, h.lt, h.at_, fun e he => ?_, h.top⟩
  rw [h.iff e he, frm_drop hb]
  by_cases h2 : b.2 = e
  · subst h2
    rw [if_pos ⟨hg, rfl⟩]
    omega
  · rw [if_neg (fun z => h2 z.2)]
    rfl
theorem KJ.put {B : List (Nat × Nat)} {n : Nat} {placed : List Nat} {d g j : Nat} {b : Nat × Nat} (h : KJ B n placed d g j) (hb : B[j]? = some b) (hg : b.1 = g) (hlt : b.2 < n) (hn : mis B (placed.take (d + 1)) b.2 + frm (B.drop (j + 1)) g b.2 = 0) : KJ B n (placed ++ [b.2]) d g (j + 1) := by
  have hd : d < placed.length := (List.getElem?_eq_some_iff.mp h.at_).1
  have hnot : b.2 ∉ placed := fun z => by
    have := (h.iff _ hlt).mp z
    rw [frm_drop hb, if_pos ⟨hg, rfl⟩] at this
    omega
  have et : (placed ++ [b.2]).take (d + 1) = placed.take (d + 1) := List.take_append_of_le_length (by omega)
  refine ⟨?_, ?_, ?_, ?_, ?_⟩
  · rw [List.nodup_append]
    refine ⟨h.nd, by simp, fun a ha c hc => ?_⟩
    simp at hc
    subst hc
    intro z
    exact hnot (by rw [← z]; exact ha)
  · intro e he
    rcases List.mem_append.mp he with he | he
    · exact h.lt e he
    · simp at he
      subst he
      exact hlt
  · rw [List.getElem?_append_left hd]
    exact h.at_
  · intro e he
    rw [et, List.mem_append]
    by_cases h2 : b.2 = e
    · subst h2
      simp [hn]
    · have := h.iff e he
      rw [frm_drop hb, if_neg (fun z => h2 z.2)] at this
      rw [this]
      simp
      intro z
      exact absurd z.symm h2
  · intro k e hk c hc hce
    by_cases hk' : k < placed.length
    · rw [List.getElem?_append_left hk'] at hk
      rw [List.take_append_of_le_length (by omega)]
      exact h.top k e hk c hc hce
    · have hkl : k = placed.length := by
        have := (List.getElem?_eq_some_iff.mp hk).1
        simp at this
        omega
      subst hkl
      rw [List.getElem?_append_right (by omega)] at hk
      simp at hk
      subst hk
      rw [List.take_left']
      · have := mis_zero (show mis B (placed.take (d + 1)) b.2 = 0 by omega) hc hce
        exact List.mem_of_mem_take this
      · rfl
/-- what the order is: gates without two alike, each behind those it hangs on; all whose wires come from such -/
def Ord (n : Nat) (ws : List Wr) (ord : List Nat) : Prop := KI (bare ws) n ord ord.length
theorem Ord.full {n : Nat} {ws : List Wr} {ord : List Nat} (h : Ord n ws ord) (hw : ∀ x ∈ ws, x.1 < n ∧ x.2.1 < n) (rk : ∃ ρ : Nat → Nat, ∀ x ∈ ws, x.2.2 = [] → ρ x.1 < ρ x.2.1) : ord.Perm (List.range n) := by
  obtain ⟨ρ, hρ⟩ := rk
  have all : ∀ r e, e < n → ρ e = r → e ∈ ord := by
    intro r
    induction r using Nat.strongRecOn with
    | ind r ih =>
      intro e he hr
      rw [h.iff e he, List.take_length]
      unfold mis
      rw [List.countP_eq_zero]
      intro b hb
      obtain ⟨x, hx, rfl⟩ := List.mem_map.mp hb
      rw [List.mem_filter] at hx
      have hr0 : x.2.2 = [] := by simpa using hx.2
      have := hρ x hx.1 hr0
      simp
      intro z
      exact ih (ρ x.1) (by rw [← hr, ← z]; exact this) x.1 (hw x hx.1).1 rfl
  rw [List.perm_iff_count]
  intro a
  rw [h.nd.count, List.nodup_range.count]
  by_cases ha : a < n
  · rw [if_pos (all _ a ha rfl), if_pos (List.mem_range.mpr ha)]
  · rw [if_neg (fun z => ha (h.lt a z)), if_neg (fun z => ha (List.mem_range.mp z))]
end Lag

set_option maxRecDepth 100000
set_option maxHeartbeats 8000000
namespace Lag
open PySem PySem.Spec PyProof.Rows L2
abbrev sAlong : Stmt := topS 13
abbrev sOrder : Stmt := topS 27
def PairV (K : PySem.W.Frag) (H : Hp) (v : V) (b : Nat × Nat) : Prop := ∃ a, v = .ref a ∧ SqT K H a [.int (b.1 : Nat), .int (b.2 : Nat)]
theorem PairV.tk {K : PySem.W.Frag} {H H' : Hp} {v : V} {b : Nat × Nat} (t : TK H H') (h : PairV K H v b) : PairV K H' v b := by
  obtain ⟨a, e, s⟩ := h
  exact ⟨a, e, t.seq s⟩
/-- numbers by a function of the place -/
def fnL (n : Nat) (f : Nat → Nat) : List V := (List.range n).map fun e => V.int (f e : Nat)
theorem fnL_len (n : Nat) (f : Nat → Nat) : (fnL n f).length = n := by simp [fnL]
theorem fnL_get {n e : Nat} {f : Nat → Nat} (h : e < n) : (fnL n f)[e]? = some (V.int (f e : Nat)) := by
  unfold fnL
  rw [List.getElem?_map, List.getElem?_range h]
  rfl
theorem fnL_set {n e : Nat} {f f' : Nat → Nat} {z : Int} (h : e < n) (he : (f' e : Int) = z) (ho : ∀ i, i ≠ e → f' i = f i) : (fnL n f).set e (V.int z) = fnL n f' := by
  refine List.ext_getElem? fun i => ?_
  by_cases hi : i < n
  · rw [fnL_get hi, List.getElem?_set]
    by_cases ei : e = i
    · subst ei
      rw [if_pos rfl, if_pos (by rw [fnL_len]; exact h), he]
    · rw [if_neg ei, fnL_get hi, ho i (fun z => ei z.symm)]
  · rw [List.getElem?_eq_none (by rw [List.length_set, fnL_len]; omega), List.getElem?_eq_none (by rw [fnL_len]; omega)]
theorem fnL_zero (n : Nat) (f : Nat → Nat) (h : ∀ e, f e = 0) : (List.replicate n [V.int 0]).flatten = fnL n f := by
  have e : f = fun _ => 0 := funext h
  subst e
  unfold fnL
  induction n with
  | zero => rfl
  | succ n ih =>
    rw [List.replicate_succ', List.flatten_append, ih, List.range_succ, List.map_append]
    rfl
def spOrder (K : PySem.W.Frag) : Sp := fun vs H Q _ => ∃ (n : Nat) (lw : Addr) (ws : List Wr), vs = [.int (n : Nat), .ref lw] ∧ RW K H lw ws ∧ (∀ x ∈ ws, x.1 < n ∧ x.2.1 < n) ∧ n ≤ 1000 ∧ ws.length ≤ 1000 ∧
  ∀ (ord : List Nat) (p : Addr) (H' : Hp), Ord n ws ord → Same H H' → H p = none → H' p = some (.lst (ord.map fun i => V.int (i : Nat))) → Q (.ref p) H'
def spAlong (K : PySem.W.Frag) : Sp := fun vs H Q _ => ∃ (n : Nat) (lb : Addr) (bv : List V) (B : List (Nat × Nat)), vs = [.int (n : Nat), .ref lb] ∧ SqL K H lb bv ∧ All2 (PairV K H) bv B ∧ (∀ b ∈ B, b.1 < n ∧ b.2 < n) ∧ n ≤ 1000 ∧ B.length ≤ 1000 ∧
  ∀ (ord : List Nat) (p : Addr) (H' : Hp), KI B n ord ord.length → Same H H' → H p = none → H' p = some (.lst (ord.map fun i => V.int (i : Nat))) → Q (.ref p) H'
abbrev nAlong : List Str := ["many", "pairs", "missing", "start", "end", "placed", "done", "place"]
theorem scAlong : FnScope nAlong ["many", "pairs"] (defScope sAlong) := ⟨rfl, rfl, rfl, by decide +kernel, rfl, by decide +kernel, by decide +kernel⟩
abbrev nOrder : List Str := ["many_gates", "wires", "start", "end", "held"]
theorem scOrder : FnScope nOrder ["many_gates", "wires"] (defScope sOrder) := ⟨rfl, rfl, rfl, by decide +kernel, rfl, by decide +kernel, by decide +kernel⟩
theorem bare_take {ws : List Wr} {i : Nat} {x : Wr} (h : ws[i]? = some x) : bare (ws.take (i + 1)) = if x.2.2.isEmpty then bare (ws.take i) ++ [(x.1, x.2.1)] else bare (ws.take i) := by
  unfold bare
  rw [List.take_add_one, h]
  show ((ws.take i ++ [x]).filter _).map _ = _
  rw [List.filter_append]
  by_cases e : x.2.2.isEmpty
  · rw [if_pos e, List.filter_cons, if_pos e, List.map_append]
    rfl
  · rw [if_neg e, List.filter_cons, if_neg e, List.filter_nil, List.append_nil]
theorem bare_len (ws : List Wr) : (bare ws).length ≤ ws.length := by
  unfold bare
  rw [List.length_map]
  exact List.length_filter_le _ _
theorem mis_take {B : List (Nat × Nat)} {i : Nat} {b : Nat × Nat} (h : B[i]? = some b) (e : Nat) : mis (B.take (i + 1)) [] e = mis (B.take i) [] e + if b.2 = e then 1 else 0 := by
  unfold mis
  rw [List.take_add_one, h]
  show (B.take i ++ [b]).countP _ = _
  rw [List.countP_append, List.countP_cons, List.countP_nil]
  by_cases h1 : b.2 = e <;> simp [h1]
section
variable {P : Program} {w : World} {K : PySem.W.Frag} {mg : Str → Option Value} {base : Heap}
abbrev DAlong (P : Program) (w : World) (K : PySem.W.Frag) (mg : Str → Option Value) (base : Heap) := Df P w K mg base 1 "order_along" ["many", "pairs"] (spAlong K)
theorem ok_along {f : Addr} {fd : FuncData} (F : Fun K "order_along" "order_along" sAlong f fd) (hm : mg "order_along" = some (.ref f)) (Bb : Bt mg) : DAlong P w K mg base f fd := by
  refine ⟨?_, hm, F.kp, F.binds fun _ _ _ _ _ _ us hl => match us, hl with | [_, _], _ => rfl⟩
  refine F.ok scAlong (fun vs H Q E h => ?_) (fun cdv A outer s H vs Q E hr h => ?_)
  · obtain ⟨n, lb, bv, B, rfl, _⟩ := h
    rfl
  · obtain ⟨n, lb, bv, B, rfl, sb, ba1, hBlt, hn, hwl, q⟩ := h
    have nd := scAlong.nd
    refine ⟨_, pss_cons (ps_set (i := 2) nd rfl (Or.inr rfl) (pe_op op_rep (pe_lst (pa_cons pe_int pa_nil)) (pv 0))) <|
      pss_cons (ps_for PassesOwn.never rfl (pi_list (pv 1)) (pg_tup rfl (pgs_cons (pg_name (i := 3) nd rfl (Or.inl rfl)) (pgs_cons (pg_name (i := 4) nd rfl (Or.inl rfl)) pgs_nil)))
        (pss_one (ps_augS (pv 2) (pv 4) get_list pe_int ip_add set_list))) <|
      pss_cons (ps_setLc (i := 5) (own := [("place", 7)]) (g := gName 7) (tt := tTest (tOp rEq (tOp (rIxL K) (tVar 2) (tVar 7)) (tC (.int 0)))) (te := tVar 7) rfl nd rfl rfl (sw_true rfl rfl rfl (by decide +kernel))
          (pi_range1 (by rfl) Bb.range (pa_cons (pv 0) pa_nil)) (blkOk_by (N := nAlong) (sc := defScope sAlong) (own := [("place", 7)]) (by decide +kernel)) (fun _ _ _ _ _ => pg_name (i := 7) nd rfl (Or.inl rfl))
          (fun _ _ _ _ _ => pts_one (pt_cmpR op_eq (pe_ix ix_list (pv 2) (pv 7) (fun _ _ => rfl)) pe_int (nomark _))) (fun _ _ _ _ _ => pv 7)) <|
      pss_cons (ps_set (i := 6) nd rfl (Or.inl rfl) pe_int) <|
      pss_cons (ps_while PassesOwn.never (pt_cmpR op_lt (pv 6) (pe_callB call_len_seq (by rfl) Bb.len PySem.boot_len (pa_cons (pv 5) pa_nil)) (nomark _)) <|
        pss_cons (ps_for PassesOwn.never rfl (pi_list (pv 1)) (pg_tup rfl (pgs_cons (pg_name (i := 3) nd rfl (Or.inl rfl)) (pgs_cons (pg_name (i := 4) nd rfl (Or.inl rfl)) pgs_nil))) <|
          pss_one <| ps_if (pt_cmpR op_eq (pv 3) (pe_ix ix_list (pv 5) (pv 6) (fun _ _ => rfl)) (nomark _))
            (pss_cons (ps_augS (pv 2) (pv 4) get_list pe_int ip_sub set_list) <| pss_one <| ps_if (pt_cmpR op_eq (pe_ix ix_list (pv 2) (pv 4) (fun _ _ => rfl)) pe_int (nomark _))
              (pss_one (ps_expr (pe_bm PySem.F.plainAttrs_list PySem.F.slot_list_append PySem.F.type_list_append mt_append (pv 5) (pa_cons (pv 4) pa_nil)))) pss_nil) pss_nil) <|
        pss_one <| ps_aug (i := 6) nd rfl (Or.inl rfl) pe_int ip_add) <|
      pss_one <| ps_ret (pv 5), ?_⟩
    have hbl : bv.length ≤ 1000 := by
      rw [ba1.1]
      omega
    -- missing = [0] * many_gates
    refine ⟨(by show 1 ≤ sizeLine; decide), fun l0 hl0 => ?_⟩
    have sm2 : Same H (upd H l0 (.lst [.int 0])) := same_new hl0
    refine ⟨_, rfl, l0, _, _, rfl, rfl, upd_same, by omega, by omega, ?_, fun lm hlm => ?_⟩
    · show 1 * _ ≤ sizeLine
      have : 1 * ((n : Int)).toNat ≤ 1000 := by omega
      exact Nat.le_of_lt (small1000 this)
    rw [Int.toNat_natCast, fnL_zero n (mis (B.take 0) []) (fun e => by simp [mis])]
    have sm3 : Same H (upd (upd H l0 (.lst [.int 0])) lm (.lst (fnL n (mis (B.take 0) [])))) := sm2.trans (same_new hlm)
    have hm1 : H lm = none := sm2.free hlm
    -- for start, end in bare: missing[end] += 1
    refine ⟨_, rfl, lb, rfl, ⟨_, sm3.seq sb⟩, for_list (K := K) (a := lb) (xs := bv) (fun i σ H4 => ∃ s4 s5 : Option V, σ = [some (.int (n : Nat)), some (.ref lb), some (.ref lm), s4, s5, none, none, none] ∧
        H4 lm = some (.lst (fnL n (mis (B.take i) []))) ∧ Same H H4) ⟨_, _, rfl, upd_same, sm3⟩ (fun i σ H4 _ ⟨_, _, _, _, sm⟩ => sm.seq sb) ?_ ?_⟩
    · rintro i x σ H4 hx ⟨s4, s5, rfl, hml, sm4⟩
      obtain ⟨b, hbb, a, rfl, sq⟩ := ba1.get hx
      have hlt := hBlt b (List.mem_of_getElem? hbb)
      refine ⟨a, _, rfl, (TK.same sm4).seq sq, rfl, _, _, rfl, _, _, rfl, rfl, ?_⟩
      refine ⟨_, rfl, _, rfl, lm, _, b.2, _, rfl, rfl, SqL.of hml, fnL_get hlt.2, _, _, rfl, rfl, lm, _, _, b.2, rfl, rfl, hml, Evl.ixN_nat (by rw [fnL_len]; exact hlt.2), ?_⟩
      refine ⟨_, _, rfl, ?_, same_mut sm4 hm1⟩
      rw [upd_same]
      refine congrArg (fun z => some (HO.lst z)) (fnL_set hlt.2 ?_ ?_)
      · rw [mis_take hbb, if_pos rfl]
        show ((mis (B.take i) [] b.2 + 1 : Nat) : Int) = ((mis (B.take i) [] b.2 : Nat) : Int) + 1
        omega
      · intro j hj
        rw [mis_take hbb, if_neg (fun z => hj z.symm)]
        rfl
    · rintro σ H4 ⟨s4, s5, rfl, hml, sm4⟩
      rw [ba1.1, List.take_length] at hml
      -- placed = [gate for gate in range(many_gates) if missing[gate] == 0]
      refine ⟨_, rfl, _, rfl, by omega, by omega, fun lp hlp => ?_⟩
      refine lc_range (lo := 0) (n := ((n : Int)).toNat) (fun i Hc => Hc lp = some (.lst (((List.range i).filter fun e => mis B [] e == 0).map fun i => V.int (i : Nat))) ∧ Same H4 Hc) ⟨upd_same, same_new hlp⟩ ?_ ?_
      · rintro i Hc hi ⟨hc, sm⟩
        have hi' : i < n := by omega
        have hlen : (((List.range i).filter fun e => mis B [] e == 0).map fun i => V.int (i : Nat)).length ≤ 1000 := by
          rw [List.length_map]
          have := List.length_filter_le (fun e => mis B [] e == 0) (List.range i)
          rw [List.length_range] at this
          omega
        have e0 : (0 : Int) + (i : Int) = (i : Int) := Int.zero_add _
        rw [e0]
        refine ⟨rfl, ?_⟩
        refine ⟨_, rfl, _, rfl, lm, _, _, _, rfl, rfl, SqL.of (sm _ _ hml), atI_nat (fnL_get hi'), rfl, _, rfl, ite2 (fun e => ?_) (fun e => ?_)⟩
        · have hz : mis B [] i = 0 := by
            have := V.int.inj (of_decide_eq_true e)
            omega
          refine ⟨_, rfl, _, hc, Nat.lt_of_le_of_lt hlen (small1000 (Nat.le_refl _)), ?_, same_mut sm hlp⟩
          rw [upd_same, List.range_succ, List.filter_append, List.map_append, List.filter_cons, if_pos (by rw [hz]; rfl)]
          rfl
        · have hz : ¬ (mis B [] i == 0) = true := fun z => by
            apply e
            rw [beq_iff_eq] at z
            rw [z]
            rfl
          refine ⟨?_, sm⟩
          rw [List.range_succ, List.filter_append, List.filter_cons, if_neg hz, List.filter_nil, List.append_nil]
          exact hc
      · rintro H5 ⟨hp5, sm5⟩
        rw [Int.toNat_natCast] at hp5
        have k0 : KI B n ((List.range n).filter fun e => mis B [] e == 0) 0 := by
          refine ⟨List.nodup_range.sublist List.filter_sublist, fun e he => List.mem_range.mp (List.mem_filter.mp he).1, Nat.zero_le _, fun e he => ?_, fun j e hj b hb hbe => ?_⟩
          · rw [List.mem_filter, List.take_zero]
            simp [he]
          · have hm0 := (List.mem_filter.mp (List.mem_of_getElem? hj)).2
            rw [beq_iff_eq] at hm0
            have := mis_zero hm0 hb hbe
            simp at this
        -- the while
        have hp0 : H lp = none := sm4.free hlp
        refine ⟨fun m σ H6 => ∃ (placed : List Nat) (d : Nat) (s4 s5 : Option V), σ = [some (.int (n : Nat)), some (.ref lb), some (.ref lm), s4, s5, some (.ref lp), some (.int (d : Nat)), none] ∧
          KI B n placed d ∧ H6 lp = some (.lst (placed.map fun i => V.int (i : Nat))) ∧ H6 lm = some (.lst (fnL n (mis B (placed.take d)))) ∧ Same H H6 ∧ m = n - d, ?_, ?_⟩
        · have h5m := sm5 _ _ hml
          have e0 : mis B [] = mis B (((List.range n).filter fun e => mis B [] e == 0).take 0) := by rw [List.take_zero]
          rw [e0] at h5m
          exact ⟨n, _, 0, _, _, rfl, k0, hp5, h5m, sm4.trans sm5, rfl⟩
        · rintro m σ H6 ⟨placed, d, s4, s5, rfl, ki, hp6, hm6, sm6, rfl⟩
          have hp1 : H lp = none := sm4.free hlp
          have npm : lp ≠ lm := fun z => by
            rw [z, hml] at hlp
            cases hlp
          refine ⟨_, rfl, _, rfl, lp, _, rfl, .inl (SqL.of hp6), _, _, rfl, rfl, _, rfl, ite2 (fun e => ?_) (fun e => ?_)⟩
          · have hd : d < placed.length := by
              have e' : (d : Int) < ((placed.map fun i => V.int (i : Nat)).length : Int) := of_decide_eq_true e
              rw [List.length_map] at e'
              omega
            have hpl : ∀ placed : List Nat, placed.Nodup → (∀ e ∈ placed, e < n) → placed.length ≤ n := fun l hnd hlt => by
              have h1 : l.length = (l.filter fun e => decide (e < n)).length := by
                rw [List.filter_eq_self.mpr]
                intro a ha
                exact decide_eq_true (hlt a ha)
              have h2 := List.Nodup.length_le_of_subset hnd (l₂ := List.range n) (fun a ha => List.mem_range.mpr (hlt a ha))
              rw [List.length_range] at h2
              exact h2
            have hdn := hpl placed ki.nd ki.lt
            have hg : placed[d]? = some placed[d] := List.getElem?_eq_getElem hd
            refine ⟨fun σ H7 => ∃ (placed : List Nat) (s4 s5 : Option V), σ = [some (.int (n : Nat)), some (.ref lb), some (.ref lm), s4, s5, some (.ref lp), some (.int ((d : Nat) + 1)), none] ∧
              KI B n placed (d + 1) ∧ H7 lp = some (.lst (placed.map fun i => V.int (i : Nat))) ∧ H7 lm = some (.lst (fnL n (mis B (placed.take (d + 1))))) ∧ Same H H7, ?_, ?_⟩
            · rintro σ' H' ⟨placed', t4, t5, rfl, ki', hp', hm', sm'⟩
              exact ⟨n - (d + 1), by omega, placed', d + 1, t4, t5, rfl, ki', hp', hm', sm', rfl⟩
            · have e1 : mis B (placed.take d) = fun e => mis B (placed.take (d + 1)) e + frm (B.drop 0) placed[d] e := funext fun e => by
                rw [take_add hg, List.drop_zero]
                exact mis_split (nodup_take ki.nd hg) e
              rw [e1] at hm6
              generalize placed[d] = g at hg hm6
              refine ⟨_, rfl, lb, rfl, ⟨_, sm6.seq sb⟩, for_list (K := K) (a := lb) (xs := bv) (fun j σ H7 => ∃ (placed : List Nat) (s4 s5 : Option V), σ = [some (.int (n : Nat)), some (.ref lb), some (.ref lm), s4, s5, some (.ref lp), some (.int (d : Nat)), none] ∧
                  KJ B n placed d g j ∧ H7 lp = some (.lst (placed.map fun i => V.int (i : Nat))) ∧ H7 lm = some (.lst (fnL n fun e => mis B (placed.take (d + 1)) e + frm (B.drop j) g e)) ∧ Same H H7)
                ⟨placed, _, _, rfl, ki.go hg, hp6, hm6, sm6⟩ (fun i σ H4 _ ⟨_, _, _, _, _, _, _, sm⟩ => sm.seq sb) ?_ ?_⟩
              · rintro j x σ H7 hx ⟨placed, s4, s5, rfl, kj, hp7, hm7, sm7⟩
                obtain ⟨b, hbb, a, rfl, sq⟩ := ba1.get hx
                have hlt := hBlt b (List.mem_of_getElem? hbb)
                refine ⟨a, _, rfl, (TK.same sm7).seq sq, rfl, _, _, rfl, _, _, rfl, rfl, ?_⟩
                refine ⟨_, rfl, _, rfl, _, rfl, lp, _, _, _, rfl, rfl, SqL.of hp7, atI_nat (j := d) (by rw [List.getElem?_map, kj.at_]; rfl), rfl, _, rfl, ite2 (fun e => ?_) (fun e => ?_)⟩
                · have hbg : b.1 = g := by
                    have := V.int.inj (of_decide_eq_true e)
                    omega
                  have hfd : ∀ e, frm (B.drop j) g e = frm (B.drop (j + 1)) g e + if b.1 = g ∧ b.2 = e then 1 else 0 := fun e => frm_drop hbb g e
                  refine ⟨_, rfl, _, rfl, lm, _, b.2, _, rfl, rfl, SqL.of hm7, fnL_get hlt.2, _, _, rfl, rfl, lm, _, _, b.2, rfl, rfl, hm7, Evl.ixN_nat (by rw [fnL_len]; exact hlt.2), ?_⟩
                  have e2 : (fnL n fun e => mis B (placed.take (d + 1)) e + frm (B.drop j) g e).set b.2 (V.int (((mis B (placed.take (d + 1)) b.2 + frm (B.drop j) g b.2 : Nat) : Int) - 1)) = fnL n fun e => mis B (placed.take (d + 1)) e + frm (B.drop (j + 1)) g e := by
                    refine fnL_set hlt.2 ?_ ?_
                    · rw [hfd, if_pos ⟨hbg, rfl⟩]
                      omega
                    · intro i hi
                      rw [hfd, if_neg (fun z => hi z.2.symm)]
                      rfl
                  have hm8 : (upd H7 lm (.lst (fnL n fun e => mis B (placed.take (d + 1)) e + frm (B.drop (j + 1)) g e))) lm = some (.lst (fnL n fun e => mis B (placed.take (d + 1)) e + frm (B.drop (j + 1)) g e)) := upd_same
                  rw [← e2] at hm8
                  have hp8 : (upd H7 lm (.lst ((fnL n fun e => mis B (placed.take (d + 1)) e + frm (B.drop j) g e).set b.2 (V.int (((mis B (placed.take (d + 1)) b.2 + frm (B.drop j) g b.2 : Nat) : Int) - 1))))) lp = some (.lst (placed.map fun i => V.int (i : Nat))) := by
                    rw [upd_ne npm]
                    exact hp7
                  have sm8 := same_mut (p := lm) (o := .lst ((fnL n fun e => mis B (placed.take (d + 1)) e + frm (B.drop j) g e).set b.2 (V.int (((mis B (placed.take (d + 1)) b.2 + frm (B.drop j) g b.2 : Nat) : Int) - 1)))) sm7 hm1
                  have hg8 : ((fnL n fun e => mis B (placed.take (d + 1)) e + frm (B.drop j) g e).set b.2 (V.int (((mis B (placed.take (d + 1)) b.2 + frm (B.drop j) g b.2 : Nat) : Int) - 1)))[b.2]? = some (V.int ((mis B (placed.take (d + 1)) b.2 + frm (B.drop (j + 1)) g b.2 : Nat) : Int)) := by
                    rw [e2]
                    exact fnL_get hlt.2
                  have hm9 := hm8
                  rw [e2] at hm9
                  refine ⟨_, rfl, _, rfl, lm, _, _, _, rfl, rfl, SqL.of upd_same, atI_nat hg8, rfl, _, rfl, ite2 (fun e3 => ?_) (fun e3 => ?_)⟩
                  · have hz : mis B (placed.take (d + 1)) b.2 + frm (B.drop (j + 1)) g b.2 = 0 := by
                      have := V.int.inj (of_decide_eq_true e3)
                      omega
                    have hlp1 := hpl placed kj.nd kj.lt
                    have hdl : d < placed.length := (List.getElem?_eq_some_iff.mp kj.at_).1
                    refine ⟨_, rfl, .inl ⟨rfl, _, SqL.of hp8⟩, _, rfl, lp, _, _, rfl, rfl, hp8, by rw [List.length_map]; exact small1000 (by omega), ?_⟩
                    refine ⟨placed ++ [b.2], _, _, rfl, kj.put hbb hbg hlt.2 hz, ?_, ?_, same_mut sm8 hp1⟩
                    · rw [upd_same, List.map_append]
                      rfl
                    · rw [upd_ne npm.symm, List.take_append_of_le_length (by omega), ← e2]
                      exact upd_same
                  · have hz : mis B (placed.take (d + 1)) b.2 + frm (B.drop (j + 1)) g b.2 ≠ 0 := fun z => by
                      apply e3
                      rw [z]
                      rfl
                    refine ⟨placed, _, _, rfl, kj.not hbb hbg hz, hp8, ?_, sm8⟩
                    rw [← e2]
                    exact upd_same
                · have hbg : b.1 ≠ g := fun z => by
                    apply e
                    rw [z]
                    exact decide_eq_true rfl
                  refine ⟨placed, _, _, rfl, kj.skip hbb hbg, hp7, ?_, sm7⟩
                  have : (fun e => mis B (placed.take (d + 1)) e + frm (B.drop (j + 1)) g e) = fun e => mis B (placed.take (d + 1)) e + frm (B.drop j) g e := funext fun e => by
                    rw [frm_drop hbb, if_neg (fun z => hbg z.1)]
                    rfl
                  rw [this]
                  exact hm7
              · rintro σ H7 ⟨placed, s4, s5, rfl, kj, hp7, hm7, sm7⟩
                rw [ba1.1] at kj hm7
                refine ⟨_, rfl, _, _, rfl, rfl, placed, _, _, rfl, kj.done, hp7, ?_, sm7⟩
                rw [List.drop_length] at hm7
                exact hm7
          · have hd : d = placed.length := by
              have e' : ¬ (d : Int) < ((placed.map fun i => V.int (i : Nat)).length : Int) := fun z => e (decide_eq_true z)
              rw [List.length_map] at e'
              have := ki.le
              omega
            subst hd
            exact ⟨_, rfl, q placed lp H6 ki sm6 hp0 hp6⟩
abbrev DOrder (P : Program) (w : World) (K : PySem.W.Frag) (mg : Str → Option Value) (base : Heap) := Df P w K mg base 2 "bare_order" ["many_gates", "wires"] (spOrder K)
theorem ok_order {f fA : Addr} {fd fdA : FuncData} (F : Fun K "bare_order" "bare_order" sOrder f fd) (hm : mg "bare_order" = some (.ref f)) (B : Bt mg) (DA : DAlong P w K mg base fA fdA) : DOrder P w K mg base f fd := by
  refine ⟨?_, hm, F.kp, F.binds fun _ _ _ _ _ _ us hl => match us, hl with | [_, _], _ => rfl⟩
  refine F.ok scOrder (fun vs H Q E h => ?_) (fun cdv A outer s H vs Q E hr h => ?_)
  · obtain ⟨n, lw, ws, rfl, _⟩ := h
    rfl
  · obtain ⟨n, lw, ws, rfl, ⟨wv, sw, wa⟩, hws, hn, hwl, q⟩ := h
    have nd := scOrder.nd
    refine ⟨_, pss_one <| ps_ret <| pe_call DA.ok hr (by rfl) DA.mg DA.kp DA.bd .nil pass0 <| pa_cons (pv 0) <| (pa_cons · pa_nil) <|
      pe_lc (own := [("start", 2), ("end", 3), ("held", 4)]) (g := gTup K 3 (gCons (gName 2) (gCons (gName 3) (gCons (gName 4) gNil)))) (tt := tTest (tOp rEq (tCB (Evl.rLenS K) (tCons (tVar 4) tNil)) (tC (.int 0)))) (te := tTup (tCons (tVar 2) (tCons (tVar 3) tNil))) rfl nd
        (pi_list (pv 1)) (blkOk_by (N := nOrder) (sc := defScope sOrder) (own := [("start", 2), ("end", 3), ("held", 4)]) (by decide +kernel))
        (fun _ _ _ _ _ => pg_tup rfl (pgs_cons (pg_name (i := 2) nd rfl (Or.inl rfl)) (pgs_cons (pg_name (i := 3) nd rfl (Or.inl rfl)) (pgs_cons (pg_name (i := 4) nd rfl (Or.inl rfl)) pgs_nil))))
        (fun _ _ _ _ _ => pts_one (pt_cmpR op_eq (pe_callB call_len_seq (by rfl) B.len PySem.boot_len (pa_cons (pv 4) pa_nil)) pe_int (nomark _)))
        (fun _ _ _ _ _ => pe_tup (pa_cons (pv 2) (pa_cons (pv 3) pa_nil))), ?_⟩
    have hlw : wv.length = ws.length := wa.1
    -- bare = [..]
    refine ⟨_, rfl, _, rfl, lw, rfl, ⟨_, sw⟩, fun lb hlb => ?_⟩
    refine lc_list (K := K) (a := lw) (xs := wv) (fun i Hc => ∃ bv, Hc lb = some (.lst bv) ∧ All2 (PairV K Hc) bv (bare (ws.take i)) ∧ Same H Hc) ⟨[], upd_same, by simpa [bare] using All2.nil, same_new hlb⟩ (fun i Hc _ ⟨_, _, _, sm⟩ => sm.seq sw) ?_ ?_
    · rintro i x Hc hx ⟨bv, hb, ba, sm⟩
      obtain ⟨y, hy, a, b, rfl, sq1, sq2⟩ := wa.get hx
      have hyi : i < ws.length := (List.getElem?_eq_some_iff.mp hy).1
      have t := TK.same sm
      have hbl : bv.length ≤ 1000 := by
        rw [ba.1]
        have := bare_len (ws.take i)
        rw [List.length_take] at this
        omega
      refine ⟨a, _, rfl, t.seq sq1, rfl, _, _, rfl, _, _, rfl, _, _, rfl, rfl, rfl, ?_⟩
      refine ⟨_, rfl, b, _, rfl, .inr (t.seq sq2), rfl, _, rfl, ite2 (fun e => ?_) (fun e => ?_)⟩
      · have he : y.2.2.isEmpty = true := by
          have e' : (((y.2.2.map V.int).length : Nat) : Int) = 0 := V.int.inj (of_decide_eq_true e)
          rw [List.length_map] at e'
          rw [List.isEmpty_iff, ← List.length_eq_zero_iff]
          omega
        refine ⟨_, rfl, _, rfl, (by show 2 ≤ sizeLine; decide), fun p hp => ?_⟩
        have smp : Same Hc (upd Hc p (.tup [.int (y.1 : Nat), .int (y.2.1 : Nat)])) := same_new hp
        have npb : p ≠ lb := fun z => by
          rw [z, hb] at hp
          cases hp
        have t2 : TK Hc (upd (upd Hc p (.tup [.int (y.1 : Nat), .int (y.2.1 : Nat)])) lb (.lst (bv ++ [.ref p]))) := (TK.new hp).trans (TK.lst (smp _ _ hb))
        refine ⟨bv, smp _ _ hb, Nat.lt_of_le_of_lt hbl (small1000 (Nat.le_refl _)), bv ++ [.ref p], upd_same, ?_, same_mut (sm.trans smp) hlb⟩
        rw [bare_take hy, if_pos he]
        exact (ba.imp fun _ _ r => r.tk t2).snoc ⟨p, rfl, .inl (.inl (by rw [upd_ne npb]; exact upd_same))⟩
      · have he : ¬ y.2.2.isEmpty = true := fun z => by
          apply e
          rw [List.isEmpty_iff] at z
          rw [z]
          rfl
        exact ⟨bv, hb, by rw [bare_take hy, if_neg he]; exact ba, sm⟩
    · rintro H1 ⟨bv, hb1, ba1, sm1⟩
      rw [hlw, List.take_length] at ba1
      have hbl : bv.length ≤ 1000 := by
        rw [ba1.1]
        have := bare_len ws
        omega
      have hBlt : ∀ b ∈ bare ws, b.1 < n ∧ b.2 < n := by
        intro b hb
        obtain ⟨x, hx, rfl⟩ := List.mem_map.mp hb
        rw [List.mem_filter] at hx
        exact hws x hx.1
      exact ⟨n, lb, bv, bare ws, rfl, SqL.of hb1, ba1, hBlt, hn, by have := bare_len ws; omega, fun ord p H2 ki s2 hp h2 => q ord p H2 ki (sm1.trans s2) (sm1.free hp) h2⟩
end
end Lag

set_option maxRecDepth 100000
set_option maxHeartbeats 4000000
namespace Lag
open PySem PySem.Spec PyProof.Rows L2
abbrev sChkRings : Stmt := topS 26
abbrev sInit : Stmt := inClass (topS 20) 0
abbrev sEq : Stmt := inClass (topS 20) 1
abbrev sIns : Stmt := inClass (topS 20) 2
abbrev sOuts : Stmt := inClass (topS 20) 3
def spChkRings (K : PySem.W.Frag) : Sp := fun vs H Q _ => ∃ (n : Nat) (lw : Addr) (ws : List Wr), vs = [.int (n : Nat), .ref lw] ∧ RW K H lw ws ∧ (∀ x ∈ ws, x.1 < n ∧ x.2.1 < n) ∧ n ≤ 1000 ∧ ws.length ≤ 1000 ∧
  (∃ ρ : Nat → Nat, ∀ x ∈ ws, x.2.2 = [] → ρ x.1 < ρ x.2.1) ∧ ∀ H', Same H H' → Q .non H'
/-! ### a net's object -/
def nf (lg lw : Addr) : List (Str × V) := putF "wires" (.ref lw) (putF "gates" (.ref lg) [])
theorem gw_ne : ¬ (("gates" : Str) = "wires") := by decide +kernel
theorem nf_eq (lg lw : Addr) : nf lg lw = ([("gates", V.ref lg), ("wires", V.ref lw)] : List (Str × V)) := by
  show (if ("gates" : Str) = "wires" then [(("gates" : Str), V.ref lw)] else (("gates" : Str), V.ref lg) :: putF "wires" (V.ref lw) []) = ([("gates", V.ref lg), ("wires", V.ref lw)] : List (Str × V))
  rw [if_neg gw_ne]
  all_goals rfl
theorem nf_gates (lg lw : Addr) : (nf lg lw).lookup ("gates" : Str) = some (.ref lg) := by
  unfold nf
  rw [lookup_putF, if_neg gw_ne, lookup_putF, if_pos rfl]
theorem nf_wires (lg lw : Addr) : (nf lg lw).lookup ("wires" : Str) = some (.ref lw) := by
  unfold nf
  rw [lookup_putF, if_pos rfl]
theorem nf_no (lg lw : Addr) {m : Str} (h1 : ¬ m = "wires") (h2 : ¬ m = "gates") : (nf lg lw).lookup m = none := by
  unfold nf
  rw [lookup_putF, if_neg h1, lookup_putF, if_neg h2]
  all_goals rfl
/-- the class as the top has made it -/
structure NT (K : PySem.W.Frag) (mg : Str → Option Value) (C : Addr) : Prop where
  cl : Cls K C
  nG : NoAttr K C "gates"
  nW : NoAttr K C "wires"
  mg : mg "Net" = some (.ref C)
/-- a net at p: its own lists at lg, lw -/
structure NetAt (K : PySem.W.Frag) (C : Addr) (H : Hp) (p lg lw : Addr) (gs : List Gt) (ws : List Wr) : Prop where
  ob : ∃ dx, H p = some (.ins C dx (nf lg lw))
  g : LG K H lg gs
  w : LW K H lw ws
  ne : lg ≠ lw
theorem LG.same {K : PySem.W.Frag} {H H' : Hp} {l : Addr} {gs : List Gt} (h : LG K H l gs) (s : Same H H') : LG K H' l gs := by
  obtain ⟨vs, q, a⟩ := h
  exact ⟨vs, s _ _ q, a.imp fun _ _ r => r.tk (TK.same s)⟩
theorem LW.same {K : PySem.W.Frag} {H H' : Hp} {l : Addr} {ws : List Wr} (h : LW K H l ws) (s : Same H H') : LW K H' l ws := by
  obtain ⟨vs, q, a⟩ := h
  exact ⟨vs, s _ _ q, a.imp fun _ _ r => r.tk (TK.same s)⟩
theorem LG.rg {K : PySem.W.Frag} {H : Hp} {l : Addr} {gs : List Gt} (h : LG K H l gs) : RG K H l gs := by
  obtain ⟨vs, q, a⟩ := h
  exact ⟨vs, SqL.of q, a⟩
theorem LW.rw {K : PySem.W.Frag} {H : Hp} {l : Addr} {ws : List Wr} (h : LW K H l ws) : RW K H l ws := by
  obtain ⟨vs, q, a⟩ := h
  exact ⟨vs, SqL.of q, a⟩
theorem NetAt.same {K : PySem.W.Frag} {C : Addr} {H H' : Hp} {p lg lw : Addr} {gs : List Gt} {ws : List Wr} (n : NetAt K C H p lg lw gs ws) (s : Same H H') : NetAt K C H' p lg lw gs ws := by
  obtain ⟨dx, h⟩ := n.ob
  exact ⟨⟨dx, s _ _ h⟩, n.g.same s, n.w.same s, n.ne⟩
def spInit (K : PySem.W.Frag) (C : Addr) : Sp := fun vs H Q _ => ∃ (p dx lg lw : Addr) (gs : List Gt) (ws : List Wr), vs = [.ref p, .ref lg, .ref lw] ∧ H p = some (.ins C dx []) ∧ RG K H lg gs ∧ RW K H lw ws ∧ NetOk gs ws ∧
  ∀ (H' : Hp) (lg' lw' : Addr), NetAt K C H' p lg' lw' gs ws → H lg' = none → H lw' = none → (∀ b o, H b = some o → b ≠ p → H' b = some o) → Q .non H'
/-- the places of a kind, rising -/
def plc (gs : List Gt) (k : Str) (n : Nat) : List Nat := (List.range n).filter fun i => decide (kindAt gs i = k)
def spPlaces (K : PySem.W.Frag) : Sp := fun vs H Q _ => ∃ (k : Str) (lg : Addr) (gs : List Gt), vs = [.str k, .ref lg] ∧ RG K H lg gs ∧ gs.length ≤ 1000 ∧
  ∀ p H', H p = none → Same H H' → H' p = some (.lst ((plc gs k gs.length).map fun i => V.int (i : Nat))) → Q (.ref p) H'
def spPorts (K : PySem.W.Frag) (C : Addr) (k : Str) : Sp := fun vs H Q _ => ∃ (p lg lw : Addr) (gs : List Gt) (ws : List Wr), vs = [.ref p] ∧ NetAt K C H p lg lw gs ws ∧ gs.length ≤ 1000 ∧
  ∀ l H', H l = none → Same H H' → H' l = some (.lst ((plc gs k gs.length).map fun i => V.int (i : Nat))) → Q (.ref l) H'
section
variable {P : Program} {w : World} {K : PySem.W.Frag} {mg : Str → Option Value} {base : Heap}
theorem scChkRings : FnScope ["many_gates", "wires", "placed"] ["many_gates", "wires"] (defScope sChkRings) := ⟨rfl, rfl, rfl, by decide +kernel, rfl, by decide +kernel, by decide +kernel⟩
abbrev DChkRings (P : Program) (w : World) (K : PySem.W.Frag) (mg : Str → Option Value) (base : Heap) := Df P w K mg base 3 "check_rings" ["many_gates", "wires"] (spChkRings K)
theorem ok_chkRings {f fO : Addr} {fd fdO : FuncData} (F : Fun K "check_rings" "check_rings" sChkRings f fd) (hm : mg "check_rings" = some (.ref f)) (B : Bt mg) (DO : DOrder P w K mg base fO fdO) : DChkRings P w K mg base f fd := by
  refine ⟨?_, hm, F.kp, F.binds fun _ _ _ _ _ _ us hl => match us, hl with | [_, _], _ => rfl⟩
  refine F.ok scChkRings (fun vs H Q E h => ?_) (fun cdv A outer s H vs Q E hr h => ?_)
  · obtain ⟨n, lw, ws, rfl, _⟩ := h
    rfl
  · obtain ⟨n, lw, ws, rfl, R, hws, hn, hwl, rk, q⟩ := h
    have nd := scChkRings.nd
    refine ⟨_, pss_cons (ps_set (i := 2) nd rfl (Or.inl rfl) (pe_call DO.ok hr (by rfl) DO.mg DO.kp DO.bd .nil pass0 (pa_cons (pv 0) (pa_cons (pv 1) pa_nil)))) <|
      pss_one <| ps_if (pt_cmpR op_lt (pe_callB call_len_seq (by rfl) B.len PySem.boot_len (pa_cons (pv 2) pa_nil)) (pv 0) (nomark _)) (pss_one ps_never) pss_nil, ?_⟩
    refine ⟨_, rfl, _, rfl, n, lw, ws, rfl, R, hws, hn, hwl, fun ord p H1 ho sm hp h1 => ?_⟩
    have hpl : ord.length = n := by rw [(ho.full hws rk).length_eq, List.length_range]
    refine ⟨_, rfl, p, _, rfl, .inl (SqL.of h1), _, rfl, _, _, rfl, rfl, false, ?_, iteF (q H1 sm)⟩
    show V.bl (decide (((ord.map fun i => V.int (i : Nat)).length : Int) < (n : Int))) = V.bl false
    rw [decide_eq_false]
    rw [List.length_map, hpl]
    omega
theorem scInit : FnScope ["self", "gates", "wires"] ["self", "gates", "wires"] (defScope sInit) := ⟨rfl, rfl, rfl, by decide +kernel, rfl, by decide +kernel, by decide +kernel⟩
theorem ok_init {f fG fW fR C : Addr} {fd fdG fdW fdR : FuncData} (F : Fun K "__init__" "Net.__init__" sInit f fd) (T : NT K mg C) (B : Bt mg) (DG : DChkGates P w K mg base fG fdG) (DW : DChkWires P w K mg base fW fdW) (DR : DChkRings P w K mg base fR fdR) :
    FnOk P w K mg base CX0 6 f fd ["self", "gates", "wires"] (spInit K C) := by
  refine F.ok scInit (fun vs H Q E h => ?_) (fun cdv A outer s H vs Q E hr h => ?_)
  · obtain ⟨p, dx, lg, lw, gs, ws, rfl, _⟩ := h
    rfl
  · obtain ⟨p, dx, lg, lw, gs, ws, rfl, hp, RGs, RWs, N, q⟩ := h
    have hr4 : Room 4 _ := hr.mono (by decide)
    have hr2 : Room 3 _ := hr.mono (by decide)
    refine ⟨_, pss_cons (ps_expr (pe_call DG.ok hr4 (by rfl) DG.mg DG.kp DG.bd .nil pass0 (pa_cons (pv 1) pa_nil))) <|
      pss_cons (ps_expr (pe_call DW.ok hr (by rfl) DW.mg DW.kp DW.bd .nil pass0 (pa_cons (pv 1) (pa_cons (pv 2) pa_nil)))) <|
      pss_cons (ps_expr (pe_call DR.ok hr2 (by rfl) DR.mg DR.kp DR.bd .nil pass0 (pa_cons (pe_callB call_len_seq (by rfl) B.len PySem.boot_len (pa_cons (pv 1) pa_nil)) (pa_cons (pv 2) pa_nil)))) <|
      pss_cons (ps_fld (pv 0) (pe_callTy call_list_of (by rfl) B.list (by decide +kernel) (pa_cons (pv 1) pa_nil)) rfl) <|
      pss_one (ps_fld (pv 0) (pe_callTy call_list_of (by rfl) B.list (by decide +kernel) (pa_cons (pv 2) pa_nil)) rfl), ?_⟩
    refine ⟨_, rfl, lg, gs, rfl, RGs, N.ne, N.gok, fun H1 sm1 => ?_⟩
    refine ⟨_, rfl, _, rfl, lg, lw, gs, ws, rfl, RGs.same sm1, RWs.same sm1, N, fun H2 sm2 => ?_⟩
    have s2 := sm1.trans sm2
    obtain ⟨gv, sg, ga⟩ := RGs.same s2
    have hlg : gv.length = gs.length := ga.1
    refine ⟨_, rfl, lg, gv, rfl, .inl sg, _, rfl, gv.length, lw, ws, rfl, RWs.same s2, fun x hx => ?_, by have := N.gl; omega, N.wl, N.rank, fun H3 sm3 => ?_⟩
    · rw [hlg]
      exact ⟨(N.wok x hx).s, (N.wok x hx).e⟩
    have s3 := s2.trans sm3
    obtain ⟨gv3, sg3, ga3⟩ := RGs.same s3
    obtain ⟨wv3, sw3, wa3⟩ := RWs.same s3
    have hp3 := s3 _ _ hp
    refine ⟨_, rfl, lg, gv3, rfl, .inl sg3, fun l1 hl1 => ?_⟩
    have np1 : p ≠ l1 := ne_of_none hp3 hl1
    have sm4 : Same H3 (upd H3 l1 (.lst gv3)) := same_new hl1
    refine ⟨_, rfl, p, C, dx, [], rfl, sm4 _ _ hp3, T.cl, T.nG, (by show 0 < 1000; decide), ?_⟩
    have hw4 : SqL K (upd (upd H3 l1 (.lst gv3)) p (.ins C dx (putF "gates" (.ref l1) []))) lw wv3 := by
      rcases sm4.seq sw3 with (h | ⟨o, h⟩) | h
      · have n : lw ≠ p := fun z => by
          rw [z, sm4 _ _ hp3] at h
          cases h
        exact .inl (.inl (by rw [upd_ne n]; exact h))
      · have n : lw ≠ p := fun z => by
          rw [z, sm4 _ _ hp3] at h
          cases h
        exact .inl (.inr ⟨o, by rw [upd_ne n]; exact h⟩)
      · exact .inr h
    refine ⟨_, rfl, lw, wv3, rfl, .inl hw4, fun l2 hl2 => ?_⟩
    have np2 : p ≠ l2 := fun z => by
      rw [← z, upd_same] at hl2
      cases hl2
    have h11 : (upd (upd H3 l1 (.lst gv3)) p (.ins C dx (putF "gates" (.ref l1) []))) l1 = some (.lst gv3) := by
      rw [upd_ne np1.symm]
      exact upd_same
    have n12 : l1 ≠ l2 := ne_of_none h11 hl2
    have hl2' : H3 l2 = none := by
      rw [upd_ne np2.symm, upd_ne n12.symm] at hl2
      exact hl2
    refine ⟨_, rfl, p, C, dx, _, rfl, (by rw [upd_ne np2]; exact upd_same), T.cl, T.nW, (by show 1 < 1000; decide), ?_⟩
    have keep : ∀ b o, b ≠ p → H3 b = some o → (upd (upd (upd (upd H3 l1 (.lst gv3)) p (.ins C dx (putF "gates" (.ref l1) []))) l2 (.lst wv3)) p (.ins C dx (putF "wires" (.ref l2) (putF "gates" (.ref l1) [])))) b = some o := fun b o nb e => by
      rw [upd_ne nb, upd_ne (ne_of_none e hl2'), upd_ne nb, upd_ne (ne_of_none e hl1)]
      exact e
    have tk : TK H3 (upd (upd (upd (upd H3 l1 (.lst gv3)) p (.ins C dx (putF "gates" (.ref l1) []))) l2 (.lst wv3)) p (.ins C dx (putF "wires" (.ref l2) (putF "gates" (.ref l1) [])))) := fun b o t e => keep b o (fun z => by
      rw [z, hp3] at e
      cases e
      exact t) e
    refine q _ l1 l2 ⟨⟨dx, upd_same⟩, ⟨gv3, ?_, ga3.imp fun _ _ r => r.tk tk⟩, ⟨wv3, ?_, wa3.imp fun _ _ r => r.tk tk⟩, n12⟩ (s3.free hl1) (s3.free hl2') fun b o e nb => keep b o nb (s3 _ _ e)
    · rw [upd_ne np1.symm, upd_ne n12, upd_ne np1.symm]
      exact upd_same
    · rw [upd_ne np2.symm]
      exact upd_same
/-! ### places_of, ins, outs -/
abbrev nPlaces : List Str := ["kind", "gates", "number", "gate"]
theorem plc_succ {gs : List Gt} {k : Str} {i : Nat} : plc gs k (i + 1) = if kindAt gs i = k then plc gs k i ++ [i] else plc gs k i := by
  unfold plc
  rw [List.range_succ, List.filter_append, List.filter_cons]
  by_cases h : kindAt gs i = k
  · rw [if_pos h, if_pos (decide_eq_true h)]
    rfl
  · rw [if_neg h, if_neg (by simp [h]), List.filter_nil, List.append_nil]
theorem plc_len (gs : List Gt) (k : Str) (n : Nat) : (plc gs k n).length ≤ n := by
  unfold plc
  have := List.length_filter_le (fun i => decide (kindAt gs i = k)) (List.range n)
  rw [List.length_range] at this
  exact this
end
end Lag

set_option maxRecDepth 100000
set_option maxHeartbeats 4000000
namespace Lag
open PySem PySem.Spec PyProof.Rows L2
/-! ### == and != by an own __eq__, whatever the other thing is -/
section
variable {X : Cx} {pins : List (Addr × Obj)} {σ : L2.St} {H : Hp} {s : Shared}
/-- what typeOf says -/
def TyL (X : Cx) (s : Shared) (v tb : Value) : Prop := PySem.W.Looks (model X.prog X.w) s.heap (typeOf v) tb
theorem ty_looks {y : V} {v tb : Value} (I : Inv X pins σ H s) (r : RelV y v) (t : TyOf X.K H y tb) : TyL X s v tb := by
  cases t with
  | non => cases r; exact .of_pure rfl
  | bl b => cases r; exact .of_pure rfl
  | int i => obtain ⟨t, rfl⟩ := r; exact .of_pure rfl
  | str x => obtain ⟨t, rfl⟩ := r; exact .of_pure rfl
  | flt x => obtain ⟨t, rfl⟩ := r; exact .of_pure rfl
  | @lst a xs ea =>
    cases r
    obtain ⟨_, _, n, _, h1⟩ := (show ObjOk X.prog X.w H s.heap a (.lst xs) from I.hok a _ ea)
    exact (PySem.W.Looks.ld h1).andThen .now
  | @frz a ob xs ea =>
    cases r
    obtain ⟨_, _, _, n, _, h1⟩ := (show ObjOk X.prog X.w H s.heap a (.frz ob (.lst xs)) from I.hok a _ ea)
    exact (PySem.W.Looks.ld h1).andThen .now
  | @tup a xs ea =>
    cases r
    obtain ⟨_, _, _, o, h1, h2, _⟩ := (show ObjOk X.prog X.w H s.heap a (.tup xs) from I.hok a _ ea)
    exact h2 ▸ (PySem.W.Looks.ld h1).andThen .now
  | @dK a kvs ea =>
    cases r
    obtain ⟨_, _, vs, _, o, es, ep, h1, h2, _⟩ := (show ObjOk X.prog X.w H s.heap a (.dK kvs) from I.hok a _ ea)
    exact h2.1 ▸ (PySem.W.Looks.ld h1).andThen .now
  | @dT a kvs ea =>
    cases r
    obtain ⟨_, _, xs, _, o, es, ep, h1, h2, _⟩ := (show ObjOk X.prog X.w H s.heap a (.dT kvs) from I.hok a _ ea)
    exact h2.1 ▸ (PySem.W.Looks.ld h1).andThen .now
  | @ins a C dx fs ea cl ha hn htk hm =>
    cases r
    obtain ⟨mA, O, _⟩ := ins_get I.hok ea
    obtain ⟨od, J, _⟩ := O.look
    exact J.type
/-- a call of a def from within -/
theorem call_own {n : Nat} {f : Addr} {fd : FuncData} {ps : List Str} {sp : Sp} {xs : List V} {us : List Value} {Q : VK} {A : Around} (F : FnOk X.prog X.w X.K X.mg X.base CX0 n f fd ps sp) (hb : Binds X.K fd ps []) (sb : Sub X n A) (I : Inv X pins σ H s) (rx : Vals xs us)
    (h : sp xs H Q E0) : wpAny (model X.prog X.w) A (call (.ref f) us) (EP X pins σ Q) X.xe s := by
  have e0 : Env0 X.prog X.w X.K X.mg X.base A X.stack s H := by
    have e := I.env0
    exact ⟨by rw [sb.fr]; exact e.frames, e.mod, e.bs, e.bsz, e.funs, e.frf, e.hok, e.bare⟩
  have hl := F.len _ _ _ _ h
  have hl' : us.length = ps.length := by rw [← rx.length, hl]
  refine wpAny_call (codeAny_mono (F.run A X.stack s H ⟨us, []⟩ us xs _ E0 sb.room e0 (by
    have := hb s us I.kIn (by simpa using hl')
    simpa using this) rx h) fun r s' hq => ?_)
  cases r with
  | error e => exact False.elim hq
  | ok fl =>
    cases fl with
    | ret w => exact I.after hq
    | next => exact False.elim hq
    | brk => exact False.elim hq
    | cont => exact False.elim hq
/-- a special method that is a built-in -/
theorem ifBound_B {M : Model} {K : PySem.W.Frag} {A : Around} {E : Value → Shared → Prop} {s : Shared} {x C : Addr} {ox : Obj} {od : Option Obj} {name : Str} {id : String} {args : List Value} {Q : Option Value → Shared → Prop} (X : K.In s.heap) (I : PySem.W.InstAt s.heap x ox C od)
    (hs : PySem.W.findIn K (.ref C) name = some (some (.builtin id))) (hb : ∀ self, bindSpecial (.builtin id) self = pure (.builtin id, [self]))
    (h : wpAny M A (call (.builtin id) (.ref x :: args)) (fun v => Q (some v)) E s) : wpAny M A (callSpecialIfBound? (.ref x) name args) Q E s := by
  simp only [callSpecialIfBound?, bindSpecialIfBound?]
  refine wpAny_holding (wpAny_bind (wpAny_bind (wpAny_bind (I.type.here ((PySem.W.looks_findIn X hs).here ?_)))))
  refine wpAny_bind (wpAny_askSetting (wpAny_ite ?_))
  have fin : wpAny M A (call (.builtin id) ([.ref x] ++ args) >>= fun v => pure (some v)) Q E s := wpAny_bind (wpAny_mono h (fun v s' h' => wpAny_pure h') fun _ _ h' => h')
  split
  · exact wpAny_bind (wpAny_of_eq (hb _) (wpAny_pure (by exact fin)))
  · exact wpAny_tryCatch (wpAny_bind (wpAny_of_eq (hb _) (wpAny_pure (by exact fin))))
theorem bind_ne (self : Value) : bindSpecial (.builtin "object.__ne__") self = pure (.builtin "object.__ne__", [self]) := PySem.F.slot_tuple_iterator_ne.bind self
theorem ne_body {K : PySem.W.Frag} {prog : Program} {w : World} {A : Around} {E : Value → Shared → Prop} {s : Shared} {x C f : Addr} {ox : Obj} {od : Option Obj} {b : Value} {Q : Fin → Shared → Prop} (X : K.In s.heap) (I : PySem.W.InstAt s.heap x ox C od)
    (hs : PySem.W.findIn K (.ref C) "__eq__" = some (some (.ref f))) (hf : PySem.W.isFn K (.ref f) = true) (hu : A.units < cLine)
    (hcall : wpAny (model prog w) A (call (.ref f) [.ref x, b]) (fun v s' => ∃ c, v = .bool c ∧ Q (.done (.ret (.bool (!c)))) s') E s) :
    wpAny (model prog w) A (Builtin.«object.__ne__» ⟨[.ref x, b], []⟩) Q E s := by
  obtain ⟨h, g, d, t, os⟩ := s
  unfold Builtin.«object.__ne__»
  repeat (first
    | with_reducible refine wpAny_cRoomFor hu ?_
    | (refine wpAny_bind (m := callSpecialIfBound? (.ref x) (Str.ofString "__eq__") [b])
        (PySem.W.ifBound_K X I hs hf (wpAny_mono hcall (fun r s' hr => by
          obtain ⟨c, rfl, hq⟩ := hr
          repeat (first | exact hq | exact wpAny_pure hq | exact wpAny_truthy_bool hq | (refine wpAny_bind (m := truthy (.bool _)) (wpAny_truthy_bool ?_)) | wp_step)) fun _ _ e => e)))
    | wp_step)
theorem op_eqO {n : Nat} {C f : Addr} {fd : FuncData} {ps : List Str} {sp : Sp} (F : FnOk X.prog X.w X.K X.mg X.base CX0 n f fd ps sp) (hs : PySem.W.findIn X.K (.ref C) "__eq__" = some (some (.ref f))) (hf : PySem.W.isFn X.K (.ref f) = true) (hb : Binds X.K fd ps []) (hr : Room n X.A) :
    OpR X (compareOp .Eq) (fun x y H Q => ∃ a dx fs tb, x = .ref a ∧ H a = some (.ins C dx fs) ∧ TyOf X.K H y tb ∧ PySem.W.notFirst X.K C tb = true ∧ sp [x, y] H (fun v H' => ∃ c, v = .bl c ∧ Q v H') E0) := by
  intro pins s σ H x y u v Q I rx ry h
  obtain ⟨a, dx, fs, tb, rfl, ha, ty, nf, q⟩ := h
  cases rx
  obtain ⟨mA, J, _⟩ := ins_get I.hok ha
  obtain ⟨od, J, _⟩ := J.look
  obtain ⟨m, hF⟩ := I.fr
  show wpAny (model X.prog X.w) X.A (richCompare .Eq (.ref a) v) (EP X pins σ Q) X.xe s
  refine PySem.W.cmp_K (op := .Eq) (tb := tb) hr.units0 hF I.ok.mod.kin J (ty_looks I ry ty) nf hs hf ?_
  refine wpAny_mono (call_own F hb ⟨hr, rfl⟩ I (.cons (show RelV (V.ref a) (Value.ref a) from rfl) (.cons ry .nil)) q) (fun r s' z => ?_) fun _ _ x => x
  obtain ⟨z, H', I', rz, c, ez, q'⟩ := z
  subst ez
  cases rz
  exact ⟨.bl c, H', I', rfl, q'⟩
theorem op_neO {n : Nat} {C f : Addr} {fd : FuncData} {ps : List Str} {sp : Sp} (F : FnOk X.prog X.w X.K X.mg X.base CX0 n f fd ps sp) (hs : PySem.W.findIn X.K (.ref C) "__eq__" = some (some (.ref f))) (hn : PySem.W.findIn X.K (.ref C) "__ne__" = some (some (.builtin "object.__ne__")))
    (ho : PySem.W.mroIn X.K C (.type "object") = some true) (hf : PySem.W.isFn X.K (.ref f) = true) (hb : Binds X.K fd ps []) (hr : Room (n + 1) X.A) :
    OpR X (compareOp .NotEq) (fun x y H Q => ∃ a dx fs tb, x = .ref a ∧ H a = some (.ins C dx fs) ∧ TyOf X.K H y tb ∧ PySem.W.notFirst X.K C tb = true ∧ sp [x, y] H (fun v H' => ∃ c, v = .bl c ∧ Q (.bl (!c)) H') E0) := by
  intro pins s σ H x y u v Q I rx ry h
  obtain ⟨a, dx, fs, tb, rfl, ha, ty, nf, q⟩ := h
  cases rx
  obtain ⟨mA, J, _⟩ := ins_get I.hok ha
  obtain ⟨od, J, _⟩ := J.look
  have hb' := ty_looks I ry ty
  have sb : Sub X (n + 1) X.A := ⟨hr, rfl⟩
  show wpAny (model X.prog X.w) X.A (richCompare .NotEq (.ref a) v) (EP X pins σ Q) X.xe s
  have one : wpAny (model X.prog X.w) X.A (tryCompare (.ref a) "__ne__" v) (fun r s' => ∃ w, r = some w ∧ EP X pins σ Q w s') X.xe s := by
    unfold tryCompare
    refine wpAny_bind (ifBound_B I.kIn J hn bind_ne (wpAny_call (codeAny_call_builtin PySem.F.slot_tuple_iterator_ne.plain PySem.F.cmpEntry_ne
      (PySem.W.check_slot PySem.F.cmpKind_ne PySem.F.cmpSplit_ne (J.type.andThen (PySem.W.looks_mroIn I.kIn ho)) (PySem.F.cmpArgs_ne _ _)
        (ne_body I.kIn J hs hf sb.in1.room.units0 (wpAny_mono (call_own F hb sb.in1 I (.cons (show RelV (V.ref a) (Value.ref a) from rfl) (.cons ry .nil)) q) (fun r s' z => ?_) fun _ _ x => x))))))
    obtain ⟨z, H', I', rz, c, ez, q'⟩ := z
    subst ez
    cases rz
    have fin : EP X pins σ Q (.bool (!c)) s' := ⟨.bl (!c), H', I', rfl, q'⟩
    first | exact ⟨c, rfl, wpAny_pure ⟨_, rfl, fin⟩⟩ | exact ⟨c, rfl, wpAny_pure (wpAny_pure ⟨_, rfl, fin⟩)⟩ | exact ⟨c, rfl, ⟨_, rfl, fin⟩⟩
  unfold richCompare
  simp only [oneThing_ref]
  refine wpAny_holding (wpAny_bind (wpAny_cRoomFor hr.units0 ?_))
  refine wpAny_bind (J.type.here (wpAny_bind (hb'.here ?_)))
  split
  · rename_i q'
    have e : PySem.W.subIn X.K tb (.ref C) = some false := by
      rcases Bool.or_eq_true_iff.mp nf with e | e
      · rw [beq_iff_eq.mp e] at q'; simp at q'
      · exact beq_iff_eq.mp e
    refine wpAny_bind ((PySem.W.looks_subIn I.kIn e).here ?_)
    simp only [Bool.false_eq_true, if_false]
    refine wpAny_bind (wpAny_mono one (fun r s' z => ?_) fun _ _ e => e)
    obtain ⟨v, rfl, hq⟩ := z
    exact wpAny_pure hq
  · refine wpAny_bind (wpAny_pure ?_)
    simp only [Bool.false_eq_true, if_false]
    refine wpAny_bind (wpAny_mono one (fun r s' z => ?_) fun _ _ e => e)
    obtain ⟨v, rfl, hq⟩ := z
    exact wpAny_pure hq
end
end Lag

set_option maxRecDepth 100000
set_option maxHeartbeats 4000000
namespace Lag
open PySem PySem.Spec PyProof.Rows L2
/-! ### nets as data that is compared -/
def gateD (g : Gt) : PyData := .tuple [.str g.1, .int g.2]
def gatesD (gs : List Gt) : PyData := .list (gs.map gateD)
def wireD (x : Wr) : PyData := .tuple [.int (x.1 : Nat), .int (x.2.1 : Nat), .tuple (x.2.2.map PyData.int)]
def wiresD (ws : List Wr) : PyData := .list (ws.map wireD)
def intsD (l : List Nat) : PyData := .list (l.map fun i => .int (i : Nat))
theorem eqvAll_map {α : Type} [DecidableEq α] {f : α → PyData} (h : ∀ x y, PyData.eqv (f x) (f y) = decide (x = y)) : ∀ xs ys : List α, PyData.eqvAll (xs.map f) (ys.map f) = decide (xs = ys)
  | [], [] => rfl
  | [], _ :: _ => rfl
  | _ :: _, [] => rfl
  | x :: xs, y :: ys => by
    show (PyData.eqv (f x) (f y) && PyData.eqvAll (xs.map f) (ys.map f)) = _
    rw [h, eqvAll_map h xs ys, Bool.eq_iff_iff]
    simp
theorem gateD_eq (a b : Gt) : PyData.eqv (gateD a) (gateD b) = decide (a = b) := by
  show ((a.1 == b.1) && ((a.2 == b.2) && true)) = _
  rw [Bool.eq_iff_iff]
  simp [Prod.ext_iff]
theorem gatesD_eq (a b : List Gt) : PyData.eqv (gatesD a) (gatesD b) = decide (a = b) := eqvAll_map gateD_eq a b
theorem intD_eq (a b : Int) : PyData.eqv (.int a) (.int b) = decide (a = b) := rfl
theorem wireD_eq (a b : Wr) : PyData.eqv (wireD a) (wireD b) = decide (a = b) := by
  show ((((a.1 : Nat) : Int) == ((b.1 : Nat) : Int)) && ((((a.2.1 : Nat) : Int) == ((b.2.1 : Nat) : Int)) && (PyData.eqvAll (a.2.2.map PyData.int) (b.2.2.map PyData.int) && true))) = _
  rw [eqvAll_map intD_eq, Bool.eq_iff_iff]
  simp only [Bool.and_eq_true, beq_iff_eq, decide_eq_true_eq, and_true]
  constructor
  · rintro ⟨h1, h2, h3⟩
    exact Prod.ext (by omega) (Prod.ext (by show a.2.1 = b.2.1; omega) h3)
  · rintro rfl
    exact ⟨rfl, rfl, rfl⟩
theorem wiresD_eq (a b : List Wr) : PyData.eqv (wiresD a) (wiresD b) = decide (a = b) := eqvAll_map wireD_eq a b
theorem natD_eq (a b : Nat) : PyData.eqv (.int (a : Nat)) (.int (b : Nat)) = decide (a = b) := by
  show (((a : Nat) : Int) == ((b : Nat) : Int)) = _
  rw [Bool.eq_iff_iff]
  simp
  omega
theorem intsD_eq (a b : List Nat) : PyData.eqv (intsD a) (intsD b) = decide (a = b) := eqvAll_map natD_eq a b
theorem lay_all {ds : List PyData} : (∀ d ∈ ds, PyData.canLay0 d = true) → PyData.canLayAll0 ds = true := by
  induction ds with
  | nil => intro _; rfl
  | cons d ds ih =>
    intro h
    show (PyData.canLay0 d && PyData.canLayAll0 ds) = true
    rw [h d (List.mem_cons_self ..), ih fun x hx => h x (List.mem_cons_of_mem _ hx)]
    rfl
theorem depth_all {ds : List PyData} {k : Nat} : (∀ d ∈ ds, PyData.depth d ≤ k) → PyData.depthAll ds ≤ k := by
  induction ds with
  | nil => intro _; exact Nat.zero_le _
  | cons d ds ih =>
    intro h
    show max (PyData.depth d) (PyData.depthAll ds) ≤ k
    have h1 := h d (List.mem_cons_self ..)
    have h2 := ih fun x hx => h x (List.mem_cons_of_mem _ hx)
    omega
/-- such data may be compared, to the depth k -/
def Sh (k : Nat) (d : PyData) : Prop := PyData.canLay0 d = true ∧ PyData.depth d ≤ k
theorem Sh.ok {k : Nat} {d : PyData} (h : Sh k d) (hk : k ≤ 64) : SeqAt.shaped d = true := by
  show (PyData.canLay0 d && decide (PyData.depth d ≤ 64)) = true
  rw [h.1, decide_eq_true (Nat.le_trans h.2 hk)]
  rfl
theorem sh_list {k : Nat} {ds : List PyData} (h : ∀ d ∈ ds, Sh k d) : Sh (k + 1) (.list ds) := ⟨lay_all fun d hd => (h d hd).1, Nat.succ_le_succ (depth_all fun d hd => (h d hd).2)⟩
theorem sh_tuple {k : Nat} {ds : List PyData} (h : ∀ d ∈ ds, Sh k d) : Sh (k + 1) (.tuple ds) := ⟨lay_all fun d hd => (h d hd).1, Nat.succ_le_succ (depth_all fun d hd => (h d hd).2)⟩
theorem sh_int {k : Nat} (i : Int) : Sh k (.int i) := ⟨rfl, Nat.zero_le _⟩
theorem kinds_str : ∀ k ∈ kinds, PyData.canLay0 (.str k) = true := by decide +kernel
theorem sh_kind {k : Nat} {z : Str} (h : z ∈ kinds) : Sh k (.str z) := ⟨kinds_str z h, Nat.zero_le _⟩
theorem sh_gates {gs : List Gt} (h : ∀ g ∈ gs, GOk g) : Sh 2 (gatesD gs) := by
  refine sh_list fun d hd => ?_
  obtain ⟨g, hg, rfl⟩ := List.mem_map.mp hd
  refine sh_tuple fun d hd => ?_
  simp only [List.mem_cons, List.not_mem_nil, or_false] at hd
  rcases hd with rfl | rfl
  · exact sh_kind (h g hg).1
  · exact sh_int _
theorem sh_wires (ws : List Wr) : Sh 3 (wiresD ws) := by
  refine sh_list fun d hd => ?_
  obtain ⟨g, hg, rfl⟩ := List.mem_map.mp hd
  refine sh_tuple fun d hd => ?_
  simp only [List.mem_cons, List.not_mem_nil, or_false] at hd
  rcases hd with rfl | rfl | rfl
  · exact sh_int _
  · exact sh_int _
  · refine sh_tuple fun d hd => ?_
    obtain ⟨i, _, rfl⟩ := List.mem_map.mp hd
    exact sh_int _
theorem sh_ints (l : List Nat) : Sh 1 (intsD l) := by
  refine sh_list fun d hd => ?_
  obtain ⟨i, _, rfl⟩ := List.mem_map.mp hd
  exact sh_int _
section
variable {K : PySem.W.Frag} {H : Hp}
theorem dp_all {α : Type} {R : V → α → Prop} {f : α → PyData} (h : ∀ v x, R v x → Dp K H v (f x)) : ∀ {vs : List V} {xs : List α}, All2 R vs xs → DpAll K H vs (xs.map f)
  | [], [], _ => .nil
  | [], _ :: _, a => by have := a.1; simp at this
  | _ :: _, [], a => by have := a.1; simp at this
  | _ :: _, _ :: _, a => .cons (h _ _ a.head) (dp_all h a.tail)
theorem GateV.dp {v : V} {g : Gt} (h : GateV K H v g) : Dp K H v (gateD g) := by
  obtain ⟨a, rfl, s⟩ := h
  exact .tup s (.cons (.str _) (.cons (.int _) .nil))
theorem ints_dp : ∀ l : List Int, DpAll K H (l.map V.int) (l.map PyData.int)
  | [] => .nil
  | i :: l => .cons (.int i) (ints_dp l)
theorem nats_dp : ∀ l : List Nat, DpAll K H (l.map fun i => V.int (i : Nat)) (l.map fun i => PyData.int (i : Nat))
  | [] => .nil
  | i :: l => .cons (.int _) (nats_dp l)
theorem WireV.dp {v : V} {x : Wr} (h : WireV K H v x) : Dp K H v (wireD x) := by
  obtain ⟨a, b, rfl, s1, s2⟩ := h
  exact .tup s1 (.cons (.int _) (.cons (.int _) (.cons (.tup s2 (ints_dp _)) .nil)))
theorem RG.dp {l : Addr} {gs : List Gt} (h : RG K H l gs) : Dp K H (.ref l) (gatesD gs) := by
  obtain ⟨vs, s, a⟩ := h
  exact .lst s (dp_all (fun _ _ r => GateV.dp r) a)
theorem RW.dp {l : Addr} {ws : List Wr} (h : RW K H l ws) : Dp K H (.ref l) (wiresD ws) := by
  obtain ⟨vs, s, a⟩ := h
  exact .lst s (dp_all (fun _ _ r => WireV.dp r) a)
theorem dp_ints {l : Addr} {xs : List Nat} (h : SqL K H l (xs.map fun i => V.int (i : Nat))) : Dp K H (.ref l) (intsD xs) := .lst h (nats_dp xs)
end
/-! ### Net.__eq__ -/
structure NTy (K : PySem.W.Frag) (C : Addr) : Prop where
  ha : PySem.W.findIn K (.ref C) "__class__" = some (some (.builtin "object.__class__"))
  hn : PySem.W.specialIn K (.builtin "object.__class__") "__get__" = some (some (.builtin "getset_descriptor.__get__"))
  htk : PySem.W.takesIn K (.builtin "object.__class__") = some true
  hm : PySem.W.mroIn K C (.type "object") = some true
theorem ty_net {K : PySem.W.Frag} {mg : Str → Option Value} {C : Addr} {H : Hp} {p dx : Addr} {fs : List (Str × V)} (T : NT K mg C) (Y : NTy K C) (h : H p = some (.ins C dx fs)) : TyOf K H (.ref p) (.ref C) := .ins h T.cl Y.ha Y.hn Y.htk Y.hm
def spEqN (K : PySem.W.Frag) (C : Addr) : Sp := fun vs H Q _ => ∃ (p lg lw : Addr) (gs : List Gt) (ws : List Wr) (y : V), vs = [.ref p, y] ∧ NetAt K C H p lg lw gs ws ∧
  ((∃ (q lg' lw' : Addr) (gs' : List Gt) (ws' : List Wr), y = .ref q ∧ NetAt K C H q lg' lw' gs' ws' ∧ (∀ g ∈ gs, GOk g) ∧ (∀ g ∈ gs', GOk g) ∧ Q (.bl (decide (gs = gs') && decide (ws = ws'))) H) ∨
    (∃ t, TyX K H y t ∧ PySem.W.kitOne K t (.ref C) = some false ∧ Q (.bl false) H))
section
variable {P : Program} {w : World} {K : PySem.W.Frag} {mg : Str → Option Value} {base : Heap}
theorem scEq : FnScope ["self", "other"] ["self", "other"] (defScope sEq) := ⟨rfl, rfl, rfl, by decide +kernel, rfl, by decide +kernel, by decide +kernel⟩
theorem kit_self {K : PySem.W.Frag} (C : Addr) : PySem.W.kitOne K (.ref C) (.ref C) = some true := by
  unfold PySem.W.kitOne
  rw [if_pos (beq_self_eq_true _)]
theorem ok_eqN {f C : Addr} {fd : FuncData} (F : Fun K "__eq__" "Net.__eq__" sEq f fd) (T : NT K mg C) (Y : NTy K C) (B : Bt mg) : FnOk P w K mg base CX0 1 f fd ["self", "other"] (spEqN K C) := by
  refine F.ok scEq (fun vs H Q E h => ?_) (fun cdv A outer s H vs Q E hr h => ?_)
  · obtain ⟨p, lg, lw, gs, ws, y, rfl, _⟩ := h
    rfl
  · obtain ⟨p, lg, lw, gs, ws, y, rfl, N, h⟩ := h
    refine ⟨_, pss_one <| ps_ret <| pe_and (pe_callB call_isi (by rfl) B.isi (by decide +kernel) (pa_cons (pv 1) (pa_cons (pe_glob (v := .ref C) (by rfl) T.mg rfl) pa_nil))) <|
      pe_and (pe_cmpR (op_eqD hr.units) (pe_fld (pv 0) rfl) (pe_fld (pv 1) rfl) (nomark _)) <| pe_one <| pe_cmpR (op_eqD hr.units) (pe_fld (pv 0) rfl) (pe_fld (pv 1) rfl) (nomark _), ?_⟩
    obtain ⟨dx, hp⟩ := N.ob
    rcases h with ⟨q, lg', lw', gs', ws', rfl, N', gok, gok', k⟩ | ⟨t, ty, kt, k⟩
    · obtain ⟨dx', hq⟩ := N'.ob
      refine ⟨_, rfl, _, _, _, _, true, rfl, .own C, .base (ty_net T Y hq), kit_self C, true, rfl, iteT ?_⟩
      refine ⟨_, rfl, p, C, dx, _, _, rfl, hp, T.cl, T.nG, nf_gates _ _, _, rfl, q, C, dx', _, _, rfl, hq, T.cl, T.nG, nf_gates _ _, _, _, N.g.rg.dp, N'.g.rg.dp, (sh_gates gok).ok (by decide), (sh_gates gok').ok (by decide), _, rfl, ?_⟩
      rw [gatesD_eq]
      cases e : decide (gs = gs') with
      | false =>
        rw [e] at k
        exact iteF k
      | true =>
        rw [e] at k
        refine iteT ⟨_, rfl, p, C, dx, _, _, rfl, hp, T.cl, T.nW, nf_wires _ _, _, rfl, q, C, dx', _, _, rfl, hq, T.cl, T.nW, nf_wires _ _, _, _, N.w.rw.dp, N'.w.rw.dp, (sh_wires _).ok (by decide), (sh_wires _).ok (by decide), ?_⟩
        rw [wiresD_eq]
        exact k
    · exact ⟨_, rfl, _, _, _, _, false, rfl, .own C, ty, kt, false, rfl, iteF k⟩
end
end Lag

set_option maxRecDepth 100000
set_option maxHeartbeats 4000000
namespace Lag
open PySem PySem.Spec PyProof.Rows L2
/-! ### what keeps a net a net -/
theorem kindAt_set {gs : List Gt} {i j : Nat} {g : Gt} (h : i < gs.length) : kindAt (gs.set i g) j = if j = i then g.1 else kindAt gs j := by
  unfold kindAt
  rw [List.getD_eq_getElem?_getD, List.getD_eq_getElem?_getD, List.getElem?_set]
  by_cases e : i = j
  · subst e
    rw [if_pos rfl, if_pos h, if_pos rfl]
    rfl
  · rw [if_neg e, if_neg (fun z => e z.symm)]
/-- another gate at a place whose gate is no port: no port, and no first where it was none -/
theorem NetOk.setG {gs : List Gt} {ws : List Wr} (N : NetOk gs ws) {i : Nat} {g : Gt} (hi : i < gs.length) (hg : GOk g) (h1 : g.1 ≠ "out") (h2 : g.1 ≠ "in") (h3 : g.1 = "first" → kindAt gs i = "first") : NetOk (gs.set i g) ws := by
  have kk := @kindAt_set gs i
  refine ⟨?_, by rw [List.length_set]; exact N.gl, N.wl, ?_, fun x hx => ?_, fun e he hk => ?_, fun e he hk => ?_, N.rank⟩
  · intro z
    have := congrArg List.length z
    rw [List.length_set] at this
    exact N.ne (List.length_eq_zero_iff.mp this)
  · intro y hy
    rcases List.mem_or_eq_of_mem_set hy with hy | hy
    · exact N.gok y hy
    · rw [hy]
      exact hg
  · have W := N.wok x hx
    refine ⟨by rw [List.length_set]; exact W.s, by rw [List.length_set]; exact W.e, ?_, ?_, W.r, W.rl⟩
    · rw [kk hi]
      split
      · exact h1
      · exact W.ks
    · rw [kk hi]
      split
      · exact h2
      · exact W.ke
  · rw [List.length_set] at he
    rw [kk hi] at hk
    split at hk
    · exact absurd hk h1
    · exact N.one e he hk
  · rw [List.length_set] at he
    rw [kk hi] at hk
    split at hk
    · rename_i hei
      subst hei
      exact N.some _ he (h3 hk)
    · exact N.some e he hk
theorem kindAt_app {gs : List Gt} {g : Gt} {j : Nat} (h : j < gs.length) : kindAt (gs ++ [g]) j = kindAt gs j := by
  unfold kindAt
  rw [List.getD_eq_getElem?_getD, List.getD_eq_getElem?_getD, List.getElem?_append_left h]
theorem NetOk.addIn {gs : List Gt} {ws : List Wr} (N : NetOk gs ws) (hl : gs.length < 100) : NetOk (gs ++ [(("in" : Str), (0 : Int))]) ws := by
  have kl : kindAt (gs ++ [(("in" : Str), (0 : Int))]) gs.length = "in" := by
    unfold kindAt
    rw [List.getD_eq_getElem?_getD, List.getElem?_append_right (Nat.le_refl _), Nat.sub_self]
    rfl
  refine ⟨by simp, by simp; omega, N.wl, ?_, fun x hx => ?_, fun e he hk => ?_, fun e he hk => ?_, N.rank⟩
  · intro y hy
    rcases List.mem_append.mp hy with hy | hy
    · exact N.gok y hy
    · simp at hy
      subst hy
      exact ⟨by show ("in" : Str) ∈ kinds; decide +kernel, Int.le_refl 0, (by show (0 : Int) ≤ 100; decide), fun _ => rfl⟩
  · have W := N.wok x hx
    exact ⟨by have := W.s; simp; omega, by have := W.e; simp; omega, by rw [kindAt_app W.s]; exact W.ks, by rw [kindAt_app W.e]; exact W.ke, W.r, W.rl⟩
  · by_cases h : e < gs.length
    · rw [kindAt_app h] at hk
      exact N.one e h hk
    · have : e = gs.length := by simp at he; omega
      subst this
      rw [kl] at hk
      exact absurd hk (by decide +kernel)
  · by_cases h : e < gs.length
    · rw [kindAt_app h] at hk
      exact N.some e h hk
    · have : e = gs.length := by simp at he; omega
      subst this
      rw [kl] at hk
      exact absurd hk (by decide +kernel)
theorem cnt_set {ws : List Wr} {i : Nat} {x y : Wr} (h : ws[i]? = some x) (he : y.2.1 = x.2.1) (e : Nat) : cnt (ws.set i y) e = cnt ws e := by
  obtain ⟨hi, rfl⟩ := List.getElem?_eq_some_iff.mp h
  have h1 : ws.set i y = ws.take i ++ y :: ws.drop (i + 1) := List.set_eq_take_append_cons_drop .. |>.trans (by rw [if_pos hi])
  have h2 : ws = ws.take i ++ ws[i] :: ws.drop (i + 1) := by rw [List.getElem_cons_drop, List.take_append_drop]
  unfold cnt
  conv => rhs; rw [h2]
  rw [h1, List.countP_append, List.countP_append, List.countP_cons, List.countP_cons, he]
/-- a wire with other registers, one at least -/
theorem NetOk.setW {gs : List Gt} {ws : List Wr} (N : NetOk gs ws) {i : Nat} {x : Wr} {r : List Int} (h : ws[i]? = Option.some x) (hr : ROk r) (hl : r.length ≤ 100) (hne : r ≠ []) : NetOk gs (ws.set i (x.1, x.2.1, r)) := by
  have W := N.wok x (List.mem_of_getElem? h)
  obtain ⟨ρ, hρ⟩ := N.rank
  refine ⟨N.ne, N.gl, by rw [List.length_set]; exact N.wl, N.gok, fun y hy => ?_, fun e he hk => ?_, fun e he hk => ?_, ρ, fun y hy hyr => ?_⟩
  · rcases List.mem_or_eq_of_mem_set hy with hy | hy
    · exact N.wok y hy
    · rw [hy]
      exact ⟨W.s, W.e, W.ks, W.ke, hr, hl⟩
  · rw [cnt_set (y := (x.1, x.2.1, r)) h rfl]
    exact N.one e he hk
  · rw [cnt_set (y := (x.1, x.2.1, r)) h rfl]
    exact N.some e he hk
  · rcases List.mem_or_eq_of_mem_set hy with hy | hy
    · exact hρ y hy hyr
    · rw [hy] at hyr
      exact absurd hyr hne
theorem NetOk.perm {gs : List Gt} {ws ws' : List Wr} (N : NetOk gs ws) (p : ws'.Perm ws) : NetOk gs ws' := by
  obtain ⟨ρ, hρ⟩ := N.rank
  have c : ∀ e, cnt ws' e = cnt ws e := fun e => p.countP_eq _
  exact ⟨N.ne, N.gl, by rw [p.length_eq]; exact N.wl, N.gok, fun x hx => N.wok x (p.mem_iff.mp hx), fun e he hk => by rw [c]; exact N.one e he hk, fun e he hk => by rw [c]; exact N.some e he hk, ρ, fun x hx h => hρ x (p.mem_iff.mp hx) h⟩
/-! ### slices -/
theorem take_min {α : Type} (l : List α) (k : Nat) : l.take (min k l.length) = l.take k := by
  by_cases h : k ≤ l.length
  · rw [Nat.min_eq_left h]
  · rw [Nat.min_eq_right (by omega), List.take_length, List.take_of_length_le (by omega)]
theorem drop_min {α : Type} (l : List α) (k : Nat) : l.drop (min k l.length) = l.drop k := by
  by_cases h : k ≤ l.length
  · rw [Nat.min_eq_left h]
  · rw [Nat.min_eq_right (by omega), List.drop_length, List.drop_of_length_le (by omega)]
theorem cut_to {xs : List V} (k : Nat) : cutV xs none (some (k : Int)) = xs.take k := by
  unfold cutV
  rw [HT.sIx_none, HT.sIx_nat, List.drop_zero, Nat.sub_zero, take_min]
theorem cut_from {xs : List V} (k : Nat) : cutV xs (some (k : Int)) none = xs.drop k := by
  unfold cutV
  rw [HT.sIx_none, HT.sIx_nat, drop_min]
  exact List.take_of_length_le (by rw [List.length_drop]; omega)
theorem cut_mid {xs : List V} (j k : Nat) : cutV xs (some (j : Int)) (some (k : Int)) = (xs.take k).drop j := by
  unfold cutV
  rw [HT.sIx_nat, HT.sIx_nat, List.drop_take, drop_min]
  by_cases h : j ≤ xs.length
  · by_cases h2 : k ≤ xs.length
    · rw [Nat.min_eq_left h, Nat.min_eq_left h2]
    · rw [List.take_of_length_le (by rw [List.length_drop]; omega), List.take_of_length_le (by rw [List.length_drop]; omega)]
  · rw [List.drop_of_length_le (by omega)]
    simp
section
variable {α β : Type} {R : α → β → Prop} {xs xs' : List α} {ys ys' : List β}
theorem All2.take (h : All2 R xs ys) (k : Nat) : All2 R (xs.take k) (ys.take k) := by
  refine ⟨by rw [List.length_take, List.length_take, h.1], fun i x y hx hy => ?_⟩
  have hi : i < k := by
    have := (List.getElem?_eq_some_iff.mp hx).1
    rw [List.length_take] at this
    omega
  rw [List.getElem?_take_of_lt hi] at hx hy
  exact h.2 i x y hx hy
theorem All2.drop (h : All2 R xs ys) (k : Nat) : All2 R (xs.drop k) (ys.drop k) := by
  refine ⟨by rw [List.length_drop, List.length_drop, h.1], fun i x y hx hy => ?_⟩
  rw [List.getElem?_drop] at hx hy
  exact h.2 _ x y hx hy
theorem All2.append (h : All2 R xs ys) (h' : All2 R xs' ys') : All2 R (xs ++ xs') (ys ++ ys') := by
  induction xs generalizing ys with
  | nil =>
    cases ys with
    | nil => exact h'
    | cons _ _ => have := h.1; simp at this
  | cons x xs ih =>
    cases ys with
    | nil => have := h.1; simp at this
    | cons y ys => exact All2.cons h.head (ih h.tail)
theorem All2.reverse (h : All2 R xs ys) : All2 R xs.reverse ys.reverse := by
  induction xs generalizing ys with
  | nil =>
    cases ys with
    | nil => exact h
    | cons _ _ => have := h.1; simp at this
  | cons x xs ih =>
    cases ys with
    | nil => have := h.1; simp at this
    | cons y ys =>
      rw [List.reverse_cons, List.reverse_cons]
      exact (ih h.tail).snoc h.head
theorem All2.one {x : α} {y : β} (r : R x y) : All2 R [x] [y] := All2.cons r All2.nil
end
theorem set_cut {α : Type} {l : List α} {i : Nat} {y : α} (h : i < l.length) : l.take i ++ [y] ++ l.drop (i + 1) = l.set i y := by
  rw [List.set_eq_take_append_cons_drop, if_pos h, List.append_assoc]
  rfl
theorem swap_perm {α : Type} (l : List α) (i : Nat) : (l.take i ++ ((l.take (i + 2)).drop i).reverse ++ l.drop (i + 2)).Perm l := by
  have e : l = l.take i ++ (l.take (i + 2)).drop i ++ l.drop (i + 2) := by
    have h1 : l.take i = (l.take (i + 2)).take i := by rw [List.take_take, Nat.min_eq_left (by omega)]
    rw [h1, List.take_append_drop, List.take_append_drop]
  conv => rhs; rw [e]
  exact ((List.Perm.refl _).append (List.reverse_perm _)).append (List.Perm.refl _)
end Lag

set_option maxRecDepth 100000
set_option maxHeartbeats 8000000
/-! ### promises of defs that show data (repr): they are kept where no guard is up -/
namespace Lag
open PySem PySem.Spec PyProof.Rows L2
/-- FnOk, where no guard is up -/
structure FnG (P : Program) (w : World) (K : PySem.W.Frag) (mg : Str → Option Value) (base : Heap) (CX : CXT) (k : Nat) (f : Addr) (fd : FuncData) (ps : List Str) (sp : Sp) : Prop where
  len : ∀ vs H Q E, sp vs H Q E → vs.length = ps.length
  run : ∀ (A : Around) (outer : List Env) (s : Shared) (H : Hp) (args : Args) (us : List Value) (vs : List V) (Q : VK) (E : XK), A.guards = some [] → Room k A → Env0 P w K mg base A outer s H → BindsTo s fd args (ps.zip us) → Vals vs us → sp vs H Q E →
    codeAny (model P w) A (.call (.ref f) args) (CR CX outer P w H s Q E) s
theorem fn_g {P : Program} {w : World} {K : PySem.W.Frag} {mg : Str → Option Value} {base : Heap} {CX : CXT} {k : Nat} {f : Addr} {fd : FuncData} {ps : List Str} {sp : Sp} (F : FnOk P w K mg base CX k f fd ps sp) : FnG P w K mg base CX k f fd ps sp :=
  ⟨F.len, fun A outer s H args us vs Q E _ => F.run A outer s H args us vs Q E⟩
/-- a def by its body, entered where no guard is up -/
theorem fnG_of {CX : CXT} {P : Program} {w : World} {K : PySem.W.Frag} {mg : Str → Option Value} {base : Heap} {k : Nat} {f : Addr} {name qual : Str} {params : Arguments} {body : List Stmt} {scope : Scope} {dV kV doc pm cdv ct oc : Value} {an od : Option Addr}
    {osl : Array (Option Value)} {N ps : List Str} {sp : Sp} (lk : K.lookup f = some ⟨oc, od, .func (PySem.W.fnOf name qual params body scope dV kV doc pm an cdv ct), osl⟩) (hcd : PySem.W.codeIn K cdv qual = true) (S : FnScope N ps scope)
    (len : ∀ vs H Q E, sp vs H Q E → vs.length = ps.length)
    (hbody : ∀ (A : Around) (outer : List Env) (s : Shared) (H : Hp) (vs : List V) (Q : VK) (E : XK), A.guards = some [] → Room k (A.deeper (envOfC qual scope s.heap.objs.size f cdv)) → sp vs H Q E →
      ∃ t, PSs (cxOf CX P w K mg base N qual scope f cdv A outer s H E) body t ∧ t { nx := fun _ H' => Q .non H', rt := Q } (start N vs) H) :
    FnG P w K mg base CX (k + 1) f (PySem.W.fnOf name qual params body scope dV kV doc pm an cdv ct) ps sp := by
  constructor
  case len => exact len
  case run =>
    intro A outer s H args us vs Q E hg hr e0 hb r hsp
    obtain ⟨t, ht, hq⟩ := hbody A outer s H vs Q E hg (hr.deeper _) hsp
    have lst : ∀ b o, base.get? b = some o → s.heap.get? b = some o := fun b o e => (e0.bs b o e).1
    have KX : K.In s.heap := e0.mod.kin.keeps lst
    refine codeAny_call_function hr.depth (KX _ _ lk) rfl S.co S.gen rfl (PySem.W.codeRec_of KX hcd) (hb _ _ _ _ (wpAny_newFunctionEnv_cells S.kind (fun y hy => ?_) fun env he s1 x => ?_))
    · have hn : y.1 ∈ ps := (List.of_mem_zip (show (y.1, y.2) ∈ ps.zip us from hy)).1
      exact (S.par y.1 hn).imp id fun z => ⟨z, PySem.W.cellsFrom_some _ _ _ (.inl z)⟩
    · cases he
      refine ⟨(e0.mod.nolimit.keeps lst).keeps x.toInCall.keep, codeAny_func (wpAny_mono (ht.run [] s1 (start N vs) H _ (inv_start S hr.hd e0 (len _ _ _ _ hsp) r x) hq) (fun fl s' hs => ?_) fun e s' hs => hs)⟩
      match fl, hs with
      | .ret u, ⟨v, σ', H', J, rv, q⟩ => exact ⟨v, H', J.os, J.bare, J.base, J.hok, rv, q⟩
      | .next, ⟨σ', H', J, q⟩ => exact ⟨V.non, H', J.os, J.bare, J.base, J.hok, rfl, q⟩
      | .brk, ⟨_, _, _, q⟩ => exact False.elim q
      | .cont, ⟨_, _, _, q⟩ => exact False.elim q
/-- a def by its body, of such a promise -/
theorem fun_okG {P : Program} {w : World} {K : PySem.W.Frag} {mg : Str → Option Value} {base : Heap} {x qual : Str} {st : Stmt} {f : Addr} {fd : FuncData} {N ps : List Str} {k : Nat} {sp : Sp} (F : Fun K x qual st f fd) (S : FnScope N ps (defScope st)) (len : ∀ vs H Q E, sp vs H Q E → vs.length = ps.length)
    (hbody : ∀ (cdv : Value) (A : Around) (outer : List Env) (s : Shared) (H : Hp) (vs : List V) (Q : VK) (E : XK), (A.deeper (envOfC qual (defScope st) s.heap.objs.size f cdv)).guards = some [] → Room k (A.deeper (envOfC qual (defScope st) s.heap.objs.size f cdv)) → sp vs H Q E →
      ∃ t, PSs (cxOf CX0 P w K mg base N qual (defScope st) f cdv A outer s H E).nox (defBody st) t ∧ t { nx := fun _ H' => Q .non H', rt := Q } (start N vs) H) : FnG P w K mg base CX0 (k + 1) f fd ps sp := by
  obtain ⟨oc, od, kV, doc, pm, an, cdv, ct, osl, rfl, lk, hcd⟩ := F.ex
  refine fnG_of lk hcd S len fun A outer s H vs Q E hg hr hsp => ?_
  obtain ⟨t, h, q⟩ := hbody cdv A outer s H vs Q E hg hr hsp
  exact ⟨t, h.nox, q⟩
/-- a def at its name, of such a promise -/
structure DfG (P : Program) (w : World) (K : PySem.W.Frag) (mg : Str → Option Value) (base : Heap) (k : Nat) (name : Str) (ps : List Str) (sp : Sp) (f : Addr) (fd : FuncData) : Prop where
  ok : FnG P w K mg base CX0 k f fd ps sp
  mg : mg name = some (.ref f)
  kp : PySem.W.keepIn K (.ref f) = true
  bd : Binds K fd ps []
section
variable {X : Cx} {CX : CXT} {k : Nat} {f : Addr} {fd : FuncData} {ps : List Str} {sp : Sp} {dvs : List V} {ds : List Value} {E : XK} {x : Str} {p pos : Pos} {e : Expr} {es : List Expr} {t : TA}
/-- f(..) of such a def, in a body that was entered where no guard is up -/
theorem pe_callG (F : FnG X.prog X.w X.K X.mg X.base CX k f fd ps sp) (gd : X.A.guards = some []) (hr : Room k X.A) (hg : Gl X x) (hm : X.mg x = some (.ref f)) (hk : PySem.W.keepIn X.K (.ref f) = true) (hb : Binds X.K fd ps ds) (hd : Vals dvs ds) (hx : Passes CX X E)
    (ha : PA X (e :: es) t) (hdb : (x == ("__debug__" : Str)) = false := by decide) (he : starEach (e :: es) X.env = (false, eval e X.env) :: starEach es X.env := by rfl) (hpl : (backTo pos (starEach es X.env)).any (·.1) = false := by rfl) :
    PE X (.Call (.Name x p) (e :: es) [] pos) (tCall sp dvs E t) := by
  constructor
  intro pins s σ H Q I h
  refine wpAny_Call_Name_kw (ld_glob I hg hm (PySem.W.callWith_K (h₀ := X.base) I.ok.mod.kin hk (thn (ha.run pos pins s σ H _ I h) fun us s1 ⟨vs, H1, I1, r, q⟩ => ⟨I1.kIn, ?_⟩) he hpl) hdb)
  have r2 : Vals (vs ++ dvs) (us ++ ds) := r.append hd
  have hl : (us ++ ds).length = ps.length := by rw [← r2.length]; exact F.len _ _ _ _ q
  refine wpAny_call (codeAny_mono (F.run X.A X.stack s1 H1 ⟨us, []⟩ (us ++ ds) (vs ++ dvs) Q E gd hr I1.env0 (hb s1 us I1.kIn hl) r2 q) fun rr s' hq => ?_)
  match rr, hq with
  | .error e, hq => exact hx pins σ H1 s1 e s' I1 hq
  | .ok (.ret u), hq => exact I1.after hq
end
section
variable {X : Cx}
mutual
theorem dp_noDict {K : PySem.W.Frag} {H : Hp} : ∀ (d : PyData) {v : V}, Dp K H v d → d.hasDict = false
  | .none, _, _ => rfl
  | .bool _, _, _ => rfl
  | .int _, _, _ => rfl
  | .str _, _, _ => rfl
  | .list ds, _, h => by
    cases h with
    | lst _ a => exact dp_noDicts ds a
  | .tuple ds, _, h => by
    cases h with
    | tup _ a => exact dp_noDicts ds a
  | .dict _, _, h => by cases h
theorem dp_noDicts {K : PySem.W.Frag} {H : Hp} : ∀ (ds : List PyData) {vs : List V}, DpAll K H vs ds → PyData.hasDictAll ds = false
  | [], _, _ => rfl
  | d :: ds, _, h => by
    cases h with
    | cons h1 h2 =>
      show (d.hasDict || PyData.hasDictAll ds) = false
      rw [dp_noDict d h1, dp_noDicts ds h2]
      rfl
end
/-- repr of a list or a tuple of data -/
def rRepr (K : PySem.W.Frag) : List V → Hp → VK → Prop := fun xs H Q => ∃ (a : Addr) (d : PyData), xs = [.ref a] ∧ Dp K H (.ref a) d ∧ d.showable = true ∧ d.depth < 64 ∧ d.shown.length ≤ sizeLine ∧ Q (.str d.shown) H
theorem call_repr (gd : X.A.guards = some []) (hu : X.A.units + 65 < cLine) : CallR X (.builtin "repr") (rRepr X.K) := by
  intro pins s σ H xs us Q I r h
  obtain ⟨a, d, rfl, dp, sh, dd, hz, q⟩ := h
  obtain ⟨u, rfl, rx⟩ := vals1 r
  obtain ⟨as, rd⟩ := Dp.reads I d _ _ dp rx
  cases rx
  refine repr_of_reads' rd sh (fun hd => ?_) gd (by omega) (fun _ _ e => e) (fun h' u tk hk => ?_) hz
  · rw [dp_noDict d dp] at hd
    cases hd
  · exact I.after ⟨.str d.shown, H, rfl, I.bare, Un.kept hk, I.hok.kept hk, ⟨_, rfl⟩, q⟩
end
end Lag

set_option maxRecDepth 100000
set_option maxHeartbeats 8000000
/-! ### the end of a law whose promise is kept where no guard is up -/
namespace Lag
open PySem PySem.Spec PyProof.Rows L2
/-- the script as the law finds it: one of the module's own objects, or tracked as it stands -/
theorem script_at {P : Program} {w : World} {K : PySem.W.Frag} {a : Addr} {s : Shared} {vs : List Value} {ns : List Int} (KX : K.In s.heap) (ha : s.heap.get? a = some { cls := .type "list", data := .seq vs.toArray }) (hi : IntsAre vs ns) (hl : ns.length ≤ sizeLine) :
    ∃ H : Hp, Only H ∧ SqL K H a (ns.map V.int) ∧ HOk P w H s.heap ∧ ∀ b u, H b = some u → b = a ∧ K.lookup b = none := by
  have rv := vals_ints hi
  have lenV := hi.length
  by_cases hk : ∃ o, K.lookup a = some o
  · obtain ⟨o, hk⟩ := hk
    have e := KX a o hk
    rw [ha] at e
    cases e
    exact ⟨fun _ => none, fun _ => .inl rfl, .inr ⟨_, vs.toArray, _, hk, rfl, rfl, rfl, (by rw [List.size_toArray, lenV]; exact hl), (by simpa using rv)⟩, (fun b u z => by cases z), (fun b u z => by cases z)⟩
  · have hn : K.lookup a = none := Option.eq_none_iff_forall_ne_some.mpr fun o e => hk ⟨o, e⟩
    refine ⟨upd (fun _ => none) a (.frz { cls := .type "list", data := .seq vs.toArray } (.lst (ns.map V.int))), fun b => ?_, .inl (.inr ⟨_, upd_same⟩), fun b u z => ?_, fun b u z => ?_⟩
    · by_cases hb : b = a
      · rw [hb]
        exact .inr ⟨_, _, upd_same⟩
      · exact .inl (upd_ne hb)
    · by_cases hb : b = a
      · subst hb
        rw [upd_same] at z
        cases z
        exact ⟨ha, by rw [List.length_map]; exact hl, vs, _, rv, ha⟩
      · rw [upd_ne hb] at z
        cases z
    · by_cases hb : b = a
      · exact ⟨hb, by rw [hb]; exact hn⟩
      · rw [upd_ne hb] at z
        cases z
theorem lawG_call {P : Program} {w : World} {K : PySem.W.Frag} {mg mb : Str → Option Value} {CX : CXT} {k : Nat} {fa a : Addr} {fd : FuncData} {x : Str} {sp : Sp} {s : Shared} {vs : List Value} {ns : List Int}
    (KX : K.In s.heap) (hns : s.heap.Ns mainGlobals mg) (hb : s.heap.Ns builtinsNs mb) (hbb : ∀ x : Str, x ≠ "__name__" → mb x = bootBuiltins x) (hlim : s.heap.NoLimit) (hg : s.gens = #[])
    (ha : s.heap.get? a = some { cls := .type "list", data := .seq vs.toArray }) (hi : IntsAre vs ns) (hl : ns.length ≤ sizeLine) (hr : Room k callerA)
    (F : ∀ base : Heap, K.In base → base.Ns mainGlobals mg → FnG P w K mg base CX k fa fd [x] sp) (hbind : ∀ (s : Shared) (u : Value), BindsTo s fd ⟨[u], []⟩ [(x, u)])
    (hsp : ∀ H : Hp, Only H → SqL K H a (ns.map V.int) → sp [.ref a] H (fun v _ => v = .bl true) fun _ _ _ => False)
    (hCX : ∀ H e s', CX [] H s (fun _ _ _ => False) e s' → False) :
    codeAny (model P w) callerA (.call (.ref fa) ⟨[.ref a], []⟩) (fun r s' => r = .ok (.ret (.bool true)) ∧ OldK s.heap s'.heap ∧ s'.os = s.os ∧ AllBare s'.gens) s := by
  obtain ⟨H, only, sq, hok, own⟩ := script_at (P := P) (w := w) KX ha hi hl
  have free : ∀ {b : Addr} {o : Obj}, s.heap.get? b = some o → (b = a → (K.lookup b).isSome = true ∨ ∃ es ep, o.data = .dict es ep) → H b = none := fun {b o} e h => by
    cases q : H b with
    | none => rfl
    | some u =>
      obtain ⟨e1, e2⟩ := own b u q
      rcases h e1 with z | ⟨es, ep, z⟩
      · rw [e2] at z
        cases z
      · rw [e1, ha] at e
        have z2 : o.data = Data.seq vs.toArray 0 := (congrArg Obj.data (Option.some.inj e)).symm
        rw [z2] at z
        cases z
  have inB : ∀ {b : Addr} {o : Obj}, s.heap.get? b = some o → H b = none → (hidT s.heap H).get? b = some o := fun e n => hidT_get e n
  have nsB : ∀ {b : Addr} {m : Str → Option Value}, s.heap.Ns b m → (hidT s.heap H).Ns b m := fun ⟨o, es, ep, e, d, r⟩ => ⟨o, es, ep, inB e (free e fun _ => .inr ⟨es, ep, d⟩), d, r⟩
  have KB : K.In (hidT s.heap H) := fun b o e => inB (KX b o e) (free (KX b o e) fun _ => .inl (by rw [e]; rfl))
  obtain ⟨mc, l1, l2⟩ := hlim
  have e0 : Env0 P w K mg (hidT s.heap H) callerA [] s H :=
    { frames := rfl, mod := ⟨KB, nsB hns, ⟨mb, nsB hb, hbb⟩, ⟨mc, nsB l1, l2⟩⟩, bs := fun b o e => of_hidT e, bsz := Nat.le_of_eq (hidT_size _ _), funs := trivial, frf := (fun b z => by cases z), hok := hok, bare := .of_eq hg }
  refine codeAny_mono ((F _ KB (nsB hns)).run callerA [] s H ⟨[.ref a], []⟩ [.ref a] [.ref a] _ _ rfl hr e0 (hbind s (.ref a)) (.cons rfl .nil) (hsp H only sq)) fun r s' h => ?_
  match r, h with
  | .error e, h => exact (hCX H e s' h).elim
  | .ok (.ret u), ⟨v, H', os, bare, un, hok', rv, q⟩ =>
    have q' : v = .bl true := q
    subst q'
    cases rv
    refine ⟨rfl, OldK.of_keep fun b o e => ?_, os, bare⟩
    rcases only b with z | ⟨ob, xs, z⟩
    · exact un.keep b o e z (by intro z; cases z) (by simp)
    · obtain ⟨e1, _⟩ := hok b _ z
      obtain ⟨e2, _⟩ := hok' b _ (un.frzs b ob _ z)
      rw [e] at e1
      cases e1
      exact e2
theorem walkG_of {l : PySem.W.OpenLaw} {n k : Nat} {q : Program} {loose : List Str} {XP : (Str → Option Value) → Heap → Prop} {YP : World → Heap → Prop} {d : DefRec} {K : Params → PySem.W.Frag} {CX : World → CXT} {sp : World → Sp} {x : Str}
    (hn : l.most = some n) (hn2 : n ≤ sizeLine) (hdf : d.params.defaults = []) (hr : Room k callerA)
    (hY : ∀ (w : World) (h : Heap), YP w h → (K w.params).In h)
    (F : ∀ (w : World) (mg : Str → Option Value) (fa : Addr) (h : Heap), (K w.params).In h → h.Ns mainGlobals mg → mg d.name = some (.ref fa) →
      ∃ fd : FuncData, (∀ (s : Shared) (u : Value), BindsTo s fd ⟨[u], []⟩ [(x, u)]) ∧
        ∀ base : Heap, (K w.params).In base → base.Ns mainGlobals mg → FnG l.prog w (K w.params) mg base (CX w) k fa fd [x] (sp w))
    (hsp : ∀ (w : World) (H : Hp) (a : Addr) (ns : List Int), ns.length ≤ n → Only H → SqL (K w.params) H a (ns.map V.int) → sp w [.ref a] H (fun v _ => v = .bl true) fun _ _ _ => False)
    (hCX : ∀ (w : World) (H : Hp) (s : Shared) (e : Value) (s' : Shared), CX w [] H s (fun _ _ _ => False) e s' → False) :
    PySem.W.WalkO q loose XP YP l.row.toRowW d [] (fun f vs => PySem.call f vs) :=
  Att.attach_call hn hdf fun w s₀ s₁ mg mb fa o pm cd doc a vs ns G Y ho hd hcd hmg hobj hints hlen hg => by
    obtain ⟨fd, hb, hF⟩ := F w mg fa _ (hY w _ Y) G.T.g hmg
    exact lawG_call (hY w _ Y) G.T.g G.T.b G.T.builtins G.T.nolimit hg hobj hints (Nat.le_trans hlen hn2) hr hF hb (fun H hO hS => hsp w H a ns hlen hO hS) fun H e s' => hCX w H s₁ e s'
end Lag

set_option maxRecDepth 100000
set_option maxHeartbeats 8000000
/-! ### repr of data in which an empty dict may stand -/
namespace Lag
open PySem PySem.Spec PyProof.Rows L2
mutual
inductive Dx (K : PySem.W.Frag) (Av : Addr → Prop) (H : Hp) : V → PyData → Prop
  | non : Dx K Av H .non .none
  | bl (b : Bool) : Dx K Av H (.bl b) (.bool b)
  | int (i : Int) : Dx K Av H (.int i) (.int i)
  | str (x : Str) : Dx K Av H (.str x) (.str x)
  | lst {a : Addr} {xs : List V} {ds : List PyData} : H a = some (.lst xs) → Av a → DxAll K Av H xs ds → Dx K Av H (.ref a) (.list ds)
  | tup {a : Addr} {xs : List V} {ds : List PyData} : SqT K H a xs → DxAll K Av H xs ds → Dx K Av H (.ref a) (.tuple ds)
  | dic {a : Addr} : H a = some (.dK []) → Dx K Av H (.ref a) (.dict [])
inductive DxAll (K : PySem.W.Frag) (Av : Addr → Prop) (H : Hp) : List V → List PyData → Prop
  | nil : DxAll K Av H [] []
  | cons {v : V} {vs : List V} {d : PyData} {ds : List PyData} : Dx K Av H v d → DxAll K Av H vs ds → DxAll K Av H (v :: vs) (d :: ds)
end
abbrev Any : Addr → Prop := fun _ => True
/-- from heap to heap, and to fewer demands on the lists -/
structure XM (K : PySem.W.Frag) (Av Av' : Addr → Prop) (H H' : Hp) : Prop where
  l : ∀ a xs, Av a → H a = some (.lst xs) → H' a = some (.lst xs) ∧ Av' a
  t : ∀ a xs, SqT K H a xs → SqT K H' a xs
  d : ∀ a, H a = some (.dK []) → H' a = some (.dK [])
mutual
theorem Dx.move {K : PySem.W.Frag} {Av Av' : Addr → Prop} {H H' : Hp} (m : XM K Av Av' H H') : ∀ (d : PyData) {v : V}, Dx K Av H v d → Dx K Av' H' v d
  | .none, _, h => by cases h; exact .non
  | .bool _, _, h => by cases h; exact .bl _
  | .int _, _, h => by cases h; exact .int _
  | .str _, _, h => by cases h; exact .str _
  | .list ds, _, h => by
    cases h with
    | lst s n a => exact .lst (m.l _ _ n s).1 (m.l _ _ n s).2 (DxAll.move m ds a)
  | .tuple ds, _, h => by
    cases h with
    | tup s a => exact .tup (m.t _ _ s) (DxAll.move m ds a)
  | .dict _, _, h => by
    cases h with
    | dic e => exact .dic (m.d _ e)
theorem DxAll.move {K : PySem.W.Frag} {Av Av' : Addr → Prop} {H H' : Hp} (m : XM K Av Av' H H') : ∀ (ds : List PyData) {vs : List V}, DxAll K Av H vs ds → DxAll K Av' H' vs ds
  | [], _, h => by cases h; exact .nil
  | d :: ds, _, h => by
    cases h with
    | cons a b => exact .cons (Dx.move m d a) (DxAll.move m ds b)
end
theorem XM.same {K : PySem.W.Frag} {Av : Addr → Prop} {H H' : Hp} (s : Same H H') : XM K Av Av H H' := ⟨fun a xs n h => ⟨s _ _ h, n⟩, fun a xs h => (TK.same s).seq h, fun a h => s _ _ h⟩
theorem XM.any {K : PySem.W.Frag} {Av : Addr → Prop} {H : Hp} : XM K Av Any H H := ⟨fun a xs n h => ⟨h, trivial⟩, fun a xs h => h, fun a h => h⟩
theorem Dx.same {K : PySem.W.Frag} {Av : Addr → Prop} {H H' : Hp} {d : PyData} {v : V} (h : Dx K Av H v d) (s : Same H H') : Dx K Av H' v d := Dx.move (.same s) d h
theorem Dx.any {K : PySem.W.Frag} {Av : Addr → Prop} {H : Hp} {d : PyData} {v : V} (h : Dx K Av H v d) : Dx K Any H v d := Dx.move .any d h
theorem XM.dr {K : PySem.W.Frag} {w : Addr} {H H' : Hp} (W : WellAt w H) (r : Dr w H H') : XM K (· ≠ w) (· ≠ w) H H' := ⟨fun a xs n h => ⟨r.but _ _ n h, n⟩, fun a xs h => (TK.dr W r.but).seq h, fun a h => r.but _ _ (fun z => by
  obtain ⟨_, _, _, e⟩ := W
  rw [z, e] at h
  cases h) h⟩
theorem Dx.dr {K : PySem.W.Frag} {w : Addr} {H H' : Hp} {d : PyData} {v : V} (h : Dx K (· ≠ w) H v d) (W : WellAt w H) (r : Dr w H H') : Dx K (· ≠ w) H' v d := Dx.move (.dr W r) d h
theorem DxAll.all2 {K : PySem.W.Frag} {Av : Addr → Prop} {H : Hp} : ∀ {vs : List V} {ds : List PyData}, DxAll K Av H vs ds → All2 (Dx K Av H) vs ds
  | _, _, .nil => All2.nil
  | v :: vs, d :: ds, .cons h r => by
    have a := DxAll.all2 r
    refine ⟨by rw [List.length_cons, List.length_cons, a.1], fun i x y hx hy => ?_⟩
    cases i with
    | zero =>
      cases hx
      cases hy
      exact h
    | succ i => exact a.2 i x y hx hy
theorem DxAll.from2 {K : PySem.W.Frag} {Av : Addr → Prop} {H : Hp} : ∀ {vs : List V} {ds : List PyData}, All2 (Dx K Av H) vs ds → DxAll K Av H vs ds
  | [], [], _ => .nil
  | [], _ :: _, a => by have := a.1; simp at this
  | _ :: _, [], a => by have := a.1; simp at this
  | _ :: _, _ :: _, a => .cons (a.head) (DxAll.from2 a.tail)
section
variable {X : Cx} {pins : List (Addr × Obj)} {σ : L2.St} {H : Hp} {s : Shared}
theorem dx_empty (I : Inv X pins σ H s) {a : Addr} (e : H a = some (.dK [])) : (a == sysModules) = false ∧ ∃ o n, s.heap.get? a = some o ∧ o.cls = .type "dict" ∧ o.data = .dict #[] n := by
  obtain ⟨_, hs, vs, kv, o, es, ep, h1, h2, h3, _, h5, _⟩ := dk_of I.hok e
  cases kv
  refine ⟨hs, o, ep, h1, h2.1, ?_⟩
  have : es = #[] := by
    obtain ⟨l⟩ := es
    cases l with
    | nil => rfl
    | cons x r => cases h5
  rw [h3, this]
mutual
theorem Dx.show {Av : Addr → Prop} (I : Inv X pins σ H s) : ∀ (d : PyData) (v : V) (u : Value), Dx X.K Av H v d → RelV v u → d.showable = true → d.shown.length ≤ sizeLine → ∃ as bs, Reads s.heap u d as ∧ ReadAtMost s.heap d.depth bs ∧ ReprK X.prog X.w bs s.heap d.depth u d.shown
  | .none, _, _, h, r, _, _ => by
    cases h
    cases r
    exact ⟨_, [], Reads.none, (fun _ h => nomatch h), by simp only [PyData.shown]; exact .of_is ReprIs.none _ _ _⟩
  | .bool b, _, _, h, r, _, _ => by
    cases h
    cases r
    exact ⟨_, [], Reads.bool b, (fun _ h => nomatch h), by simp only [PyData.shown]; exact .of_is (ReprIs.bool b) _ _ _⟩
  | .int i, _, _, h, r, hs, _ => by
    cases h
    obtain ⟨t, rfl⟩ := r
    exact ⟨_, [], Reads.int i t, (fun _ h => nomatch h), by simp only [PyData.shown]; exact .of_is (ReprIs.int t (by simpa [PyData.showable] using hs)) _ _ _⟩
  | .str x, _, _, h, r, _, hz => by
    cases h
    obtain ⟨t, rfl⟩ := r
    exact ⟨_, [], Reads.str x t, (fun _ h => nomatch h), by simp only [PyData.shown]; exact .of_is (ReprIs.str x t (by simpa only [PyData.shown] using hz)) _ _ _⟩
  | .list ds, _, _, h, r, hs, hz => by
    cases h with
    | lst hq hav ha =>
      cases r
      obtain ⟨its, rv, ⟨o, n, ho, hc, _, hd⟩, _⟩ := I.list (SqL.of hq)
      have hz' : (listText (PyData.shownAll ds)).length ≤ sizeLine := by simpa only [PyData.shown] using hz
      obtain ⟨as, bs, r1, hb, hk⟩ := DxAll.show I ds _ its ha rv (by simpa [PyData.showable] using hs) (fun t ht => Nat.le_trans (listText_mem_le ht) hz')
      have r := Reads.list ho hc hd r1
      have hna := not_mem_of_deeper r (by simp only [PyData.depth]; omega) hb
      refine ⟨_, _ :: bs, r, ReadAtMost.cons r (by simp only [PyData.depth]; omega) hb, ?_⟩
      simp only [PyData.depth, PyData.shown]
      cases its with
      | nil =>
        cases r1
        simp only [PyData.shownAll, listText_nil]
        exact ReprK.listEmpty ho hc hd
      | cons x l => exact ReprK.list ho hc hd hna (by simpa using hk.length_eq) (fun i y e => hk.item i y (by simpa using e))
  | .tuple ds, _, _, h, r, hs, hz => by
    cases h with
    | tup hq ha =>
      cases r
      obtain ⟨its, rv, ⟨o, ho, hc, n, hd⟩, _⟩ := I.tuple hq
      have hz' : (tupleText (PyData.shownAll ds)).length ≤ sizeLine := by simpa only [PyData.shown] using hz
      obtain ⟨as, bs, r1, hb, hk⟩ := DxAll.show I ds _ its ha rv (by simpa [PyData.showable] using hs) (fun t ht => Nat.le_trans (tupleText_mem_le ht) hz')
      have r := Reads.tuple ho hc hd r1
      have hna := not_mem_of_deeper r (by simp only [PyData.depth]; omega) hb
      refine ⟨_, _ :: bs, r, ReadAtMost.cons r (by simp only [PyData.depth]; omega) hb, ?_⟩
      simp only [PyData.depth, PyData.shown]
      exact ReprK.tuple ho hc hd hna hk
  | .dict kvs, _, _, h, r, hs, hz => by
    cases h with
    | dic e =>
      cases r
      obtain ⟨hsys, o, n, h1, h2, h3⟩ := dx_empty I e
      have r := Reads.dict (kvs := []) (as := []) (bs := []) h1 h2 h3 (by exact ReadsAll.nil) (by exact ReadsAll.nil)
      refine ⟨_, [_], r, ReadAtMost.cons (n := 0) r (Nat.zero_le _) (fun _ h => nomatch h), ?_⟩
      simp only [PyData.depth, PyData.shown, PyData.shownKv_eq]
      exact ReprK.dict h1 h2 h3 hsys (by simp) (ReprEntriesK.of_two [] _ _ .nil .nil)
theorem DxAll.show {Av : Addr → Prop} (I : Inv X pins σ H s) : ∀ (ds : List PyData) (vs : List V) (us : List Value), DxAll X.K Av H vs ds → Vals vs us → PyData.showableAll ds = true → (∀ t ∈ PyData.shownAll ds, t.length ≤ sizeLine) → ∃ as bs, ReadsAll s.heap us ds as ∧ ReadAtMost s.heap (PyData.depthAll ds) bs ∧ ReprAllK X.prog X.w bs s.heap (PyData.depthAll ds) us (PyData.shownAll ds)
  | [], _, _, h, r, _, _ => by
    cases h
    cases r
    exact ⟨_, [], ReadsAll.nil, (fun _ h => nomatch h), by simp only [PyData.shownAll]; exact .nil⟩
  | d :: ds, _, _, h, r, hs, hz => by
    cases h with
    | cons h1 h2 =>
      cases r with
      | cons r1 r2 =>
        have hs' : d.showable = true ∧ PyData.showableAll ds = true := by simpa [PyData.showableAll] using hs
        obtain ⟨a1, b1, q1, hb1, k1⟩ := Dx.show I d _ _ h1 r1 hs'.1 (hz _ (by simp only [PyData.shownAll]; exact List.mem_cons_self ..))
        obtain ⟨a2, b2, q2, hb2, k2⟩ := DxAll.show I ds _ _ h2 r2 hs'.2 (fun t ht => hz t (by simp only [PyData.shownAll]; exact List.mem_cons_of_mem _ ht))
        refine ⟨_, b1 ++ b2, ReadsAll.cons q1 q2, ?_, ?_⟩
        · intro b hm
          simp only [PyData.depthAll]
          rcases List.mem_append.mp hm with hm | hm
          · obtain ⟨d', as', r', hd'⟩ := hb1 b hm
            exact ⟨d', as', r', Nat.le_trans hd' (Nat.le_max_left _ _)⟩
          · obtain ⟨d', as', r', hd'⟩ := hb2 b hm
            exact ⟨d', as', r', Nat.le_trans hd' (Nat.le_max_right _ _)⟩
        · simp only [PyData.depthAll, PyData.shownAll]
          exact .cons ((k1.more fun b hb => List.mem_append_left _ hb).level_le (Nat.le_max_left _ _)) (k2.more_le (fun b hb => List.mem_append_right _ hb) (Nat.le_max_right _ _))
end
end
section
variable {X : Cx}
/-- repr of such data -/
def rReprX (K : PySem.W.Frag) : List V → Hp → VK → Prop := fun xs H Q => ∃ (v : V) (d : PyData), xs = [v] ∧ Dx K Any H v d ∧ d.showable = true ∧ d.depth < 64 ∧ d.shown.length ≤ sizeLine ∧ Q (.str d.shown) H
theorem call_reprX (gd : X.A.guards = some []) (hu : X.A.units + 65 < cLine) : CallR X (.builtin "repr") (rReprX X.K) := by
  intro pins s σ H xs us Q I r h
  obtain ⟨v, d, rfl, dx, sh, dd, hz, q⟩ := h
  obtain ⟨u, rfl, rx⟩ := vals1 r
  have fin : ∀ (h' : Heap) (u : Tok) (tk : Nat), (∀ b o, s.heap.get? b = some o → h'.get? b = some o) → ∃ (v : V) (H' : Hp), Inv X pins σ H' { s with heap := h', toks := tk } ∧ RelV v (.str d.shown u) ∧ Q v H' := fun h' u tk hk => I.after ⟨.str d.shown, H, rfl, I.bare, Un.kept hk, I.hok.kept hk, ⟨_, rfl⟩, q⟩
  cases dx with
  | non =>
    cases rx
    exact PySem.P.repr_of_none (fin s.heap _ _ fun _ _ e => e)
  | bl b =>
    cases rx
    refine PySem.P.repr_of_bool ?_
    have e : (if b then ("True" : Str) else "False") = PyData.shown (.bool b) := by cases b <;> rfl
    exact fin s.heap _ _ fun _ _ e => e
  | int i =>
    obtain ⟨t, rfl⟩ := rx
    exact PySem.P.repr_of_int (by simpa [PyData.showable] using sh) (fin s.heap _ _ fun _ _ e => e)
  | str x =>
    obtain ⟨t, rfl⟩ := rx
    exact PySem.P.repr_of_str (fin s.heap _ _ fun _ _ e => e) (by simpa only [PyData.shown] using hz)
  | lst hq hav ha =>
    rename_i a xs ds
    cases rx
    obtain ⟨its, rv, ⟨o, n, ho, hc, _, hd⟩, _⟩ := I.list (SqL.of hq)
    have hz' : (listText (PyData.shownAll ds)).length ≤ sizeLine := by simpa only [PyData.shown] using hz
    obtain ⟨as, bs, r1, hb, hk⟩ := DxAll.show I ds _ its ha rv (by simpa [PyData.showable] using sh) (fun t ht => Nat.le_trans (listText_mem_le ht) hz')
    have hna : a ∉ bs := not_mem_of_deeper (Reads.list ho hc hd r1) (by simp only [PyData.depth]; omega) hb
    refine call_repr_slot (by omega) ⟨o, ho, hc⟩ (F.slot_list_repr.toG) ?_
    simp only [PyData.depth] at dd
    simp only [PyData.shown] at fin
    cases its with
    | nil =>
      cases r1
      simp only [PyData.shownAll, listText_nil] at fin
      exact call_list_repr_empty ⟨o, ho, hc⟩ ho hd ⟨_, _, rfl, fin s.heap _ _ fun _ _ e => e⟩
    | cons x l =>
      exact call_list_reprK ho hc hd hna (by simpa using hk.length_eq) (fun i y e => hk.item i y (by simpa using e)) gd (fun b _ => Clear.nil b) (by show X.A.units + 1 + _ < cLine; omega) (fun _ _ e => e) (fun h' u tk hk => ⟨_, _, rfl, fin h' u tk hk⟩) hz'
  | tup hq ha =>
    rename_i a xs ds
    cases rx
    obtain ⟨its, rv, ⟨o, ho, hc, n, hd⟩, _⟩ := I.tuple hq
    have hz' : (tupleText (PyData.shownAll ds)).length ≤ sizeLine := by simpa only [PyData.shown] using hz
    obtain ⟨as, bs, r1, hb, hk⟩ := DxAll.show I ds _ its ha rv (by simpa [PyData.showable] using sh) (fun t ht => Nat.le_trans (tupleText_mem_le ht) hz')
    have hna : a ∉ bs := not_mem_of_deeper (Reads.tuple ho hc hd r1) (by simp only [PyData.depth]; omega) hb
    refine call_repr_slot (by omega) ⟨o, ho, hc⟩ F.slot_tuple_repr ?_
    simp only [PyData.depth] at dd
    simp only [PyData.shown] at fin
    exact call_tuple_reprK ho hc hd hna hk gd (fun b _ => Clear.nil b) (by show X.A.units + 1 + _ < cLine; omega) (fun _ _ e => e) (fun h' u tk hk => ⟨_, _, rfl, fin h' u tk hk⟩) hz'
  | dic e =>
    rename_i a
    cases rx
    obtain ⟨hsys, o, n, h1, h2, h3⟩ := dx_empty I e
    refine call_repr_slot (by omega) ⟨o, h1, h2⟩ F.slot_dict_repr ?_
    simp only [PyData.depth] at dd
    simp only [PyData.shown, PyData.shownKv_eq] at fin hz
    exact call_dict_reprK (as := []) (d := 0) h1 h2 h3 hsys (by simp) (ReprEntriesK.of_two [] _ _ .nil .nil) gd (fun b _ => Clear.nil b) (by show X.A.units + 1 + _ < cLine; omega) (fun _ _ e => e) (fun h' u tk hk => ⟨_, _, rfl, fin h' u tk hk⟩) hz
end
end Lag

set_option maxRecDepth 100000
set_option maxHeartbeats 8000000
/-! ### C(..) of a class of one's own whose __init__ may raise -/
namespace L2
open PySem PySem.Spec PyProof.Rows
section
variable {X : Cx} {CX : CXT} {k : Nat} {f C : Addr} {fd : FuncData} {ps : List Str} {sp : Sp} {E : XK} {Es : St → XK} {x : Str} {p pos : Pos} {e : Expr} {es : List Expr} {t : TA}
theorem run_makeS {pins : List (Addr × Obj)} {σ : St} {H : Hp} {s : Shared} {Q : VK} {us : List Value} {vs : List V} (M : Mk X.K C f) (F : FnOk X.prog X.w X.K X.mg X.base CX k f fd ps sp) (hr : Room (k + 1) X.A) (hb : Binds X.K fd ps [])
    (hx : PassesAt CX X σ E) (I : Inv X pins σ H s) (r : Vals vs us)
    (h : ∀ x dx, H x = none → H dx = none → dx ≠ x → sp (.ref x :: vs) (upd (upd H dx (.own x)) x (.ins C dx [])) (fun v H2 => v = .non ∧ Q (.ref x) H2) E) :
    wpAny (model X.prog X.w) X.A (call (.ref C) us) (EP X pins σ Q) X.xe s := by
  have hq := h (s.heap.objs.size + 1) s.heap.objs.size (I.hok.fresh (Nat.le_succ _)) (I.hok.fresh (Nat.le_refl _)) (Nat.ne_of_lt (Nat.lt_succ_self _))
  have I2 := Inv.made (C := C) I
  have r2 : Vals (V.ref (s.heap.objs.size + 1) :: vs) (Value.ref (s.heap.objs.size + 1) :: us) := .cons rfl r
  have hl : (Value.ref (s.heap.objs.size + 1) :: us ++ []).length = ps.length := by
    rw [List.append_nil]
    have e := r2.length
    rw [F.len _ _ _ _ hq] at e
    exact e.symm
  have b := hb _ (Value.ref (s.heap.objs.size + 1) :: us) I2.kIn hl
  rw [List.append_nil] at b
  refine wpAny_call (make_map (f := f) I.kIn M.makes M.init (beq_iff_eq.mp M.fn) (codeAny_mono (F.run _ X.stack _ _ ⟨Value.ref (s.heap.objs.size + 1) :: us, []⟩ (Value.ref (s.heap.objs.size + 1) :: us) _ _ E (hr.make C us [])
    (I2.env0.make C us []) b r2 hq) fun r s' hq' => ?_))
  cases r with
  | error e => exact hx pins _ _ e s' I2 hq'
  | ok fl =>
    cases fl with
    | ret u =>
      obtain ⟨v, H', I3, rv, ev, q3⟩ := I2.after hq'
      subst ev
      exact ⟨rv, ⟨V.ref (s.heap.objs.size + 1), H', I3, rfl, q3⟩⟩
    | next => exact False.elim hq'
    | brk => exact False.elim hq'
    | cont => exact False.elim hq'
def tMakeS (C : Addr) (sp : Sp) (E : St → XK) (t : TA) : TE := fun σ H Q => t σ H fun vs H1 => ∀ x dx, H1 x = none → H1 dx = none → dx ≠ x → sp (.ref x :: vs) (upd (upd H1 dx (.own x)) x (.ins C dx [])) (fun v H2 => v = .non ∧ Q (.ref x) H2) (E σ)
theorem pe_makeS (M : Mk X.K C f) (F : FnOk X.prog X.w X.K X.mg X.base CX k f fd ps sp) (hr : Room (k + 1) X.A) (hg : Gl X x) (hm : X.mg x = some (.ref C)) (hb : Binds X.K fd ps []) (hx : ∀ σ, PassesAt CX X σ (Es σ))
    (ha : PA X (e :: es) t) (hdb : (x == ("__debug__" : Str)) = false := by decide) (he : starEach (e :: es) X.env = (false, eval e X.env) :: starEach es X.env := by rfl) (hpl : (backTo pos (starEach es X.env)).any (·.1) = false := by rfl) :
    PE X (.Call (.Name x p) (e :: es) [] pos) (tMakeS C sp Es t) := by
  refine ⟨fun pins s σ H Q I h => ?_⟩
  refine wpAny_Call_Name_kw (ld_glob I hg hm ?_ hdb)
  refine PySem.W.callWith_K (h₀ := X.base) I.ok.mod.kin M.kp (thn (ha.run pos pins s σ H _ I h) fun us s1 ⟨vs, H1, I1, r, q⟩ => ⟨I1.kIn, ?_⟩) he hpl
  exact run_makeS M F hr hb (hx σ) I1 r q
end
end L2
namespace Lag
open PySem PySem.Spec PyProof.Rows L2
abbrev sNWinit : Stmt := inClass (topS 4 /- @NoWires -/) 0
/-! ### data of any kind where a number or a turn is asked -/
def dI : PyData → Bool
  | .int _ => true
  | .bool _ => true
  | _ => false
def dB : PyData → Bool
  | .bool _ => true
  | _ => false
def dT : PyData → Bool
  | .tuple _ => true
  | _ => false
def dL : PyData → Bool
  | .list _ => true
  | _ => false
def wholeD : PyData → Bool
  | .int _ => true
  | _ => false
def fromD : PyData → Int → Int → Bool
  | .int n, a, b => decide (a ≤ n) && decide (n ≤ b)
  | _, _, _ => false
theorem whole_is (d : PyData) : wholeD d = (dI d && !dB d) := by cases d <;> rfl
theorem Dx.ty {K : PySem.W.Frag} {Av : Addr → Prop} {H : Hp} {v : V} {d : PyData} (h : Dx K Av H v d) : ∃ t : String, TyX K H v (.type t) ∧ kitB t "int" = some (dI d) ∧ kitB t "bool" = some (dB d) ∧ kitB t "tuple" = some (dT d) ∧ kitB t "list" = some (dL d) := by
  cases h with
  | non => exact ⟨"NoneType", .base .non, (show kitB "NoneType" "int" = some false by decide +kernel), (show kitB "NoneType" "bool" = some false by decide +kernel), (show kitB "NoneType" "tuple" = some false by decide +kernel), (show kitB "NoneType" "list" = some false by decide +kernel)⟩
  | bl b => exact ⟨"bool", .base (.bl b), (show kitB "bool" "int" = some true by decide +kernel), (show kitB "bool" "bool" = some true by decide +kernel), (show kitB "bool" "tuple" = some false by decide +kernel), (show kitB "bool" "list" = some false by decide +kernel)⟩
  | int i => exact ⟨"int", .base (.int i), (show kitB "int" "int" = some true by decide +kernel), (show kitB "int" "bool" = some false by decide +kernel), (show kitB "int" "tuple" = some false by decide +kernel), (show kitB "int" "list" = some false by decide +kernel)⟩
  | str x => exact ⟨"str", .base (.str x), (show kitB "str" "int" = some false by decide +kernel), (show kitB "str" "bool" = some false by decide +kernel), (show kitB "str" "tuple" = some false by decide +kernel), (show kitB "str" "list" = some false by decide +kernel)⟩
  | lst s n a => exact ⟨"list", ty_lst (SqL.of s), (show kitB "list" "int" = some false by decide +kernel), (show kitB "list" "bool" = some false by decide +kernel), (show kitB "list" "tuple" = some false by decide +kernel), (show kitB "list" "list" = some true by decide +kernel)⟩
  | tup s a => exact ⟨"tuple", ty_tup s, (show kitB "tuple" "int" = some false by decide +kernel), (show kitB "tuple" "bool" = some false by decide +kernel), (show kitB "tuple" "tuple" = some true by decide +kernel), (show kitB "tuple" "list" = some false by decide +kernel)⟩
  | dic e => exact ⟨"dict", .base (.dK e), (show kitB "dict" "int" = some false by decide +kernel), (show kitB "dict" "bool" = some false by decide +kernel), (show kitB "dict" "tuple" = some false by decide +kernel), (show kitB "dict" "list" = some false by decide +kernel)⟩
def spWholeD (K : PySem.W.Frag) : Sp := fun vs H Q _ => ∃ (v : V) (d : PyData), vs = [v] ∧ Dx K Any H v d ∧ Q (.bl (wholeD d)) H
def spFromToD (K : PySem.W.Frag) : Sp := fun vs H Q _ => ∃ (v : V) (d : PyData) (a b : Int), vs = [v, .int a, .int b] ∧ Dx K Any H v d ∧ Q (.bl (fromD d a b)) H
def spWorthD (K : PySem.W.Frag) : Sp := fun vs H Q _ => ∃ (v : V) (d : PyData), vs = [v] ∧ Dx K Any H v d ∧ Q (.bl (fromD d 0 96)) H
theorem vint_eq (a b : Int) : decide (V.int a = V.int b) = decide (a = b) := decide_eq_decide.mpr ⟨fun h => by injection h, fun h => by rw [h]⟩
/-- an error of the class at S is what «except S» names -/
theorem exm_self {K : PySem.W.Frag} {S : Addr} (h1 : PySem.W.subIn K (.ref S) (.type "BaseException") = some true) (h2 : PySem.W.isClsIn K S = true) (h3 : PySem.W.typeIn K (.ref S) = some (.type "type")) (h4 : PySem.W.subIn K (.ref S) (.ref S) = some true) :
    PySem.W.exmOne K (.ref S) (.ref S) = some true := by
  have e1 : (PySem.W.subIn K (.ref S) (.type "BaseException") == some true) = true := by rw [h1] <;> rfl
  have e2 : ((PySem.W.clsIn K S).isSome && PySem.W.typeIn K (.ref S) == some (.type "type")) = true := by
    have h2' : (PySem.W.clsIn K S).isSome = true := h2
    rw [h2', h3] <;> rfl
  show (if (PySem.W.subIn K (.ref S) (.type "BaseException") == some true) = true then (if ((PySem.W.clsIn K S).isSome && PySem.W.typeIn K (.ref S) == some (.type "type")) = true then PySem.W.subIn K (.ref S) (.ref S) else none) else none) = some true
  rw [if_pos e1, if_pos e2]
  exact h4
/-- what the top tells of a class under LagError that has nothing of its own -/
structure PEx (K : PySem.W.Frag) (mg : Str → Option Value) (x : Str) (C : Addr) : Prop where
  g : mg x = some (.ref C)
  q : PySem.W.excIn K C [.type "ValueError", .type "Exception", .type "BaseException", .type "object"] "ValueError.__new__" = true
  k : PySem.W.keepIn K (.ref C) = true
  e : PySem.W.subIn K (.ref C) (.type "BaseException") = some true
  t : PySem.W.typeIn K (.ref C) = some (.type "type")
  te : PySem.W.exmOne K (.ref C) (.ref C) = some true
theorem fn_cx0 {P : Program} {w : World} {K : PySem.W.Frag} {mg : Str → Option Value} {base : Heap} {CX : CXT} {k : Nat} {f : Addr} {fd : FuncData} {ps : List Str} {sp : Sp} (F : FnOk P w K mg base CX0 k f fd ps sp) : FnOk P w K mg base CX k f fd ps sp :=
  ⟨F.len, fun A outer s H args us vs Q E hr he hb hv hs => codeAny_mono (F.run A outer s H args us vs Q E hr he hb hv hs) fun r s' h => by
    cases r with
    | error e => exact False.elim h
    | ok fl =>
      cases fl with
      | ret u => exact h
      | next => exact False.elim h
      | brk => exact False.elim h
      | cont => exact False.elim h⟩
theorem fn_or {P : Program} {w : World} {K : PySem.W.Frag} {mg : Str → Option Value} {base : Heap} {CX : CXT} {k : Nat} {f : Addr} {fd : FuncData} {ps : List Str} {sp sp' : Sp} (F : FnOk P w K mg base CX k f fd ps sp) (F' : FnOk P w K mg base CX k f fd ps sp') : FnOk P w K mg base CX k f fd ps (fun vs H Q E => sp vs H Q E ∨ sp' vs H Q E) :=
  ⟨fun vs H Q E h => h.elim (F.len vs H Q E) (F'.len vs H Q E), fun A outer s H args us vs Q E hr he hb hv hs => hs.elim (F.run A outer s H args us vs Q E hr he hb hv) (F'.run A outer s H args us vs Q E hr he hb hv)⟩
/-! ### an exception with its own __init__, which calls that of LagError -/
section
variable {X : Cx} {e : Expr} {es : List Expr} {ta : TA} {p1 p2 pos : Pos}
theorem pe_leinit {x : Str} {C0 : Addr} {pl : Sem Bool} (hg : Gl X x) (hm : X.mg x = some (.ref C0)) (gA : PySem.W.specialIn X.K (.ref C0) "__getattribute__" = some (some (.builtin "type.__getattribute__"))) (tC : PySem.W.typeIn X.K (.ref C0) = some (.type "type")) (rC : PySem.W.readsIn X.K C0 (.type "type") = true)
    (vV : PySem.W.findCls X.K (.ref C0) (.type "type") "__init__" = some (.val (.builtin "ValueError.__init__"))) (ha : PA X (e :: es) ta) (hdb : (x == ("__debug__" : Str)) = false := by decide)
    (hc : eval (.Call (.Attribute (.Name x p1) "__init__" p2) (e :: es) [] pos) X.env = (do
      let ov ← eval (.Name x p1) X.env
      standAt p2.atName
      let (f, first) ← holding [ov] (getMethod ov "__init__" pl)
      callWith pos f first (backTo pos (starEach (e :: es) X.env)) (backToKw pos (keywordEach [] X.env))) := by rfl)
    (he : starEach (e :: es) X.env = (false, eval e X.env) :: starEach es X.env := by rfl) (hpl : (backTo pos (starEach es X.env)).any (·.1) = false := by rfl) :
    PE X (.Call (.Attribute (.Name x p1) "__init__" p2) (e :: es) [] pos) (tVeI X.K ta) := by
  refine ⟨fun pins s σ H Q I h => ?_⟩
  refine PySem.W.methodCall_KW (ld_glob I hg hm ?_ hdb) hc
  obtain ⟨m, fr⟩ := I.fr
  refine PySem.W.method_of_cls fr I.ok.mod.kin gA (PySem.W.cls_val fr I.ok.mod.kin tC rC vV (by decide +kernel) ?_)
  show wpAny _ _ (callWith pos (Value.builtin "ValueError.__init__") [] (backTo pos (starEach (e :: es) X.env)) []) _ _ _
  refine PyProof.Rows.callWith_method1 (thn (ha.run pos pins _ σ H _ (I.tok _) h) fun us s1 ⟨vs, H1, I1, r1, a, C, ws, ev, hl, T, ea, q⟩ => ?_) he hpl
  subst ev
  cases r1 with
  | @cons _ u0 _ ur ra rw' =>
    obtain rfl : u0 = Value.ref a := ra
    have hlen : ur.length ≤ sizeLine := by
      rw [← Paired.length rw', sizeLine_eq]
      omega
    exact oinit_ok T I1 ea hlen fun s' J => ⟨.non, H1, J, rfl, q⟩
end
/-- what the top tells of LagError -/
structure LEx (K : PySem.W.Frag) (mg : Str → Option Value) (C0 : Addr) : Prop where
  g : mg "LagError" = some (.ref C0)
  gA : PySem.W.specialIn K (.ref C0) "__getattribute__" = some (some (.builtin "type.__getattribute__"))
  tC : PySem.W.typeIn K (.ref C0) = some (.type "type")
  rC : PySem.W.readsIn K C0 (.type "type") = true
  vV : PySem.W.findCls K (.ref C0) (.type "type") "__init__" = some (.val (.builtin "ValueError.__init__"))
/-- .. and of a class under it with a field of its own -/
structure TEx (K : PySem.W.Frag) (mg : Str → Option Value) (x f : Str) (C fI : Addr) : Prop where
  g : mg x = some (.ref C)
  T : OexC K C
  iC : PySem.W.findIn K (.ref C) "__init__" = some (some (.ref fI))
  tI : PySem.W.typeIn K (.ref fI) = some (.type "function")
  no : PySem.W.findIn K (.ref C) f = some none
  xf : XfC K C
  te : PySem.W.exmOne K (.ref C) (.ref C) = some true
def spXI (f : Str) (C : Addr) : Sp := fun vs H Q _ => ∃ (a : Addr) (v : V), vs = [.ref a, v] ∧ H a = some (exo a C none) ∧ ∀ dx, H dx = none → dx ≠ a → Q .non (upd (upd H dx (exd dx [(f, v)])) a (exo a C (some dx)))
theorem mk_heap {H : Hp} {a d : Addr} {o1 o2 o3 o : HO} (ha : H a = none) (hd : d ≠ a) : upd (del (upd (upd (upd H a o1) d o2) a o3) a) d o = upd H d o := by
  funext b
  by_cases hb : b = d
  · rw [hb, upd_same, upd_same]
  · rw [upd_ne hb, upd_ne hb]
    by_cases hba : b = a
    · rw [hba, del_same, ha]
    · rw [del_ne hba, upd_ne hba, upd_ne hb, upd_ne hba]
section
variable {P : Program} {w : World} {K : PySem.W.Frag} {mg : Str → Option Value} {base : Heap}
theorem ok_wholeD {f : Addr} {fd : FuncData} (F : Fun K "is_whole" "is_whole" sWhole f fd) (B : Bt mg) : FnOk P w K mg base CX0 1 f fd ["thing"] (spWholeD K) := by
  refine F.ok scWhole (fun vs H Q E h => ?_) (fun cdv A outer s H vs Q E hr h => ?_)
  · obtain ⟨v, d, rfl, _⟩ := h
    rfl
  · obtain ⟨v, d, rfl, hd, q⟩ := h
    refine ⟨_, pss_one <| ps_ret <| pe_and (pe_callB call_isi (by rfl) B.isi (by decide +kernel) (pa_cons (pv 0) (pa_cons (pe_bltn (v := .ty "int") (by rfl) B.int (by decide +kernel) rfl) pa_nil)))
      (pe_one (pe_not (pe_callB call_isi (by rfl) B.isi (by decide +kernel) (pa_cons (pv 0) (pa_cons (pe_bltn (v := .ty "bool") (by rfl) B.bool (by decide +kernel) rfl) pa_nil))))), ?_⟩
    obtain ⟨t, ty, k1, k2, _⟩ := hd.ty
    rw [whole_is] at q
    refine ⟨_, rfl, _, _, _, _, dI d, rfl, .ty "int", ty, kit_ty k1, dI d, rfl, ite2 (fun e1 => ?_) (fun e1 => ?_)⟩
    · rw [e1] at q
      exact ⟨_, rfl, _, _, _, _, dB d, rfl, .ty "bool", ty, kit_ty k2, dB d, rfl, q⟩
    · have e2 : dI d = false := by simpa using e1
      rw [e2] at q
      exact q
theorem ok_fromToD {f fW : Addr} {fd fdW : FuncData} (F : Fun K "is_whole_from_to" "is_whole_from_to" sFromTo f fd) (DW : DWhole P w K mg base fW fdW) (DX : FnOk P w K mg base CX0 1 fW fdW ["thing"] (spWholeD K)) : FnOk P w K mg base CX0 2 f fd ["thing", "least", "greatest"] (spFromToD K) := by
  refine F.ok scFromTo (fun vs H Q E h => ?_) (fun cdv A outer s H vs Q E hr h => ?_)
  · obtain ⟨v, d, a, b, rfl, _⟩ := h
    rfl
  · obtain ⟨v, d, a, b, rfl, hd, q⟩ := h
    have hr1 : Room 1 _ := hr.mono (by decide)
    refine ⟨_, pss_one <| ps_ret <| pe_and (pe_call DX hr1 (by rfl) DW.mg DW.kp DW.bd .nil pass0 (pa_cons (pv 0) pa_nil)) (pe_one (pe_chain op_le op_le (pv 1) (pv 0) (pv 2))), ?_⟩
    refine ⟨_, rfl, v, d, rfl, hd, wholeD d, rfl, ?_⟩
    cases hd with
    | int n =>
      refine iteT ?_
      refine ⟨_, rfl, _, rfl, _, _, rfl, rfl, _, rfl, ?_⟩
      have q : Q (.bl (decide (a ≤ n) && decide (n ≤ b))) H := q
      cases e : decide (a ≤ n) with
      | false =>
        rw [e] at q
        exact iteF q
      | true =>
        rw [e] at q
        exact iteT ⟨_, rfl, _, _, rfl, rfl, q⟩
    | bl b' => exact iteF q
    | non => exact iteF q
    | str x => exact iteF q
    | tup s a => exact iteF q
    | lst s n a => exact iteF q
    | dic e => exact iteF q
theorem ok_worthD {f fF aK aW aF : Addr} {fd fdF : FuncData} (F : Fun K "is_worth" "is_worth" sWorth f fd) (C : Cns K mg aK aW aF) (DF : DFromTo P w K mg base fF fdF) (DX : FnOk P w K mg base CX0 2 fF fdF ["thing", "least", "greatest"] (spFromToD K)) : FnOk P w K mg base CX0 3 f fd ["thing"] (spWorthD K) := by
  obtain ⟨tg, hgw⟩ := C.gw
  refine F.ok scWorth (fun vs H Q E h => ?_) (fun cdv A outer s H vs Q E hr h => ?_)
  · obtain ⟨v, d, rfl, _⟩ := h
    rfl
  · obtain ⟨v, d, rfl, hd, q⟩ := h
    refine ⟨_, pss_one <| ps_ret <| pe_call DX hr (by rfl) DF.mg DF.kp DF.bd .nil pass0 <| pa_cons (pv 0) <| pa_cons pe_int <| pa_cons (pe_glob (v := .int 96) (by rfl) hgw ⟨_, rfl⟩) pa_nil, ?_⟩
    exact ⟨_, rfl, v, d, 0, 96, rfl, hd, q⟩
theorem scNWinit : FnScope ["self", "place"] ["self", "place"] (defScope sNWinit) := ⟨rfl, rfl, rfl, by decide +kernel, rfl, by decide +kernel, by decide +kernel⟩
theorem ok_nwInit {f C0 C fI : Addr} {fd : FuncData} (F : Fun K "__init__" "NoWires.__init__" sNWinit f fd) (L : LEx K mg C0) (TE : TEx K mg "NoWires" "place" C fI) : FnOk P w K mg base CX0 1 f fd ["self", "place"] (spXI "place" C) := by
  refine F.ok scNWinit (fun vs H Q E h => ?_) (fun cdv A outer s H vs Q E hr h => ?_)
  · obtain ⟨a, v, rfl, _⟩ := h
    rfl
  · obtain ⟨a, v, rfl, ha, q⟩ := h
    refine ⟨_, pss_cons (ps_expr (pe_leinit (by rfl) L.g L.gA L.tC L.rC L.vV (pa_cons (pv 0) (pa_cons pe_str pa_nil)))) <| pss_one (ps_ost (pv 0) (pv 1)), ?_⟩
    exact ⟨_, rfl, a, C, _, rfl, (by show 1 ≤ 1000; decide), TE.T, ha, _, rfl, _, rfl, a, C, rfl, TE.T, TE.no, .inl ⟨ha, fun dx hdx ne => q dx hdx ne⟩⟩
end
end Lag

set_option maxRecDepth 100000
set_option maxHeartbeats 8000000
namespace Lag
open PySem PySem.Spec PyProof.Rows L2
/-! ### gates and wires as data of any kind -/
def dS : PyData → Bool
  | .str _ => true
  | _ => false
theorem Dx.tyS {K : PySem.W.Frag} {Av : Addr → Prop} {H : Hp} {v : V} {d : PyData} (h : Dx K Av H v d) : ∃ t : String, TyX K H v (.type t) ∧ kitB t "str" = some (dS d) := by
  cases h with
  | non => exact ⟨"NoneType", .base .non, (show kitB "NoneType" "str" = some false by decide +kernel)⟩
  | bl b => exact ⟨"bool", .base (.bl b), (show kitB "bool" "str" = some false by decide +kernel)⟩
  | int i => exact ⟨"int", .base (.int i), (show kitB "int" "str" = some false by decide +kernel)⟩
  | str x => exact ⟨"str", .base (.str x), (show kitB "str" "str" = some true by decide +kernel)⟩
  | lst s n a => exact ⟨"list", ty_lst (SqL.of s), (show kitB "list" "str" = some false by decide +kernel)⟩
  | tup s a => exact ⟨"tuple", ty_tup s, (show kitB "tuple" "str" = some false by decide +kernel)⟩
  | dic e => exact ⟨"dict", .base (.dK e), (show kitB "dict" "str" = some false by decide +kernel)⟩
/-- the greatest wait of a kind -/
def waitTo (s : Str) : Int := if s = "in" ∨ s = "out" then 0 else 100
def isGateD : PyData → Bool
  | .tuple [.str s, w] => decide (s ∈ kinds) && fromD w 0 (waitTo s)
  | _ => false
theorem isGateD_len : ∀ {ds : List PyData}, ds.length ≠ 2 → isGateD (.tuple ds) = false
  | [], _ => rfl
  | [x], _ => by cases x <;> rfl
  | [_, _], h => absurd rfl h
  | x :: _ :: _ :: _, _ => by cases x <;> rfl
theorem isGateD_no {d1 d2 : PyData} (h : dS d1 = false) : isGateD (.tuple [d1, d2]) = false := by
  cases d1 <;> first | rfl | cases h
def gatesOkD : PyData → Bool
  | .list ds => !ds.isEmpty && ds.all isGateD
  | _ => false
def regsD : PyData → Bool
  | .tuple ws => ws.all fun d => fromD d 0 96
  | _ => false
def isWireD (n : Int) : PyData → Bool
  | .tuple [s, e, h] => fromD s 0 (n - 1) && (fromD e 0 (n - 1) && regsD h)
  | _ => false
theorem isWireD_len {n : Int} : ∀ {ds : List PyData}, ds.length ≠ 3 → isWireD n (.tuple ds) = false
  | [], _ => rfl
  | [_], _ => rfl
  | [_, _], _ => rfl
  | [_, _, _], h => absurd rfl h
  | _ :: _ :: _ :: _ :: _, _ => rfl
def intOf : PyData → Int
  | .int i => i
  | _ => 0
def asGt : PyData → Gt
  | .tuple [.str s, .int w] => (s, w)
  | _ => ("", 0)
def asWr : PyData → Wr
  | .tuple [s, e, .tuple ws] => ((intOf s).toNat, (intOf e).toNat, ws.map intOf)
  | _ => (0, 0, [])
def asGs : PyData → List Gt
  | .list ds => ds.map asGt
  | _ => []
def asWs : PyData → List Wr
  | .list ds => ds.map asWr
  | _ => []
theorem from_int {d : PyData} {a b : Int} (h : fromD d a b = true) : ∃ i, d = .int i ∧ a ≤ i ∧ i ≤ b := by
  cases d with
  | int i =>
    have h : (decide (a ≤ i) && decide (i ≤ b)) = true := h
    rw [Bool.and_eq_true] at h
    exact ⟨i, rfl, of_decide_eq_true h.1, of_decide_eq_true h.2⟩
  | _ => cases h
theorem isGate_inv {d : PyData} (h : isGateD d = true) : ∃ (x : Str) (i : Int), d = .tuple [.str x, .int i] ∧ x ∈ kinds ∧ 0 ≤ i ∧ i ≤ waitTo x := by
  match d, h with
  | .tuple [.str x, w], h =>
    have h : (decide (x ∈ kinds) && fromD w 0 (waitTo x)) = true := h
    rw [Bool.and_eq_true] at h
    obtain ⟨i, rfl, i0, i1⟩ := from_int h.2
    exact ⟨x, i, rfl, of_decide_eq_true h.1, i0, i1⟩
theorem gok_of {x : Str} {i : Int} (hx : x ∈ kinds) (i0 : 0 ≤ i) (i1 : i ≤ waitTo x) : GOk (x, i) := by
  refine ⟨hx, i0, ?_, fun hp => ?_⟩
  · show i ≤ 100
    unfold waitTo at i1
    split at i1 <;> omega
  · show i = 0
    have hp : x = "in" ∨ x = "out" := hp
    unfold waitTo at i1
    rw [if_pos hp] at i1
    omega
theorem regs_inv {d : PyData} (h : regsD d = true) : ∃ ws, d = .tuple ws ∧ (ws.all fun d => fromD d 0 96) = true := by
  match d, h with
  | .tuple ws, h => exact ⟨ws, rfl, h⟩
theorem isWire_inv {n : Nat} {d : PyData} (h : isWireD n d = true) : ∃ (i j : Int) (ws : List PyData), d = .tuple [.int i, .int j, .tuple ws] ∧ 0 ≤ i ∧ i < n ∧ 0 ≤ j ∧ j < n ∧ (ws.all fun d => fromD d 0 96) = true := by
  match d, h with
  | .tuple [d1, d2, d3], h =>
    have h : (fromD d1 0 ((n : Int) - 1) && (fromD d2 0 ((n : Int) - 1) && regsD d3)) = true := h
    rw [Bool.and_eq_true, Bool.and_eq_true] at h
    obtain ⟨h1, h2, h3⟩ := h
    obtain ⟨i, rfl, i0, i1⟩ := from_int h1
    obtain ⟨j, rfl, j0, j1⟩ := from_int h2
    obtain ⟨ws, rfl, hw⟩ := regs_inv h3
    exact ⟨i, j, ws, rfl, i0, by omega, j0, by omega, hw⟩
/-- a gate -/
theorem gate_of {K : PySem.W.Frag} {Av : Addr → Prop} {H : Hp} {v : V} {d : PyData} (hd : Dx K Av H v d) (h : isGateD d = true) : GateV K H v (asGt d) ∧ GOk (asGt d) := by
  obtain ⟨x, i, rfl, hx, i0, i1⟩ := isGate_inv h
  cases hd with
  | tup s al =>
    cases al with
    | cons h1 r =>
      cases h1
      cases r with
      | cons h2 r2 =>
        cases h2
        cases r2
        exact ⟨⟨_, rfl, s⟩, gok_of hx i0 i1⟩
theorem gates_of {K : PySem.W.Frag} {Av : Addr → Prop} {H : Hp} : ∀ {vs : List V} {ds : List PyData}, DxAll K Av H vs ds → ds.all isGateD = true → All2 (GateV K H) vs (ds.map asGt) ∧ ∀ g ∈ ds.map asGt, GOk g
  | [], [], _, _ => ⟨All2.nil, fun g h => by cases h⟩
  | v :: vs, d :: ds, .cons h1 h2, h => by
    rw [List.all_cons, Bool.and_eq_true] at h
    obtain ⟨a, b⟩ := gate_of h1 h.1
    obtain ⟨c, e⟩ := gates_of h2 h.2
    refine ⟨⟨by rw [List.length_cons, List.map_cons, List.length_cons, c.1], fun i x y hx hy => ?_⟩, fun g hg => ?_⟩
    · cases i with
      | zero =>
        cases hx
        cases hy
        exact a
      | succ i => exact c.2 i x y hx hy
    · rw [List.map_cons] at hg
      rcases List.mem_cons.mp hg with rfl | hg
      · exact b
      · exact e g hg
theorem ints_of {K : PySem.W.Frag} {Av : Addr → Prop} {H : Hp} : ∀ {vs : List V} {ds : List PyData}, DxAll K Av H vs ds → (ds.all fun d => fromD d 0 96) = true → vs = (ds.map intOf).map V.int ∧ ROk (ds.map intOf)
  | [], [], _, _ => ⟨rfl, fun y h => by cases h⟩
  | v :: vs, d :: ds, .cons h1 h2, h => by
    rw [List.all_cons, Bool.and_eq_true] at h
    obtain ⟨i, e0, i0, i1⟩ := from_int h.1
    obtain ⟨c, e⟩ := ints_of h2 h.2
    rw [e0] at h1 ⊢
    have ev : v = .int i := by
      cases h1
      rfl
    refine ⟨by rw [c, ev]; rfl, fun y hy => ?_⟩
    rw [List.map_cons] at hy
    rcases List.mem_cons.mp hy with hy | hy
    · rw [hy]
      exact ⟨i0, i1⟩
    · exact e y hy
theorem wire_of {K : PySem.W.Frag} {Av : Addr → Prop} {H : Hp} {v : V} {d : PyData} {n : Nat} (hd : Dx K Av H v d) (h : isWireD n d = true) : WireV K H v (asWr d) ∧ (asWr d).1 < n ∧ (asWr d).2.1 < n ∧ ROk (asWr d).2.2 := by
  obtain ⟨i, j, ws, rfl, i0, i1, j0, j1, hw⟩ := isWire_inv h
  cases hd with
  | tup s al =>
    cases al with
    | cons a1 r1 =>
      cases a1
      cases r1 with
      | cons a2 r2 =>
        cases a2
        cases r2 with
        | cons a3 r3 =>
          cases r3
          cases a3 with
          | @tup b ys _ s3 al3 =>
            obtain ⟨e1, e2⟩ := ints_of al3 hw
            refine ⟨⟨_, b, rfl, ?_, ?_⟩, ?_, ?_, e2⟩
            · show SqT K H _ [.int ((i.toNat : Nat) : Int), .int ((j.toNat : Nat) : Int), .ref b]
              rw [Int.toNat_of_nonneg i0, Int.toNat_of_nonneg j0]
              exact s
            · show SqT K H b ((ws.map intOf).map V.int)
              rw [← e1]
              exact s3
            · show i.toNat < n
              omega
            · show j.toNat < n
              omega
/-- do both ends let this wire -/
def takenB (gs : List Gt) (seen : List Wr) (x : Wr) : Bool := !(decide (kindAt gs x.1 = "out")) && (!(decide (kindAt gs x.2.1 = "in")) && (!(decide (kindAt gs x.2.1 = "out")) || decide (cnt seen x.2.1 = 0)))
def lacksB (gs : List Gt) (seen : List Wr) : Bool := (List.range gs.length).any fun e => (decide (kindAt gs e = "out") || decide (kindAt gs e = "first")) && decide (cnt seen e = 0)
def wfL (gs : List Gt) : List Wr → List PyData → Option Int
  | seen, [] => if lacksB gs seen = true then some ((seen.length : Nat) : Int) else none
  | seen, d :: ds => if isWireD gs.length d = true then (if takenB gs seen (asWr d) = true then wfL gs (seen ++ [asWr d]) ds else some ((seen.length : Nat) : Int)) else some ((seen.length : Nat) : Int)
def wfD (gs : List Gt) : PyData → Option Int
  | .list ds => wfL gs [] ds
  | _ => some (-1)
/-- which refusal is due -/
def dueP (G W : PyData) : PyData := if gatesOkD G = true then (match wfD (asGs G) W with
  | some p => .tuple [.str "wires", .int p]
  | none => .none) else .tuple [.str "gates", .none]
theorem wfL_none {gs : List Gt} : ∀ {ds : List PyData} {seen : List Wr}, wfL gs seen ds = none → (∀ d ∈ ds, isWireD gs.length d = true) ∧ lacksB gs (seen ++ ds.map asWr) = false ∧ (∀ x ∈ ds.map asWr, kindAt gs x.1 ≠ "out" ∧ kindAt gs x.2.1 ≠ "in") ∧ ((∀ e, kindAt gs e = "out" → cnt seen e ≤ 1) → ∀ e, kindAt gs e = "out" → cnt (seen ++ ds.map asWr) e ≤ 1)
  | [], seen, h => by
    unfold wfL at h
    split at h
    · cases h
    · rename_i hl
      rw [List.map_nil, List.append_nil]
      exact ⟨fun d hd => (by cases hd), (by simpa using hl), fun x hx => (by cases hx), fun k => k⟩
  | d :: ds, seen, h => by
    unfold wfL at h
    split at h
    · rename_i hw
      split at h
      · rename_i ht
        obtain ⟨a, b, c, e⟩ := wfL_none h
        have ht : (!(decide (kindAt gs (asWr d).1 = "out")) && (!(decide (kindAt gs (asWr d).2.1 = "in")) && (!(decide (kindAt gs (asWr d).2.1 = "out")) || decide (cnt seen (asWr d).2.1 = 0)))) = true := ht
        rw [Bool.and_eq_true, Bool.and_eq_true, Bool.or_eq_true] at ht
        obtain ⟨t1, t2, t3⟩ := ht
        have t1 : kindAt gs (asWr d).1 ≠ "out" := by simpa using t1
        have t2 : kindAt gs (asWr d).2.1 ≠ "in" := by simpa using t2
        rw [List.append_assoc] at b e
        refine ⟨fun y hy => ?_, b, fun x hx => ?_, fun k => e fun j hj => ?_⟩
        · rcases List.mem_cons.mp hy with rfl | hy
          · exact hw
          · exact a y hy
        · rw [List.map_cons] at hx
          rcases List.mem_cons.mp hx with rfl | hx
          · exact ⟨t1, t2⟩
          · exact c x hx
        · rw [cnt_app]
          by_cases hj2 : (asWr d).2.1 = j
          · rw [if_pos hj2]
            rcases t3 with t3 | t3
            · rw [hj2, hj] at t3
              simp at t3
            · have := of_decide_eq_true t3
              rw [hj2] at this
              omega
          · rw [if_neg hj2]
            exact k j hj
      · cases h
    · cases h
theorem cnt_nil (e : Nat) : cnt [] e = 0 := rfl
theorem lacks_no {gs : List Gt} {ws : List Wr} (h : lacksB gs ws = false) {e : Nat} (he : e < gs.length) (hk : kindAt gs e = "out" ∨ kindAt gs e = "first") : 1 ≤ cnt ws e := by
  unfold lacksB at h
  rw [List.any_eq_false] at h
  have := h e (List.mem_range.mpr he)
  refine Nat.one_le_iff_ne_zero.mpr fun z => this ?_
  rw [z]
  rcases hk with hk | hk <;> rw [hk] <;> simp
/-- what is due no refusal is a net, where its bare wires rise -/
theorem net_of {G W : PyData} (h : dueP G W = .none) (hg : (asGs G).length ≤ 100) (hw : (asWs W).length ≤ 1000) (hr : ∀ x ∈ asWs W, x.2.2.length ≤ 100) (ρ : Nat → Nat) (hρ : ∀ x ∈ asWs W, x.2.2 = [] → ρ x.1 < ρ x.2.1) : NetOk (asGs G) (asWs W) ∧ gatesOkD G = true ∧ wfD (asGs G) W = none := by
  unfold dueP at h
  split at h
  · rename_i hG
    cases hwf : wfD (asGs G) W with
    | some p =>
      rw [hwf] at h
      cases h
    | none =>
      refine ⟨?_, hG, rfl⟩
      cases G with
      | list gds =>
        cases W with
        | list wds =>
          have hG : (!gds.isEmpty && gds.all isGateD) = true := hG
          rw [Bool.and_eq_true] at hG
          obtain ⟨g1, g2⟩ := hG
          have hwf : wfL (gds.map asGt) [] wds = none := hwf
          obtain ⟨w1, w2, w3, w4⟩ := wfL_none hwf
          rw [List.nil_append] at w2 w4
          have w4 := w4 (fun e _ => Nat.zero_le _)
          have one : ∀ d : PyData, isGateD d = true → GOk (asGt d) := fun d hd => by
            obtain ⟨x, i, rfl, hx, i0, i1⟩ := isGate_inv hd
            exact gok_of hx i0 i1
          have wok : ∀ d ∈ wds, (asWr d).1 < (gds.map asGt).length ∧ (asWr d).2.1 < (gds.map asGt).length ∧ ROk (asWr d).2.2 := fun d hd => by
            obtain ⟨i, j, ws, rfl, i0, i1, j0, j1, hw⟩ := isWire_inv (w1 d hd)
            refine ⟨?_, ?_, fun y hy => ?_⟩
            · show i.toNat < _
              omega
            · show j.toNat < _
              omega
            · obtain ⟨z, hz, rfl⟩ := List.mem_map.mp hy
              obtain ⟨q, e, q0, q1⟩ := from_int (List.all_eq_true.mp hw z hz)
              rw [e]
              exact ⟨q0, q1⟩
          refine ⟨?_, hg, hw, fun g hgm => ?_, fun x hx => ?_, fun e he hk => ?_, fun e he hk => lacks_no w2 he (.inr hk), ρ, hρ⟩
          · intro z
            have z : gds.map asGt = [] := z
            have : gds = [] := List.map_eq_nil_iff.mp z
            rw [this] at g1
            cases g1
          · obtain ⟨d, hd, rfl⟩ := List.mem_map.mp hgm
            exact one d (List.all_eq_true.mp g2 d hd)
          · obtain ⟨d, hd, rfl⟩ := List.mem_map.mp hx
            obtain ⟨a, b, c⟩ := wok d hd
            obtain ⟨k1, k2⟩ := w3 _ (List.mem_map_of_mem hd)
            exact ⟨a, b, k1, k2, c, hr _ hx⟩
          · have h1 := w4 e hk
            have h2 := lacks_no w2 he (.inl hk)
            have h1 : cnt (asWs (.list wds)) e ≤ 1 := h1
            have h2 : 1 ≤ cnt (asWs (.list wds)) e := h2
            omega
        | _ => cases hwf
      | _ => cases hG
  · cases h
end Lag

set_option maxRecDepth 100000
set_option maxHeartbeats 8000000
namespace Lag
open PySem PySem.Spec PyProof.Rows L2
theorem kinds_inv (s : Str) : inV (.str s) (kinds.map V.str) = decide (s ∈ kinds) := by
  unfold inV
  rw [Bool.eq_iff_iff, List.any_eq_true, decide_eq_true_iff]
  constructor
  · rintro ⟨x, hx, e⟩
    obtain ⟨k, hk, rfl⟩ := List.mem_map.mp hx
    have : k = s := by
      have := eq_of_beq (show (k == s) = true from e)
      exact this
    rw [← this]
    exact hk
  · intro h
    exact ⟨.str s, List.mem_map.mpr ⟨s, h, rfl⟩, beq_self_eq_true s⟩
theorem outer_inv (s : Str) : inV (.str s) [V.str "in", V.str "out"] = decide (s = "in" ∨ s = "out") := by
  unfold inV
  rw [Bool.eq_iff_iff, List.any_eq_true, decide_eq_true_iff]
  constructor
  · rintro ⟨x, hx, e⟩
    simp only [List.mem_cons, List.not_mem_nil, or_false] at hx
    rcases hx with rfl | rfl
    · exact .inl (eq_of_beq (show (("in" : Str) == s) = true from e)).symm
    · exact .inr (eq_of_beq (show (("out" : Str) == s) = true from e)).symm
  · rintro (rfl | rfl)
    · exact ⟨_, List.mem_cons_self .., beq_self_eq_true _⟩
    · exact ⟨_, List.mem_cons_of_mem _ (List.mem_cons_self ..), beq_self_eq_true _⟩
def spIsGateD (K : PySem.W.Frag) : Sp := fun vs H Q _ => ∃ (v : V) (d : PyData), vs = [v] ∧ Dx K Any H v d ∧ Q (.bl (isGateD d)) H
def spIsWireD (K : PySem.W.Frag) : Sp := fun vs H Q _ => ∃ (v : V) (d : PyData) (n : Nat), vs = [v, .int (n : Nat)] ∧ Dx K Any H v d ∧ (∀ ds, d = .tuple ds → ds.length ≤ 1000 ∧ ∀ es, .tuple es ∈ ds → es.length ≤ 1000) ∧ ∀ H', Same H H' → Q (.bl (isWireD n d)) H'
def spTakenB (K : PySem.W.Frag) : Sp := fun vs H Q _ => ∃ (v : V) (x : Wr) (lg lc : Addr) (gs : List Gt) (seen : List Wr), vs = [v, .ref lg, .ref lc] ∧ WireV K H v x ∧ RG K H lg gs ∧ SqL K H lc ((cntL gs.length seen).map fun i => V.int (i : Nat)) ∧ x.1 < gs.length ∧ x.2.1 < gs.length ∧ Q (.bl (takenB gs seen x)) H
def spChkGatesX (K : PySem.W.Frag) (CG : Addr) : Sp := fun vs H Q E => ∃ (v : V) (d : PyData), vs = [v] ∧ Dx K Any H v d ∧ gatesOkD d = false ∧ ∀ H', Same H H' → E (.ref CG) none H'
/-- short enough to be held against -/
def ShortW (d : PyData) : Prop := ∀ ds, d = .list ds → ds.length ≤ 900 ∧ ∀ e ∈ ds, ∀ es, e = .tuple es → es.length ≤ 1000 ∧ ∀ fs, .tuple fs ∈ es → fs.length ≤ 1000
def spChkWiresX (K : PySem.W.Frag) (CW : Addr) : Sp := fun vs H Q E => ∃ (lg : Addr) (v : V) (gs : List Gt) (d : PyData) (p : Int), vs = [.ref lg, v] ∧ RG K H lg gs ∧ gs.length ≤ 100 ∧ Dx K Any H v d ∧ ShortW d ∧ wfD gs d = some p ∧ ∀ dx H', Same H H' → H' dx = none → E (.ref CW) (some dx) (upd H' dx (.xd [(("place" : Str), .int p)]))
def spInitX (K : PySem.W.Frag) (C CG CW : Addr) : Sp := fun vs H Q E => ∃ (p : Addr) (vg vw : V) (G W : PyData), vs = [.ref p, vg, vw] ∧ Dx K Any H vg G ∧ Dx K Any H vw W ∧ (asGs G).length ≤ 100 ∧ ShortW W ∧
  ((gatesOkD G = false ∧ ∀ H', Same H H' → E (.ref CG) none H') ∨ (gatesOkD G = true ∧ ∃ q : Int, wfD (asGs G) W = some q ∧ ∀ dx H', Same H H' → H' dx = none → E (.ref CW) (some dx) (upd H' dx (.xd [(("place" : Str), .int q)]))))
section
variable {P : Program} {w : World} {K : PySem.W.Frag} {mg : Str → Option Value} {base : Heap}
theorem ok_isGateD {f fF aK aW aF : Addr} {fd fdF : FuncData} (F : Fun K "is_gate" "is_gate" sIsGate f fd) (B : Bt mg) (C : Cns K mg aK aW aF) (DF : DFromTo P w K mg base fF fdF) (DX : FnOk P w K mg base CX0 2 fF fdF ["thing", "least", "greatest"] (spFromToD K)) : FnOk P w K mg base CX0 3 f fd ["thing"] (spIsGateD K) := by
  obtain ⟨tg, hga⟩ := C.ga
  refine F.ok scIsGate (fun vs H Q E h => ?_) (fun cdv A outer s H vs Q E hr h => ?_)
  · obtain ⟨v, d, rfl, _⟩ := h
    rfl
  · obtain ⟨v, d, rfl, hd, q⟩ := h
    have nd := scIsGate.nd
    refine ⟨_, pss_cons (ps_if (PW.pt (pw_or (pt_not (pt_val (pe_callB call_isi (by rfl) B.isi (by decide +kernel) (pa_cons (pv 0) (pa_cons (pe_bltn (v := .ty "tuple") (by rfl) B.tuple (by decide +kernel) rfl) pa_nil)))))
          (pw_or1 (pt_cmpR op_ne (pe_callB call_len_seq (by rfl) B.len PySem.boot_len (pa_cons (pv 0) pa_nil)) pe_int (nomark _))))) (pss_one (ps_ret pe_bl)) pss_nil) <|
      pss_cons (ps_asg (pv 0) (pg_tup (by rfl) (pgs_cons (pg_name (i := 1) nd rfl (.inl rfl)) (pgs_cons (pg_name (i := 2) nd rfl (.inl rfl)) pgs_nil)))) <|
      pss_cons (ps_if (PW.pt (pw_or (pt_not (pt_val (pe_callB call_isi (by rfl) B.isi (by decide +kernel) (pa_cons (pv 1) (pa_cons (pe_bltn (v := .ty "str") (by rfl) B.str (by decide +kernel) rfl) pa_nil)))))
          (pw_or1 (pt_cmpR op_notIn_seq (pv 1) (pe_glob (v := .ref aK) (by rfl) C.mK rfl) (by rfl))))) (pss_one (ps_ret pe_bl)) pss_nil) <|
      pss_one <| ps_ret <| pe_call DX hr (by rfl) DF.mg DF.kp DF.bd .nil pass0 <| pa_cons (pv 2) <| pa_cons pe_int <| (pa_cons · pa_nil) <|
        pe_ifExp (pt_cmpR op_in_seq (pv 1) (pe_glob (v := .ref aW) (by rfl) C.mW rfl) (by rfl)) pe_int (pe_glob (v := .int 100) (by rfl) hga ⟨_, rfl⟩), ?_⟩
    obtain ⟨t, ty, _, _, k3, _⟩ := hd.ty
    refine ⟨_, rfl, _, _, _, _, dT d, rfl, .ty "tuple", ty, kit_ty k3, dT d, rfl, ?_⟩
    cases hd with
    | @tup a xs ds sq al =>
      have hlx : xs.length = ds.length := al.all2.1
      refine iteF ?_
      by_cases hl : ds.length = 2
      · refine ⟨_, rfl, a, _, rfl, .inr sq, rfl, false, ?_, iteF ?_⟩
        · rw [vint_eq, hlx, hl]
          rfl
        match ds, hl, al, q with
        | [d1, d2], _, al, q =>
        cases al with
        | @cons v1 vs1 _ _ h1 r =>
        cases r with
        | @cons v2 vs2 _ _ h2 r2 =>
        cases r2
        refine ⟨_, rfl, a, _, rfl, sq, rfl, _, _, rfl, _, _, rfl, rfl, ?_⟩
        obtain ⟨t1, ty1, k1⟩ := h1.tyS
        refine ⟨_, rfl, _, _, _, _, dS d1, rfl, .ty "str", ty1, kit_ty k1, dS d1, rfl, ?_⟩
        cases hs : dS d1 with
        | false =>
          rw [isGateD_no hs] at q
          exact iteT q
        | true =>
          obtain ⟨x, rfl⟩ : ∃ x, d1 = .str x := by
            cases d1 with
            | str x => exact ⟨x, rfl⟩
            | _ => cases hs
          cases h1
          refine iteF ?_
          have q : Q (.bl (decide (x ∈ kinds) && fromD d2 0 (waitTo x))) H := q
          refine ⟨_, rfl, aK, _, rfl, .inr (C.sK H), rfl, flat_strs _, !decide (x ∈ kinds), ?_, ?_⟩
          · show V.bl (!inV (V.str x) (kinds.map V.str)) = _
            rw [kinds_inv]
          by_cases hx : x ∈ kinds
          · rw [decide_eq_true hx] at q ⊢
            refine iteF ?_
            refine ⟨_, rfl, _, rfl, aW, _, rfl, .inr (C.sW H), rfl, rfl, decide (x = "in" ∨ x = "out"), (by rw [← outer_inv]; rfl), ?_⟩
            by_cases ho : x = "in" ∨ x = "out"
            · rw [decide_eq_true ho]
              refine iteT ⟨v2, d2, 0, 0, rfl, h2, ?_⟩
              have e : waitTo x = 0 := if_pos ho
              rw [e] at q
              exact q
            · rw [decide_eq_false ho]
              refine iteF ⟨v2, d2, 0, 100, rfl, h2, ?_⟩
              have e : waitTo x = 100 := if_neg ho
              rw [e] at q
              exact q
          · rw [decide_eq_false hx] at q ⊢
            exact iteT q
      · refine ⟨_, rfl, a, _, rfl, .inr sq, rfl, true, ?_, iteT ?_⟩
        · rw [vint_eq, decide_eq_false (by omega)]
          rfl
        · rw [isGateD_len hl] at q
          exact q
    | non => exact iteT q
    | bl b => exact iteT q
    | int i => exact iteT q
    | str x => exact iteT q
    | lst e n a => exact iteT q
    | dic e => exact iteT q
theorem ok_chkGatesX {f fG CG : Addr} {fd fdG : FuncData} (F : Fun K "check_gates" "check_gates" sChkGates f fd) (B : Bt mg) (DG : DIsGate P w K mg base fG fdG) (DX : FnOk P w K mg base CX0 3 fG fdG ["thing"] (spIsGateD K)) (NG : PEx K mg "NoGates" CG) : FnOk P w K mg base (L2.CX P w) 4 f fd ["gates"] (spChkGatesX K CG) := by
  refine F.okX scChkGates (fun vs H Q E h => ?_) (fun cdv A outer s H vs Q E hr h => ?_)
  · obtain ⟨v, d, rfl, _⟩ := h
    rfl
  · obtain ⟨v, d, rfl, hd, bad, q⟩ := h
    have nd := scChkGates.nd
    refine ⟨_, pss_cons (ps_if (PW.pt (pw_or (pt_not (pt_val (pe_callB call_isi (by rfl) B.isi (by decide +kernel) (pa_cons (pv 0) (pa_cons (pe_bltn (v := .ty "list") (by rfl) B.list (by decide +kernel) rfl) pa_nil)))))
          (pw_or1 (pt_cmpR op_eq (pe_callB call_len_seq (by rfl) B.len PySem.boot_len (pa_cons (pv 0) pa_nil)) pe_int (nomark _))))) (pss_one (ps_raise rfl (takes_of rfl rfl rfl rfl) (pmk_own PySem.F.excBase_ValueError NG.q NG.g NG.k (raises_own NG.e NG.t) (by rfl)))) pss_nil) <|
      pss_one <| ps_for (passes_of rfl) rfl (pi_list (pv 0)) (pg_name (i := 1) nd rfl (.inl rfl)) <|
        pss_one <| ps_if (pt_not (pt_val (pe_call DX hr (by rfl) DG.mg DG.kp DG.bd .nil pass0 (pa_cons (pv 1) pa_nil)))) (pss_one (ps_raise rfl (takes_of rfl rfl rfl rfl) (pmk_own PySem.F.excBase_ValueError NG.q NG.g NG.k (raises_own NG.e NG.t) (by rfl)))) pss_nil, ?_⟩
    obtain ⟨t, ty, _, _, _, k4⟩ := hd.ty
    refine ⟨_, rfl, _, _, _, _, dL d, rfl, .ty "list", ty, kit_ty k4, dL d, rfl, ?_⟩
    have no : dL d = false → (if dL d = false then True else True) → E (.ref CG) none H := fun _ _ => q H (Same.refl H)
    cases hd with
    | @lst a xs ds e n al =>
      have a2 := al.all2
      have hlx : xs.length = ds.length := a2.1
      refine iteF ?_
      refine ⟨_, rfl, a, _, rfl, .inl (SqL.of e), rfl, decide (ds.length = 0), (by rw [vint_eq, hlx]; exact congrArg V.bl (decide_eq_decide.mpr (by omega))), ?_⟩
      by_cases hl : ds.length = 0
      · rw [decide_eq_true hl]
        exact iteT (q H (Same.refl H))
      · rw [decide_eq_false hl]
        refine iteF ?_
        have hbad : ∃ (n : Nat) (d0 : PyData), ds[n]? = some d0 ∧ isGateD d0 = false := by
          have bad : (!ds.isEmpty && ds.all isGateD) = false := bad
          have he : (!ds.isEmpty) = true := by
            cases ds with
            | nil => exact absurd rfl hl
            | cons x l => rfl
          rw [he, Bool.true_and, List.all_eq_false] at bad
          obtain ⟨d0, h0, h1⟩ := bad
          obtain ⟨n, hn⟩ := List.getElem?_of_mem h0
          exact ⟨n, d0, hn, by simpa using h1⟩
        obtain ⟨nb, d0, hnb, hb⟩ := hbad
        have hnl : nb < ds.length := (List.getElem?_eq_some_iff.mp hnb).1
        refine ⟨_, rfl, a, rfl, ⟨_, SqL.of e⟩, for_list (K := K) (a := a) (xs := xs) (fun i σ H2 => i ≤ nb ∧ ∃ y, σ = [some (.ref a), y] ∧ H2 = H) ⟨Nat.zero_le _, _, rfl, rfl⟩ (fun i σ H2 _ ⟨_, _, _, e2⟩ => by rw [e2]; exact SqL.of e) ?_ ?_⟩
        · rintro i x σ H2 hx ⟨hi, y, rfl, rfl⟩
          obtain ⟨d1, hd1, dx1⟩ := a2.get hx
          refine ⟨_, rfl, x, d1, rfl, dx1, isGateD d1, rfl, ?_⟩
          cases hg : isGateD d1 with
          | false => exact iteT (q H2 (Same.refl H2))
          | true =>
            refine iteF ⟨?_, _, rfl, rfl⟩
            by_cases z : i = nb
            · rw [z, hnb] at hd1
              rw [← Option.some.inj hd1, hb] at hg
              cases hg
            · omega
        · rintro σ H2 ⟨hi, _⟩
          exfalso
          omega
    | non => exact iteT (q H (Same.refl H))
    | bl b => exact iteT (q H (Same.refl H))
    | int i => exact iteT (q H (Same.refl H))
    | str x => exact iteT (q H (Same.refl H))
    | tup s a => exact iteT (q H (Same.refl H))
    | dic e => exact iteT (q H (Same.refl H))
theorem ok_isWireD {f fF fW : Addr} {fd fdF fdW : FuncData} (F : Fun K "is_wire" "is_wire" sIsWire f fd) (B : Bt mg) (DF : DFromTo P w K mg base fF fdF) (DFX : FnOk P w K mg base CX0 2 fF fdF ["thing", "least", "greatest"] (spFromToD K)) (DW : DWorth P w K mg base fW fdW) (DWX : FnOk P w K mg base CX0 3 fW fdW ["thing"] (spWorthD K)) : FnOk P w K mg base CX0 4 f fd ["thing", "many_gates"] (spIsWireD K) := by
  refine F.ok scIsWire (fun vs H Q E h => ?_) (fun cdv A outer s H vs Q E hr h => ?_)
  · obtain ⟨v, d, n, rfl, _⟩ := h
    rfl
  · obtain ⟨v, d, n, rfl, hd, hsh, q⟩ := h
    have nd := scIsWire.nd
    have hr2 : Room 2 _ := hr.mono (by decide)
    refine ⟨_, pss_cons (ps_if (PW.pt (pw_or (pt_not (pt_val (pe_callB call_isi (by rfl) B.isi (by decide +kernel) (pa_cons (pv 0) (pa_cons (pe_bltn (v := .ty "tuple") (by rfl) B.tuple (by decide +kernel) rfl) pa_nil)))))
          (pw_or1 (pt_cmpR op_ne (pe_callB call_len_seq (by rfl) B.len PySem.boot_len (pa_cons (pv 0) pa_nil)) pe_int (nomark _))))) (pss_one (ps_ret pe_bl)) pss_nil) <|
      pss_cons (ps_asg (pv 0) (pg_tup (by rfl) (pgs_cons (pg_name (i := 2) nd rfl (.inl rfl)) (pgs_cons (pg_name (i := 3) nd rfl (.inl rfl)) (pgs_cons (pg_name (i := 4) nd rfl (.inl rfl)) pgs_nil))))) <|
      pss_cons (ps_if (PW.pt (pw_or (pt_not (pt_val (pe_call DFX hr2 (by rfl) DF.mg DF.kp DF.bd .nil pass0 (pa_cons (pv 2) (pa_cons pe_int (pa_cons (pe_op op_sub (pv 1) pe_int) pa_nil))))))
          (pw_or1 (pt_not (pt_val (pe_call DFX hr2 (by rfl) DF.mg DF.kp DF.bd .nil pass0 (pa_cons (pv 3) (pa_cons pe_int (pa_cons (pe_op op_sub (pv 1) pe_int) pa_nil))))))))) (pss_one (ps_ret pe_bl)) pss_nil) <|
      pss_one <| ps_ret <| pe_and (pe_callB call_isi (by rfl) B.isi (by decide +kernel) (pa_cons (pv 4) (pa_cons (pe_bltn (v := .ty "tuple") (by rfl) B.tuple (by decide +kernel) rfl) pa_nil))) <| pe_one <|
        pe_callB (cr_all rfl) (by rfl) B.all (by decide +kernel) <| (pa_cons · pa_nil) <| pe_lc (own := [("worth", 5)]) (g := gName 5) (tt := tYes) (te := tCall (spWorthD K) [] E0 (tCons (tVar 5) tNil)) rfl nd (pi_tup (pv 4)) (blkOk_by (N := nIsWire) (sc := defScope sIsWire) (own := [("worth", 5)]) (by decide +kernel))
          (fun _ _ _ _ _ => pg_name (i := 5) nd rfl (.inl rfl)) (fun _ _ _ _ _ => pts_nil) (fun _ _ _ _ _ => pe_call DWX hr (by rfl) DW.mg DW.kp DW.bd .nil pass0 (pa_cons (pv 5) pa_nil)), ?_⟩
    obtain ⟨t, ty, _, _, k3, _⟩ := hd.ty
    refine ⟨_, rfl, _, _, _, _, dT d, rfl, .ty "tuple", ty, kit_ty k3, dT d, rfl, ?_⟩
    cases hd with
    | @tup a xs ds sq al =>
      have hlx : xs.length = ds.length := al.all2.1
      refine iteF ?_
      by_cases hl : ds.length = 3
      · refine ⟨_, rfl, a, _, rfl, .inr sq, rfl, false, ?_, iteF ?_⟩
        · rw [vint_eq, hlx, hl]
          rfl
        obtain ⟨_, hsh⟩ := hsh ds rfl
        match ds, hl, al, q, hsh with
        | [d1, d2, d3], _, al, q, hsh =>
        cases al with
        | @cons v1 vs1 _ _ h1 r =>
        cases r with
        | @cons v2 vs2 _ _ h2 r2 =>
        cases r2 with
        | @cons v3 vs3 _ _ h3 r3 =>
        cases r3
        refine ⟨_, rfl, a, _, rfl, sq, rfl, _, _, rfl, _, _, rfl, _, _, rfl, rfl, ?_⟩
        have q : ∀ H', Same H H' → Q (.bl (fromD d1 0 ((n : Int) - 1) && (fromD d2 0 ((n : Int) - 1) && regsD d3))) H' := q
        refine ⟨_, rfl, _, rfl, _, _, rfl, rfl, v1, d1, 0, _, rfl, h1, fromD d1 0 ((n : Int) - 1), rfl, ?_⟩
        cases f1 : fromD d1 0 ((n : Int) - 1) with
        | false =>
          rw [f1] at q
          exact iteT (q H (Same.refl H))
        | true =>
        refine iteF ?_
        refine ⟨_, rfl, _, rfl, _, _, rfl, rfl, v2, d2, 0, _, rfl, h2, fromD d2 0 ((n : Int) - 1), rfl, ?_⟩
        cases f2 : fromD d2 0 ((n : Int) - 1) with
        | false =>
          rw [f1, f2] at q
          exact iteT (q H (Same.refl H))
        | true =>
        refine iteF ?_
        rw [f1, f2, Bool.true_and, Bool.true_and] at q
        obtain ⟨t3, ty3, _, _, k5, _⟩ := h3.ty
        refine ⟨_, rfl, _, _, _, _, dT d3, rfl, .ty "tuple", ty3, kit_ty k5, dT d3, rfl, ?_⟩
        cases h3 with
        | @tup b ys ws sq3 al3 =>
          have a3 := al3.all2
          have hly : ys.length = ws.length := a3.1
          have hws := hsh ws (by simp)
          refine iteT ?_
          refine ⟨_, rfl, b, rfl, ⟨_, sq3⟩, fun D hD => ?_⟩
          refine lc_tup (K := K) (a := b) (xs := ys) (fun i Hc => Hc D = some (.lst (((ws.take i).map fun d => fromD d 0 96).map V.bl)) ∧ Same H Hc) ⟨upd_same, same_new hD⟩ (fun i Hc _ ⟨_, sm⟩ => (TK.same sm).seq sq3) ?_ ?_
          · rintro i y Hc hy ⟨hc, sm⟩
            obtain ⟨d0, hd0, dx0⟩ := a3.get hy
            have hi : i < ws.length := (List.getElem?_eq_some_iff.mp hd0).1
            refine ⟨rfl, tyes ?_⟩
            refine ⟨_, rfl, y, d0, rfl, dx0.same sm, _, hc, by rw [List.length_map, List.length_map, List.length_take]; exact small1000 (by omega), ?_, same_mut sm hD⟩
            rw [upd_same, List.take_add_one, hd0, List.map_append, List.map_append]
            rfl
          · rintro Hc ⟨hc, sm⟩
            rw [hly, List.take_length] at hc
            refine ⟨D, _, rfl, SqL.of hc, ?_⟩
            have e : (ws.map fun d => fromD d 0 96).all id = regsD (.tuple ws) := by
              rw [List.all_map]
              rfl
            rw [e]
            exact q Hc sm
        | non => exact iteF (q H (Same.refl H))
        | bl b => exact iteF (q H (Same.refl H))
        | int i => exact iteF (q H (Same.refl H))
        | str x => exact iteF (q H (Same.refl H))
        | lst e n a => exact iteF (q H (Same.refl H))
        | dic e => exact iteF (q H (Same.refl H))
      · refine ⟨_, rfl, a, _, rfl, .inr sq, rfl, true, ?_, iteT ?_⟩
        · rw [vint_eq, decide_eq_false (by omega)]
          rfl
        · rw [isWireD_len hl] at q
          exact q H (Same.refl H)
    | non => exact iteT (q H (Same.refl H))
    | bl b => exact iteT (q H (Same.refl H))
    | int i => exact iteT (q H (Same.refl H))
    | str x => exact iteT (q H (Same.refl H))
    | lst e n a => exact iteT (q H (Same.refl H))
    | dic e => exact iteT (q H (Same.refl H))
theorem ok_takenB {f : Addr} {fd : FuncData} (F : Fun K "is_taken" "is_taken" sTaken f fd) : FnOk P w K mg base CX0 1 f fd ["wire", "gates", "come"] (spTakenB K) := by
  refine F.ok scTaken (fun vs H Q E h => ?_) (fun cdv A outer s H vs Q E hr h => ?_)
  · obtain ⟨v, x, lg, lc, gs, seen, rfl, _⟩ := h
    rfl
  · obtain ⟨v, x, lg, lc, gs, seen, rfl, ⟨a, b, rfl, sq1, sq2⟩, ⟨gv, sg, ga⟩, sc, h1, h2, q⟩ := h
    have nd := scTaken.nd
    refine ⟨_, pss_cons (ps_par (i := 3) (j := 4) (by rfl) nd rfl rfl (by decide) rfl rfl (pa_cons (pe_ix ix_tup (pv 0) pe_int (fun _ _ => rfl)) (pa_cons (pe_ix ix_tup (pv 0) pe_int (fun _ _ => rfl)) pa_nil)) (by rfl)) <|
      pss_cons (ps_if (PW.pt (pw_or (pt_cmpR op_eq (pe_ix ix_tup (pe_ix ix_list (pv 1) (pv 3) (fun _ _ => rfl)) pe_int (fun _ _ => rfl)) pe_str (nomark _)) (pw_or1 (pt_cmpR op_eq (pe_ix ix_tup (pe_ix ix_list (pv 1) (pv 4) (fun _ _ => rfl)) pe_int (fun _ _ => rfl)) pe_str (nomark _))))) (pss_one (ps_ret pe_bl)) pss_nil) <|
      pss_one <| ps_ret <| pe_or (pe_cmpR op_ne (pe_ix ix_tup (pe_ix ix_list (pv 1) (pv 4) (fun _ _ => rfl)) pe_int (fun _ _ => rfl)) pe_str (nomark _)) (pe_one (pe_cmpR op_eq (pe_ix ix_list (pv 2) (pv 4) (fun _ _ => rfl)) pe_int (nomark _))), ?_⟩
    have hl : gv.length = gs.length := ga.1
    obtain ⟨vs1, g1, e1, f1, a1, rfl, s1⟩ : ∃ vs1 g1, gv[x.1]? = some vs1 ∧ gs[x.1]? = some g1 ∧ GateV K H vs1 g1 := by
      have e1 : gs[x.1]? = some (gs[x.1]'h1) := List.getElem?_eq_getElem h1
      obtain ⟨y, hy, r⟩ := ga.getR e1
      exact ⟨y, _, hy, e1, r⟩
    obtain ⟨vs2, g2, e2, f2, a2, rfl, s2⟩ : ∃ vs2 g2, gv[x.2.1]? = some vs2 ∧ gs[x.2.1]? = some g2 ∧ GateV K H vs2 g2 := by
      have e1 : gs[x.2.1]? = some (gs[x.2.1]'h2) := List.getElem?_eq_getElem h2
      obtain ⟨y, hy, r⟩ := ga.getR e1
      exact ⟨y, _, hy, e1, r⟩
    have k1 := kindAt_get f1
    have k2 := kindAt_get f2
    have q : Q (.bl (!(decide (kindAt gs x.1 = "out")) && (!(decide (kindAt gs x.2.1 = "in")) && (!(decide (kindAt gs x.2.1 = "out")) || decide (cnt seen x.2.1 = 0))))) H := q
    rw [k1, k2] at q
    have vs_eq : ∀ a b : Str, decide (V.str a = V.str b) = decide (a = b) := fun a b => decide_eq_decide.mpr ⟨fun h => V.str.inj h, fun h => by rw [h]⟩
    refine ⟨_, rfl, a, _, 0, _, rfl, rfl, sq1, atI_nat (j := 0) rfl, _, rfl, a, _, 1, _, rfl, rfl, sq1, atI_nat (j := 1) rfl, _, _, rfl, ?_⟩
    refine ⟨_, rfl, _, rfl, lg, gv, _, _, rfl, rfl, sg, atI_nat e1, a1, _, 0, _, rfl, rfl, s1, atI_nat (j := 0) rfl, rfl, decide (g1.1 = "out"), congrArg V.bl (vs_eq _ _), ?_⟩
    cases c1 : decide (g1.1 = "out") with
    | true =>
      rw [c1] at q
      exact iteT q
    | false =>
    rw [c1] at q
    refine iteF ?_
    refine ⟨_, rfl, _, rfl, lg, gv, _, _, rfl, rfl, sg, atI_nat e2, a2, _, 0, _, rfl, rfl, s2, atI_nat (j := 0) rfl, rfl, decide (g2.1 = "in"), congrArg V.bl (vs_eq _ _), ?_⟩
    cases c2 : decide (g2.1 = "in") with
    | true =>
      rw [c2] at q
      exact iteT q
    | false =>
    rw [c2] at q
    refine iteF ?_
    refine ⟨_, rfl, _, rfl, lg, gv, _, _, rfl, rfl, sg, atI_nat e2, a2, _, 0, _, rfl, rfl, s2, atI_nat (j := 0) rfl, rfl, !decide (g2.1 = "out"), congrArg (fun b => V.bl (!b)) (vs_eq _ _), ?_⟩
    cases c3 : decide (g2.1 = "out") with
    | false =>
      rw [c3] at q
      exact iteT q
    | true =>
      rw [c3] at q
      refine iteF ?_
      have hc : ((cntL gs.length seen).map fun i => V.int (i : Nat))[x.2.1]? = some (.int (cnt seen x.2.1 : Nat)) := by
        rw [List.getElem?_map, cntL_get h2]
        rfl
      refine ⟨_, rfl, _, rfl, lc, _, x.2.1, _, rfl, rfl, sc, atI_nat hc, rfl, ?_⟩
      have e : decide (V.int ((cnt seen x.2.1 : Nat) : Int) = V.int 0) = decide (cnt seen x.2.1 = 0) := by
        rw [vint_eq]
        exact decide_eq_decide.mpr (by omega)
      rw [e]
      exact q
end
end Lag

set_option maxRecDepth 100000
set_option maxHeartbeats 8000000
namespace Lag
open PySem PySem.Spec PyProof.Rows L2
section
variable {P : Program} {w : World} {K : PySem.W.Frag} {mg : Str → Option Value} {base : Heap}
theorem ok_chkWiresX {f fW fT aK aW aF CW fN : Addr} {fd fdW fdT fdN : FuncData} (F : Fun K "check_wires" "check_wires" sChkWires f fd) (B : Bt mg) (C : Cns K mg aK aW aF) (DW : DIsWire P w K mg base fW fdW) (DWX : FnOk P w K mg base CX0 4 fW fdW ["thing", "many_gates"] (spIsWireD K)) (DT : DTaken P w K mg base fT fdT) (DTX : FnOk P w K mg base CX0 1 fT fdT ["wire", "gates", "come"] (spTakenB K))
    (TE : TEx K mg "NoWires" "place" CW fN) (nwI : FnOk P w K mg base CX0 1 fN fdN ["self", "place"] (spXI "place" CW)) (bT : Binds K fdN ["self", "place"] []) : FnOk P w K mg base (L2.CX P w) 5 f fd ["gates", "wires"] (spChkWiresX K CW) := by
  refine F.okX scChkWires (fun vs H Q E h => ?_) (fun cdv A outer s H vs Q E hr h => ?_)
  · obtain ⟨lg, v, gs, d, p, rfl, _⟩ := h
    rfl
  · obtain ⟨lg, v, gs, d, p, rfl, RGs, hgl, hd, hsh, hwf, q⟩ := h
    have nd := scChkWires.nd
    have hr1 : Room 1 _ := hr.mono (by decide)
    refine ⟨_, pss_cons (ps_if (pt_not (pt_val (pe_callB call_isi (by rfl) B.isi (by decide +kernel) (pa_cons (pv 1) (pa_cons (pe_bltn (v := .ty "list") (by rfl) B.list (by decide +kernel) rfl) pa_nil))))) (pss_one (ps_raise rfl (takes_of rfl rfl rfl rfl) (pmk_oex TE.T TE.iC TE.tI nwI (hr.mono (by decide)) bT .nil pass0 (by rfl) TE.g (pa_cons (pe_un un_neg pe_int) pa_nil)))) pss_nil) <|
      pss_cons (ps_set (i := 2) nd rfl (Or.inl rfl) (pe_op op_rep (pe_lst (pa_cons pe_int pa_nil)) (pe_callB call_len_seq (by rfl) B.len PySem.boot_len (pa_cons (pv 0) pa_nil)))) <|
      pss_cons (ps_for (passes_of rfl) rfl (pi_enum (by rfl) B.enum (pa_cons (pv 1) pa_nil)) (pg_tup rfl (pgs_cons (pg_name (i := 3) nd rfl (Or.inl rfl)) (pgs_cons (pg_name (i := 4) nd rfl (Or.inl rfl)) pgs_nil))) <|
        pss_cons (ps_if (PW.pt (pw_or (pt_not (pt_val (pe_call DWX (hr.mono (by decide)) (by rfl) DW.mg DW.kp DW.bd .nil pass0 (pa_cons (pv 4) (pa_cons (pe_callB call_len_seq (by rfl) B.len PySem.boot_len (pa_cons (pv 0) pa_nil)) pa_nil)))))
            (pw_or1 (pt_not (pt_val (pe_call DTX hr1 (by rfl) DT.mg DT.kp DT.bd .nil pass0 (pa_cons (pv 4) (pa_cons (pv 0) (pa_cons (pv 2) pa_nil))))))))) (pss_one (ps_raise rfl (takes_of rfl rfl rfl rfl) (pmk_oex TE.T TE.iC TE.tI nwI (hr.mono (by decide)) bT .nil pass0 (by rfl) TE.g (pa_cons (pv 3) pa_nil)))) pss_nil) <|
        pss_one <| ps_augS (pv 2) (pe_ix ix_tup (pv 4) pe_int (fun _ _ => rfl)) get_list pe_int ip_add set_list) <|
      pss_one <| ps_for (passes_of rfl) rfl (pi_zip (by rfl) B.zip (pa_cons (pv 0) (pa_cons (pv 2) pa_nil))) (pg_tup rfl (pgs_cons (pg_name (i := 5) nd rfl (Or.inl rfl)) (pgs_cons (pg_name (i := 6) nd rfl (Or.inl rfl)) pgs_nil))) <|
        pss_one <| ps_if (PW.pt (pw_and (pt_cmpR op_in_seq (pe_ix ix_tup (pv 5) pe_int (fun _ _ => rfl)) (pe_glob (v := .ref aF) (by rfl) C.mF rfl) (by rfl)) (pw_and1 (pt_cmpR op_eq (pv 6) pe_int (nomark _))))) (pss_one (ps_raise rfl (takes_of rfl rfl rfl rfl) (pmk_oex TE.T TE.iC TE.tI nwI (hr.mono (by decide)) bT .nil pass0 (by rfl) TE.g (pa_cons (pe_callB call_len_seq (by rfl) B.len PySem.boot_len (pa_cons (pv 1) pa_nil)) pa_nil)))) pss_nil, ?_⟩
    obtain ⟨gv, sg, ga⟩ := id RGs
    have hlg : gv.length = gs.length := ga.1
    obtain ⟨t, ty, _, _, _, k4⟩ := hd.ty
    refine ⟨_, rfl, _, _, _, _, dL d, rfl, .ty "list", ty, kit_ty k4, dL d, rfl, ?_⟩
    have bad : dL d = false → p = -1 := fun e => by
      cases d with
      | list ds => cases e
      | _ => exact (Option.some.inj hwf).symm
    cases hb : dL d with
    | false =>
      have hp := bad hb
      subst hp
      refine iteT ?_
      refine ⟨_, rfl, (by show 1 ≤ 1000; decide), fun a ha => ⟨a, _, rfl, upd_same, fun dx hdx ne => ⟨rfl, dx, _, upd_same, by rw [upd_ne ne, upd_same], ?_, ?_⟩⟩⟩
      · rw [upd_ne ne] at hdx
        exact hdx
      · rw [mk_heap ha ne]
        refine q dx _ (Same.refl H) ?_
        rw [upd_ne ne] at hdx
        exact hdx
    | true =>
    obtain ⟨ds, rfl⟩ : ∃ ds, d = .list ds := by
      cases d with
      | list ds => exact ⟨ds, rfl⟩
      | _ => cases hb
    cases hd with
    | @lst lw wv _ ew _ al =>
    have wa := al.all2
    have hlw : wv.length = ds.length := wa.1
    have hwf : wfL gs [] ds = some p := hwf
    obtain ⟨hdl, hsh⟩ := hsh ds rfl
    refine iteF ?_
    refine ⟨(by show 1 ≤ sizeLine; decide), fun l0 hl0 => ?_⟩
    refine ⟨_, rfl, lg, gv, rfl, .inl ((same_new hl0).seq sg), ?_⟩
    refine ⟨l0, _, _, rfl, rfl, upd_same, by omega, by omega, ?_, fun lc hlc => ?_⟩
    · show 1 * _ ≤ sizeLine
      have : 1 * ((gv.length : Int)).toNat ≤ 1000 := by omega
      exact Nat.le_of_lt (small1000 this)
    have sm0 : Same H (upd H l0 (.lst [.int 0])) := same_new hl0
    have hlc0 : H lc = none := sm0.free hlc
    have e0 : (List.replicate ((gv.length : Int)).toNat [V.int 0]).flatten = (cntL gs.length []).map fun i => V.int (i : Nat) := by
      rw [cntL_nil, List.map_replicate, ← hlg, Int.toNat_natCast]
      generalize gv.length = n
      induction n with
      | zero => rfl
      | succ n ih =>
        rw [List.replicate_succ, List.flatten_cons, ih, List.replicate_succ]
        rfl
    rw [e0]
    refine ⟨_, rfl, lw, wv, rfl, SqL.of ((sm0.trans (same_new hlc)) _ _ ew), for_it (walk_enum (K := K) (a := lw) (xs := wv)) (fun i σ H2 => ∃ (s3 s4 : Option V) (seen : List Wr), σ = [some (.ref lg), some (.ref lw), some (.ref lc), s3, s4, none, none] ∧ seen.length = i ∧ wfL gs seen (ds.drop i) = some p ∧
        H2 lc = some (.lst ((cntL gs.length seen).map fun i => V.int (i : Nat))) ∧ Same H H2)
      ⟨_, _, [], rfl, rfl, hwf, upd_same, sm0.trans (same_new hlc)⟩ (fun i σ H2 _ ⟨_, _, _, _, _, _, _, sm⟩ => SqL.of (sm _ _ ew)) ?_ ?_⟩
    · rintro i v σ H2 H2' hi ⟨s3, s4, seen, rfl, hsl, hf, hc, sm⟩ ⟨T, x1, y, rfl, hT, rfl, ex, ey⟩
      cases ex
      obtain ⟨d1, hd1, dx1⟩ := wa.get ey
      have hxi : i < ds.length := (List.getElem?_eq_some_iff.mp hd1).1
      have hdr : ds.drop i = d1 :: ds.drop (i + 1) := by
        obtain ⟨h1, h2⟩ := List.getElem?_eq_some_iff.mp hd1
        rw [← h2]
        exact List.drop_eq_getElem_cons h1
      rw [hdr] at hf
      unfold wfL at hf
      have smT : Same H2 (upd H2 T (.tup [.int (i : Nat), y])) := same_new hT
      have sm2 := sm.trans smT
      refine ⟨T, _, rfl, .inl (.inl upd_same), rfl, _, _, rfl, _, _, rfl, rfl, ?_⟩
      have raise : ((i : Nat) : Int) = p → ∀ {H3 : Hp}, Same H H3 → ∀ {a dx : Addr}, H3 a = none → dx ≠ a → H3 dx = none → E (.ref CW) (some dx) (upd H3 dx (.xd [(("place" : Str), .int (i : Nat))])) := fun e H3 s3 a dx _ _ hdx => by
        have := q dx H3 s3 hdx
        rw [← e] at this
        exact this
      refine ⟨_, rfl, _, rfl, lg, gv, rfl, .inl (sm2.seq sg), y, d1, gv.length, rfl, (dx1.same sm2), (fun es e => hsh d1 (List.mem_of_getElem? hd1) es e), fun H3 sm3 => ?_⟩
      have sm4 := sm2.trans sm3
      have hc3 := sm3 _ _ (smT _ _ hc)
      rw [hlg]
      refine ⟨isWireD gs.length d1, rfl, ?_⟩
      cases hw1 : isWireD gs.length d1 with
      | false =>
        rw [hw1, if_neg (by decide), hsl] at hf
        refine iteT ?_
        refine ⟨_, rfl, (by show 1 ≤ 1000; decide), fun a ha => ⟨a, _, rfl, upd_same, fun dx hdx ne => ⟨rfl, dx, _, upd_same, by rw [upd_ne ne, upd_same], ?_, ?_⟩⟩⟩
        · rw [upd_ne ne] at hdx
          exact hdx
        · rw [mk_heap ha ne]
          rw [upd_ne ne] at hdx
          exact raise (Option.some.inj hf) sm4 ha ne hdx
      | true =>
        rw [hw1, if_pos rfl] at hf
        refine iteF ?_
        obtain ⟨wx, x1, x2, x3⟩ := wire_of (dx1.same sm4) hw1
        refine ⟨_, rfl, _, rfl, _, rfl, y, asWr d1, lg, lc, gs, seen, rfl, wx, RGs.same sm4, SqL.of hc3, x1, x2, takenB gs seen (asWr d1), rfl, ?_⟩
        cases ht : takenB gs seen (asWr d1) with
        | false =>
          rw [ht, if_neg (by decide), hsl] at hf
          refine iteT ?_
          refine ⟨_, rfl, (by show 1 ≤ 1000; decide), fun a ha => ⟨a, _, rfl, upd_same, fun dx hdx ne => ⟨rfl, dx, _, upd_same, by rw [upd_ne ne, upd_same], ?_, ?_⟩⟩⟩
          · rw [upd_ne ne] at hdx
            exact hdx
          · rw [mk_heap ha ne]
            rw [upd_ne ne] at hdx
            exact raise (Option.some.inj hf) sm4 ha ne hdx
        | true =>
          rw [ht, if_pos rfl] at hf
          refine iteF ?_
          obtain ⟨a, b, rfl, sq1, sq2⟩ := wx
          have hlen : (asWr d1).2.1 < (cntL gs.length seen).length := by rw [cntL_len]; exact x2
          refine ⟨_, rfl, _, rfl, a, _, 1, _, rfl, rfl, sq1, atI_nat (j := 1) rfl, lc, _, (asWr d1).2.1, .int (cnt seen (asWr d1).2.1 : Nat), rfl, rfl, SqL.of hc3, by rw [List.getElem?_map, cntL_get x2]; rfl, _, _, rfl, rfl, lc, _, _, (asWr d1).2.1, rfl, rfl, hc3, Evl.ixN_nat (by rw [List.length_map]; exact hlen), ?_⟩
          refine ⟨_, _, seen ++ [asWr d1], rfl, by rw [List.length_append, hsl]; rfl, hf, ?_, same_mut sm4 hlc0⟩
          rw [upd_same, ← cntL_app x2, ← map_set']
          rfl
    · rintro σ H2 ⟨s3, s4, seen, rfl, hsl, hf, hc, sm⟩
      rw [hlw, List.drop_length] at hf
      unfold wfL at hf
      have hlk : lacksB gs seen = true := by
        cases hz : lacksB gs seen with
        | true => rfl
        | false =>
          rw [hz, if_neg (by decide)] at hf
          cases hf
      rw [hlk, if_pos rfl, hsl, hlw] at hf
      have hp : ((ds.length : Nat) : Int) = p := Option.some.inj hf
      obtain ⟨e0, he0, hk0, hc0⟩ : ∃ e, e < gs.length ∧ (kindAt gs e = "out" ∨ kindAt gs e = "first") ∧ cnt seen e = 0 := by
        unfold lacksB at hlk
        rw [List.any_eq_true] at hlk
        obtain ⟨e, h1, h2⟩ := hlk
        rw [Bool.and_eq_true, Bool.or_eq_true] at h2
        exact ⟨e, List.mem_range.mp h1, h2.1.imp of_decide_eq_true of_decide_eq_true, of_decide_eq_true h2.2⟩
      refine ⟨_, rfl, _, rfl, lg, lc, gv, _, rfl, sm.seq sg, SqL.of hc, RZ.for_zipL (K := K) (a := lg) (b := lc) (xs := gv) (by rw [List.length_map, cntL_len]; exact hlg) (fun i σ H3 => i ≤ e0 ∧ ∃ s5 s6 : Option V, σ = [some (.ref lg), some (.ref lw), some (.ref lc), s3, s4, s5, s6] ∧ Same H2 H3)
        ⟨Nat.zero_le _, _, _, rfl, Same.refl H2⟩ (fun i σ H3 ⟨_, _, _, _, sm3⟩ => ⟨(sm.trans sm3).seq sg, SqL.of (sm3 _ _ hc)⟩) ?_ ?_⟩
      · rintro i x y T σ H3 hx hy ⟨hie, s5, s6, rfl, sm3⟩ hT
        obtain ⟨g, hg, a, rfl, sq⟩ := ga.get hx
        have hgi : i < gs.length := (List.getElem?_eq_some_iff.mp hg).1
        rw [List.getElem?_map, cntL_get hgi] at hy
        cases hy
        have sm4 : Same H (upd H3 T (.tup [.ref a, .int (cnt seen i : Nat)])) := (sm.trans sm3).trans (same_new hT)
        have sm5 : Same H2 (upd H3 T (.tup [.ref a, .int (cnt seen i : Nat)])) := sm3.trans (same_new hT)
        refine ⟨T, _, rfl, .inl (.inl upd_same), rfl, _, _, rfl, _, _, rfl, rfl, ?_⟩
        generalize upd H3 T (.tup [.ref a, .int (cnt seen i : Nat)]) = H4 at sm4 sm5
        have next : (i = e0 → False) → i + 1 ≤ e0 := fun h => by
          by_cases z : i = e0
          · exact absurd z (fun z => h z)
          · omega
        refine ⟨_, rfl, a, _, 0, _, rfl, rfl, (TK.same sm4).seq sq, atI_nat (j := 0) rfl, aF, _, rfl, .inr (C.sF _), rfl, rfl, _, rfl, ite2 (fun e => ?_) (fun e => ?_)⟩
        · refine ⟨_, rfl, rfl, decide (cnt seen i = 0), ?_, ?_⟩
          · show V.bl (decide (V.int ((cnt seen i : Nat) : Int) = V.int 0)) = _
            rw [vint_eq]
            exact congrArg V.bl (decide_eq_decide.mpr (by omega))
          · cases hz : decide (cnt seen i = 0) with
            | true =>
              refine iteT ?_
              refine ⟨_, rfl, lw, wv, rfl, .inl (SqL.of (sm4 _ _ ew)), (by show 1 ≤ 1000; decide), fun a ha => ⟨a, _, rfl, upd_same, fun dx hdx ne => ⟨rfl, dx, _, upd_same, by rw [upd_ne ne, upd_same], ?_, ?_⟩⟩⟩
              · rw [upd_ne ne] at hdx
                exact hdx
              · rw [mk_heap ha ne]
                rw [upd_ne ne] at hdx
                have := q dx H4 sm4 hdx
                rw [← hp, ← hlw] at this
                exact this
            | false =>
              refine iteF ⟨next fun z => ?_, _, _, rfl, sm5⟩
              rw [z, hc0] at hz
              cases hz
        · refine ⟨next fun z => e ?_, _, _, rfl, sm5⟩
          have hk := kindAt_get hg
          rw [z] at hk
          rw [hk] at hk0
          show inV (V.str g.1) [V.str "out", V.str "first"] = true
          rcases hk0 with h | h <;> rw [h] <;> decide +kernel
      · rintro σ H3 ⟨hie, _⟩
        exfalso
        omega
theorem ok_initX {f fG fW C CG CW : Addr} {fd fdG fdW : FuncData} (F : Fun K "__init__" "Net.__init__" sInit f fd) (DG : DChkGates P w K mg base fG fdG) (DGX : FnOk P w K mg base (L2.CX P w) 4 fG fdG ["gates"] (spChkGatesX K CG)) (DW : DChkWires P w K mg base fW fdW) (DWX : FnOk P w K mg base (L2.CX P w) 5 fW fdW ["gates", "wires"] (spChkWiresX K CW)) :
    FnOk P w K mg base (L2.CX P w) 6 f fd ["self", "gates", "wires"] (spInitX K C CG CW) := by
  refine F.okX scInit (fun vs H Q E h => ?_) (fun cdv A outer s H vs Q E hr h => ?_)
  · obtain ⟨p, vg, vw, G, W, rfl, _⟩ := h
    rfl
  · obtain ⟨p, vg, vw, G, W, rfl, dg, dw, hgl, hsh, h⟩ := h
    have nd := scInit.nd
    refine ⟨_, pss_cons (ps_expr (pe_callS (fn_or (fn_cx0 DG.ok) DGX) (hr.mono (by decide)) (by rfl) DG.mg DG.kp DG.bd (fun σ => passAt (takes_of rfl rfl rfl rfl) σ) (pa_cons (pv 1) pa_nil))) <|
      pss_cons (ps_expr (pe_callS DWX (hr.mono (by decide)) (by rfl) DW.mg DW.kp DW.bd (fun σ => passAt (takes_of rfl rfl rfl rfl) σ) (pa_cons (pv 1) (pa_cons (pv 2) pa_nil)))) <|
      pss_cons ps_never <| pss_cons ps_never <| pss_one ps_never, ?_⟩
    rcases h with ⟨bad, q⟩ | ⟨good, pl, hwf, q⟩
    · exact ⟨_, rfl, .inr ⟨vg, G, rfl, dg, bad, fun H' s => q H' s⟩⟩
    · cases G with
      | list gds =>
        cases dg with
        | @lst lg gv _ eg _ al =>
        have good : (!gds.isEmpty && gds.all isGateD) = true := good
        rw [Bool.and_eq_true] at good
        obtain ⟨g1, g2⟩ := good
        obtain ⟨ga, gok⟩ := gates_of al g2
        have RGs : RG K H lg (gds.map asGt) := ⟨gv, SqL.of eg, ga⟩
        refine ⟨_, rfl, .inl ⟨lg, gds.map asGt, rfl, RGs, ?_, gok, fun H1 s1 => ?_⟩⟩
        · intro z
          have : gds = [] := List.map_eq_nil_iff.mp z
          rw [this] at g1
          cases g1
        exact ⟨_, rfl, _, rfl, lg, vw, gds.map asGt, W, pl, rfl, RGs.same s1, hgl, dw.same s1, hsh, hwf, fun dx H' s hd => q dx H' (s1.trans s) hd⟩
      | _ => cases good
end
end Lag

set_option maxRecDepth 100000
set_option maxHeartbeats 4000000
namespace Lag
open PySem PySem.Spec PyProof.Rows L2
/-! ### rings of wires without registers: the mathematics -/
abbrev Ranked (ws : List Wr) : Prop := ∃ ρ : Nat → Nat, ∀ x ∈ ws, x.2.2 = [] → ρ x.1 < ρ x.2.1
def stO (ws : List Wr) (p : Nat) : Nat := ((ws[p]?).getD (0, 0, [])).1
def enO (ws : List Wr) (p : Nat) : Nat := ((ws[p]?).getD (0, 0, [])).2.1
def BareAt (ws : List Wr) (p : Nat) : Prop := ∃ x, ws[p]? = some x ∧ x.2.2 = []
structure IsRing (ws : List Wr) (r : List Nat) : Prop where
  ne : r ≠ []
  ok : ∀ p ∈ r, BareAt ws p
  nd : (r.map (stO ws)).Nodup
  eq : r.map (enO ws) = (r.map (stO ws)).drop 1 ++ (r.map (stO ws)).take 1
/-- a way of wires without registers, of l + 1 wires -/
inductive Pth (ws : List Wr) : Nat → Nat → Nat → Prop
  | one {a b : Nat} {x : Wr} : x ∈ ws → x.1 = a → x.2.1 = b → x.2.2 = [] → Pth ws 0 a b
  | more {l a b c : Nat} {x : Wr} : Pth ws l a b → x ∈ ws → x.1 = b → x.2.1 = c → x.2.2 = [] → Pth ws (l + 1) a c
theorem Pth.rank {ws : List Wr} {ρ : Nat → Nat} (h : ∀ x ∈ ws, x.2.2 = [] → ρ x.1 < ρ x.2.1) {l a b : Nat} (p : Pth ws l a b) : ρ a < ρ b := by
  induction p with
  | one m e1 e2 e3 =>
    have := h _ m e3
    rw [e1, e2] at this
    exact this
  | more _ m e1 e2 e3 ih =>
    have := h _ m e3
    rw [e1, e2] at this
    exact Nat.lt_trans ih this
/-- what the law comes to from k -/
def come0 (ws : List Wr) (k : Nat) : List Nat := (ws.filter fun x => x.1 == k && x.2.2.isEmpty).map fun x => x.2.1
def comeS (ws : List Wr) (c : List Nat) : List Nat := c ++ (ws.filter fun x => c.contains x.1 && (x.2.2.isEmpty && !c.contains x.2.1)).map fun x => x.2.1
def comeN (ws : List Wr) (k : Nat) : Nat → List Nat
  | 0 => come0 ws k
  | t + 1 => comeS ws (comeN ws k t)
theorem come_sound {ws : List Wr} {k : Nat} : ∀ {t b : Nat}, b ∈ comeN ws k t → ∃ l, Pth ws l k b
  | 0, b, h => by
    obtain ⟨x, hx, rfl⟩ := List.mem_map.mp h
    rw [List.mem_filter, Bool.and_eq_true] at hx
    exact ⟨0, .one hx.1 (eq_of_beq hx.2.1) rfl (List.isEmpty_iff.mp hx.2.2)⟩
  | t + 1, b, h => by
    rcases List.mem_append.mp h with h | h
    · exact come_sound h
    · obtain ⟨x, hx, rfl⟩ := List.mem_map.mp h
      rw [List.mem_filter, Bool.and_eq_true, Bool.and_eq_true] at hx
      obtain ⟨l, p⟩ := come_sound (t := t) (List.contains_iff_mem.mp hx.2.1)
      exact ⟨l + 1, .more p hx.1 rfl rfl (List.isEmpty_iff.mp hx.2.2.1)⟩
theorem come_mono {ws : List Wr} {k b : Nat} {t : Nat} (h : b ∈ comeN ws k t) : ∀ {t' : Nat}, t ≤ t' → b ∈ comeN ws k t' := by
  intro t' le
  induction le with
  | refl => exact h
  | step _ ih => exact List.mem_append_left _ ih
theorem come_all {ws : List Wr} {k : Nat} {l b : Nat} (p : Pth ws l k b) : b ∈ comeN ws k l := by
  induction p with
  | one m e1 e2 e3 =>
    refine List.mem_map.mpr ⟨_, List.mem_filter.mpr ⟨m, ?_⟩, e2⟩
    rw [Bool.and_eq_true]
    exact ⟨beq_iff_eq.mpr e1, List.isEmpty_iff.mpr e3⟩
  | @more l a b c x p m e1 e2 e3 ih =>
    by_cases hc : c ∈ comeN ws a l
    · exact List.mem_append_left _ hc
    · refine List.mem_append_right _ (List.mem_map.mpr ⟨x, List.mem_filter.mpr ⟨m, ?_⟩, e2⟩)
      rw [Bool.and_eq_true, Bool.and_eq_true]
      refine ⟨?_, List.isEmpty_iff.mpr e3, ?_⟩
      · rw [e1]
        exact List.contains_iff_mem.mpr ih
      · rw [e2]
        have : (comeN ws a l).contains c = false := by
          cases z : (comeN ws a l).contains c with
          | true => exact absurd (List.contains_iff_mem.mp z) hc
          | false => rfl
        rw [this]
        rfl
theorem come_len {ws : List Wr} {k : Nat} : ∀ t, (comeN ws k t).length ≤ ws.length * (t + 1)
  | 0 => by
    show (come0 ws k).length ≤ _
    unfold come0
    rw [List.length_map]
    have := List.length_filter_le (fun x : Wr => x.1 == k && x.2.2.isEmpty) ws
    omega
  | t + 1 => by
    show (comeS ws (comeN ws k t)).length ≤ _
    unfold comeS
    rw [List.length_append, List.length_map, Nat.mul_succ]
    have := List.length_filter_le (fun x : Wr => (comeN ws k t).contains x.1 && (x.2.2.isEmpty && !(comeN ws k t).contains x.2.1)) ws
    have := come_len (ws := ws) (k := k) t
    omega
def hasRing (ws : List Wr) (n : Nat) : Bool := (List.range n).any fun k => (comeN ws k n).contains k
theorem ranked_none {ws : List Wr} {n : Nat} (h : Ranked ws) : hasRing ws n = false := by
  obtain ⟨ρ, hρ⟩ := h
  unfold hasRing
  rw [List.any_eq_false]
  intro k _ z
  obtain ⟨l, p⟩ := come_sound (List.contains_iff_mem.mp z)
  exact Nat.lt_irrefl _ (p.rank hρ)
theorem IsRing.len {ws : List Wr} {r : List Nat} {n : Nat} (h : IsRing ws r) (hw : ∀ x ∈ ws, x.1 < n ∧ x.2.1 < n) : r.length ≤ n := by
  have h2 := List.Nodup.length_le_of_subset h.nd (l₂ := List.range n) (fun a ha => by
    obtain ⟨p, hp, rfl⟩ := List.mem_map.mp ha
    obtain ⟨x, hx, _⟩ := h.ok p hp
    unfold stO
    rw [hx]
    exact List.mem_range.mpr (hw x (List.mem_of_getElem? hx)).1)
  rw [List.length_map, List.length_range] at h2
  exact h2
theorem IsRing.path {ws : List Wr} {r : List Nat} (h : IsRing ws r) : ∀ (j : Nat) (p0 p : Nat), r[0]? = some p0 → r[j]? = some p → Pth ws j (stO ws p0) (enO ws p)
  | 0, p0, p, e0, e => by
    rw [e0] at e
    cases e
    obtain ⟨x, hx, hb⟩ := h.ok p0 (List.mem_of_getElem? e0)
    refine .one (List.mem_of_getElem? hx) ?_ ?_ hb <;> (first | unfold stO | unfold enO) <;> rw [hx] <;> rfl
  | j + 1, p0, p, e0, e => by
    have hl : j + 1 < r.length := (List.getElem?_eq_some_iff.mp e).1
    have e1 : r[j]? = some (r[j]'(by omega)) := List.getElem?_eq_getElem (by omega)
    have ih := h.path j p0 _ e0 e1
    obtain ⟨x, hx, hb⟩ := h.ok p (List.mem_of_getElem? e)
    refine .more ih (List.mem_of_getElem? hx) ?_ ?_ hb
    · have a1 : (r.map (enO ws))[j]? = some (enO ws (r[j]'(by omega))) := by
        rw [List.getElem?_map, e1]
        rfl
      rw [h.eq, List.getElem?_append_left (by rw [List.length_drop, List.length_map]; omega), List.getElem?_drop, List.getElem?_map, Nat.add_comm, e] at a1
      have := Option.some.inj a1
      rw [← this]
      unfold stO
      rw [hx]
      rfl
    · unfold enO
      rw [hx]
      rfl
theorem IsRing.has {ws : List Wr} {r : List Nat} {n : Nat} (h : IsRing ws r) (hw : ∀ x ∈ ws, x.1 < n ∧ x.2.1 < n) : hasRing ws n = true := by
  have hl := h.len hw
  have hp : 0 < r.length := List.length_pos_iff.mpr h.ne
  have e0 : r[0]? = some (r[0]'hp) := List.getElem?_eq_getElem hp
  have e1 : r[r.length - 1]? = some (r[r.length - 1]'(by omega)) := List.getElem?_eq_getElem (by omega)
  have p := h.path _ _ _ e0 e1
  have back : enO ws (r[r.length - 1]'(by omega)) = stO ws (r[0]'hp) := by
    have a1 : (r.map (enO ws))[r.length - 1]? = some (enO ws (r[r.length - 1]'(by omega))) := by
      rw [List.getElem?_map, e1]
      rfl
    rw [h.eq, List.getElem?_append_right (by rw [List.length_drop, List.length_map]; omega), List.length_drop, List.length_map, Nat.sub_self, List.getElem?_take_of_lt (by decide), List.getElem?_map, e0] at a1
    exact (Option.some.inj a1).symm
  rw [back] at p
  unfold hasRing
  rw [List.any_eq_true]
  obtain ⟨x, hx, _⟩ := h.ok _ (List.mem_of_getElem? e0)
  refine ⟨stO ws (r[0]'hp), List.mem_range.mpr ?_, List.contains_iff_mem.mpr (come_mono (come_all p) (by omega))⟩
  unfold stO
  rw [hx]
  exact (hw x (List.mem_of_getElem? hx)).1
/-! ### the walk back -/
structure Wk (ws : List Wr) (n : Nat) (es path : List Nat) (cur : Nat) : Prop where
  nd : es.Nodup
  lt : ∀ e ∈ es, e < n
  clt : cur < n
  en : path.map (enO ws) = es
  st : path.map (stO ws) = (es ++ [cur]).drop 1
  ok : ∀ p ∈ path, BareAt ws p
theorem Wk.len {ws : List Wr} {n : Nat} {es path : List Nat} {cur : Nat} (h : Wk ws n es path cur) : path.length = es.length := by
  rw [← h.en, List.length_map]
theorem Wk.le {ws : List Wr} {n : Nat} {es path : List Nat} {cur : Nat} (h : Wk ws n es path cur) : es.length ≤ n := by
  have h2 := List.Nodup.length_le_of_subset h.nd (l₂ := List.range n) (fun a ha => List.mem_range.mpr (h.lt a ha))
  rw [List.length_range] at h2
  exact h2
theorem Wk.step {ws : List Wr} {n : Nat} {es path : List Nat} {cur p s : Nat} (h : Wk ws n es path cur) (hn : cur ∉ es) (hp : ws[p]? = some (s, cur, [])) (hs : s < n) : Wk ws n (es ++ [cur]) (path ++ [p]) s := by
  refine ⟨?_, ?_, hs, ?_, ?_, ?_⟩
  · rw [List.nodup_append]
    refine ⟨h.nd, by simp, fun a ha c hc => ?_⟩
    simp at hc
    subst hc
    intro z
    exact hn (by rw [← z]; exact ha)
  · intro e he
    rcases List.mem_append.mp he with he | he
    · exact h.lt e he
    · simp at he
      subst he
      exact h.clt
  · rw [List.map_append, h.en]
    unfold enO
    simp [hp]
  · rw [List.map_append, h.st, List.drop_append_of_le_length (by simp : 1 ≤ (es ++ [cur]).length)]
    unfold stO
    simp [hp]
  · intro q hq
    rcases List.mem_append.mp hq with hq | hq
    · exact h.ok q hq
    · simp at hq
      subst hq
      exact ⟨_, hp, rfl⟩
theorem Wk.ring {ws : List Wr} {n : Nat} {es path : List Nat} {cur j : Nat} (h : Wk ws n es path cur) (hj : es[j]? = some cur) : IsRing ws (path.drop j).reverse := by
  obtain ⟨hjl, hje⟩ := List.getElem?_eq_some_iff.mp hj
  have hd : es.drop j = cur :: es.drop (j + 1) := by
    rw [List.drop_eq_getElem_cons hjl, hje]
  have e1 : (path.drop j).map (enO ws) = cur :: es.drop (j + 1) := by
    rw [List.map_drop, h.en, hd]
  have e2 : (path.drop j).map (stO ws) = es.drop (j + 1) ++ [cur] := by
    rw [List.map_drop, h.st, List.drop_drop, List.drop_append_of_le_length (by omega), Nat.add_comm]
  have nd2 : (cur :: es.drop (j + 1)).Nodup := by
    rw [← hd]
    exact h.nd.sublist (List.drop_sublist _ _)
  refine ⟨?_, fun p hp => h.ok p (List.mem_of_mem_drop (List.mem_reverse.mp hp)), ?_, ?_⟩
  · intro z
    have : path.drop j = [] := by simpa using z
    rw [this] at e1
    cases e1
  · rw [List.map_reverse, e2]
    exact (List.reverse_perm _).nodup_iff.mpr ((List.perm_append_comm (l₁ := [cur]) (l₂ := es.drop (j + 1))).nodup_iff.mp nd2)
  · rw [List.map_reverse, List.map_reverse, e1, e2]
    simp
/-- what is left out has a wire from what is left out -/
theorem Ord.back {n : Nat} {ws : List Wr} {ord : List Nat} (h : Ord n ws ord) {e : Nat} (he : e < n) (hn : e ∉ ord) : ∃ x ∈ ws, x.2.2 = [] ∧ x.2.1 = e ∧ x.1 ∉ ord := by
  have h1 : ¬ mis (bare ws) (ord.take ord.length) e = 0 := fun z => hn ((h.iff e he).mpr z)
  rw [List.take_length] at h1
  unfold mis at h1
  rw [List.countP_eq_zero] at h1
  have h2 : ∃ b ∈ bare ws, b.2 = e ∧ b.1 ∉ ord := by
    refine Classical.byContradiction fun z => h1 fun b hb hh => z ⟨b, hb, ?_⟩
    rw [Bool.and_eq_true] at hh
    refine ⟨eq_of_beq hh.1, fun m => ?_⟩
    have := hh.2
    rw [List.contains_iff_mem.mpr m] at this
    cases this
  obtain ⟨b, hb, rfl, hno⟩ := h2
  obtain ⟨x, hx, rfl⟩ := List.mem_map.mp hb
  rw [List.mem_filter] at hx
  exact ⟨x, hx.1, List.isEmpty_iff.mp hx.2, rfl, hno⟩
theorem Ord.le {n : Nat} {ws : List Wr} {ord : List Nat} (h : Ord n ws ord) : ord.length ≤ n := by
  have h2 := List.Nodup.length_le_of_subset h.nd (l₂ := List.range n) (fun a ha => List.mem_range.mpr (h.lt a ha))
  rw [List.length_range] at h2
  exact h2
theorem Ord.all {n : Nat} {ws : List Wr} {ord : List Nat} (h : Ord n ws ord) (hl : ord.length = n) : ∀ e, e < n → e ∈ ord := by
  intro e he
  refine Classical.byContradiction fun z => ?_
  have nd : (e :: ord).Nodup := List.nodup_cons.mpr ⟨z, h.nd⟩
  have h2 := List.Nodup.length_le_of_subset nd (l₂ := List.range n) (fun a ha => by
    rcases List.mem_cons.mp ha with rfl | ha
    · exact List.mem_range.mpr he
    · exact List.mem_range.mpr (h.lt a ha))
  rw [List.length_range, List.length_cons] at h2
  omega
theorem Ord.ranked {n : Nat} {ws : List Wr} {ord : List Nat} (h : Ord n ws ord) (hw : ∀ x ∈ ws, x.1 < n ∧ x.2.1 < n) (hl : ord.length = n) : Ranked ws := by
  refine ⟨fun e => ord.idxOf e, fun x hx hb => ?_⟩
  have m := h.all hl _ (hw x hx).2
  have hj : ord.idxOf x.2.1 < ord.length := List.idxOf_lt_length_iff.mpr m
  have e1 : ord[ord.idxOf x.2.1]? = some x.2.1 := by
    rw [List.getElem?_eq_getElem hj, List.getElem_idxOf hj]
  have t := h.top _ _ e1 (x.1, x.2.1) (List.mem_map.mpr ⟨x, List.mem_filter.mpr ⟨hx, List.isEmpty_iff.mpr hb⟩, rfl⟩) rfl
  obtain ⟨i, hi⟩ := List.getElem?_of_mem t
  have hi1 : i < ord.idxOf x.2.1 := by
    have := (List.getElem?_eq_some_iff.mp hi).1
    rw [List.length_take] at this
    omega
  rw [List.getElem?_take_of_lt hi1] at hi
  have h3 := (List.getElem?_eq_some_iff.mp hi).1
  have h4 : ord.idxOf x.1 = i := by
    have m1 : x.1 ∈ ord := List.mem_of_getElem? hi
    have h5 : ord.idxOf x.1 < ord.length := List.idxOf_lt_length_iff.mpr m1
    exact nd_ix h.nd (by rw [List.getElem?_eq_getElem h5, List.getElem_idxOf h5]) hi
  show ord.idxOf x.1 < ord.idxOf x.2.1
  omega
/-- the least one left out is there, if some are -/
theorem Ord.lacks {n : Nat} {ws : List Wr} {ord : List Nat} (h : Ord n ws ord) (hw : ∀ x ∈ ws, x.1 < n ∧ x.2.1 < n) (nr : ¬ Ranked ws) : ord.length < n ∧ ∃ e, e < n ∧ e ∉ ord := by
  have hl : ord.length < n := by
    have := h.le
    by_cases z : ord.length = n
    · exact absurd (h.ranked hw z) nr
    · omega
  refine ⟨hl, Classical.byContradiction fun z => ?_⟩
  have sub : List.range n ⊆ ord := fun e he => Classical.byContradiction fun z2 => z ⟨e, List.mem_range.mp he, z2⟩
  have := List.Nodup.length_le_of_subset (List.nodup_range (n := n)) sub
  rw [List.length_range] at this
  omega
end Lag

set_option maxRecDepth 100000
set_option maxHeartbeats 8000000
namespace Lag
open PySem PySem.Spec PyProof.Rows L2
abbrev sNRinit : Stmt := inClass (topS 5 /- @NoRing -/) 0
abbrev sRingFrom : Stmt := topS 14 -- @ring_from
abbrev sBareRing : Stmt := topS 28 -- @bare_ring
/-! ### tables by membership -/
theorem mem_putK {kvs : List (Key × V)} {k : Key} {v : V} {x : Key × V} (h : x ∈ putK kvs k v) : x ∈ kvs ∨ x = (k, v) := by
  unfold putK at h
  split at h
  · obtain ⟨y, hy, rfl⟩ := List.mem_map.mp h
    by_cases e : y.1 = k
    · rw [if_pos e, e]
      exact .inr rfl
    · rw [if_neg e]
      exact .inl hy
  · rcases List.mem_append.mp h with h | h
    · exact .inl h
    · exact .inr (List.mem_singleton.mp h)
theorem valV_has {kvs : List (Key × V)} {k : Key} : (∃ x ∈ kvs, x.1 = k) → ∃ v, valV kvs k = some v ∧ (k, v) ∈ kvs := by
  induction kvs with
  | nil => rintro ⟨x, h, _⟩; cases h
  | cons y l ih =>
    rintro ⟨x, h, e⟩
    by_cases ey : y.1 = k
    · refine ⟨y.2, valV_pos ey, ?_⟩
      rw [← ey]
      exact List.mem_cons_self ..
    · rcases List.mem_cons.mp h with rfl | h
      · exact absurd e ey
      · obtain ⟨v, hv, hm⟩ := ih ⟨x, h, e⟩
        exact ⟨v, by rw [valV_neg ey]; exact hv, List.mem_cons_of_mem _ hm⟩
theorem has_of_val {kvs : List (Key × V)} {k : Key} {v : V} (h : valV kvs k = some v) : ∃ x ∈ kvs, x.1 = k := by
  induction kvs with
  | nil => cases h
  | cons y l ih =>
    by_cases ey : y.1 = k
    · exact ⟨y, List.mem_cons_self .., ey⟩
    · rw [valV_neg ey] at h
      obtain ⟨x, hx, e⟩ := ih h
      exact ⟨x, List.mem_cons_of_mem _ hx, e⟩
theorem has_putK {kvs : List (Key × V)} {k k' : Key} {v : V} (h : ∃ x ∈ kvs, x.1 = k') : ∃ x ∈ putK kvs k v, x.1 = k' := by
  obtain ⟨u, hu, _⟩ := valV_has h
  by_cases e : k' = k
  · exact has_of_val (v := v) (by rw [valV_put, if_pos e])
  · exact has_of_val (v := u) (by rw [valV_put, if_neg e]; exact hu)
theorem new_putK {kvs : List (Key × V)} {k : Key} {v : V} : ∃ x ∈ putK kvs k v, x.1 = k := has_of_val (v := v) (by rw [valV_put, if_pos rfl])
/-- the way back: for an end the place and the start of a wire without registers, from what is left out -/
structure BackD (K : PySem.W.Frag) (H : Hp) (d : Addr) (kvs : List (Key × V)) (ws : List Wr) (ord : List Nat) : Prop where
  at_ : H d = some (.dK kvs)
  mem : ∀ x ∈ kvs, ∃ (e p s : Nat) (t : Addr), x = (.inl (e : Int), .ref t) ∧ SqT K H t [.int (p : Nat), .int (s : Nat)] ∧ ws[p]? = some (s, e, []) ∧ s ∉ ord
theorem BackD.same {K : PySem.W.Frag} {H H' : Hp} {d : Addr} {kvs : List (Key × V)} {ws : List Wr} {ord : List Nat} (h : BackD K H d kvs ws ord) (s : Same H H') : BackD K H' d kvs ws ord :=
  ⟨s _ _ h.at_, fun x hx => by
    obtain ⟨e, p, s', t, h1, h2, h3⟩ := h.mem x hx
    exact ⟨e, p, s', t, h1, (TK.same s).seq h2, h3⟩⟩
theorem BackD.get {K : PySem.W.Frag} {H : Hp} {d : Addr} {kvs : List (Key × V)} {ws : List Wr} {ord : List Nat} (h : BackD K H d kvs ws ord) {e : Nat} (he : ∃ x ∈ kvs, x.1 = Sum.inl (e : Int)) :
    ∃ (p s : Nat) (t : Addr), DGet H d (.int (e : Nat)) (some (.ref t)) ∧ SqT K H t [.int (p : Nat), .int (s : Nat)] ∧ ws[p]? = some (s, e, []) ∧ s ∉ ord := by
  obtain ⟨v, hv, hm⟩ := valV_has he
  obtain ⟨e', p, s, t, h1, h2, h3, h4⟩ := h.mem _ hm
  injection h1 with a b
  have : e = e' := by have := Sum.inl.inj a; omega
  subst this
  subst b
  refine ⟨p, s, t, ?_, h2, h3, h4⟩
  have := DGet.k (k := Sum.inl (e : Int)) h.at_
  rw [hv] at this
  exact this
/-- what was seen, with its place -/
def SeenD (H : Hp) (D : Addr) (es : List Nat) : Prop := ∃ kvs : List (Key × V), H D = some (.dK kvs) ∧ kvs.length ≤ es.length ∧ ∀ g : Nat, valV kvs (Sum.inl (g : Int)) = if g ∈ es then some (.int ((es.idxOf g : Nat) : Int)) else none
theorem SeenD.get {H : Hp} {D : Addr} {es : List Nat} (h : SeenD H D es) (g : Nat) : DGet H D (.int (g : Nat)) (if g ∈ es then some (.int ((es.idxOf g : Nat) : Int)) else none) := by
  obtain ⟨kvs, e, _, hv⟩ := h
  have := DGet.k (k := Sum.inl (g : Int)) e
  rw [hv g] at this
  exact this
theorem SeenD.put {H : Hp} {D : Addr} {es : List Nat} (h : SeenD H D es) (hm : es.length < sizeLine) {c : Nat} (hc : c ∉ es) : ∃ o, DPut H D (.int (c : Nat)) (.int ((es.length : Nat) : Int)) (upd H D o) ∧ SeenD (upd H D o) D (es ++ [c]) := by
  obtain ⟨kvs, e, hl, hv⟩ := h
  refine ⟨.dK (putK kvs (Sum.inl (c : Int)) (.int ((es.length : Nat) : Int))), DPut.k (k := Sum.inl (c : Int)) e (by omega), _, upd_same, by have := length_putK kvs (Sum.inl (c : Int)) (.int ((es.length : Nat) : Int)); rw [List.length_append]; show _ ≤ es.length + 1; omega, fun j => ?_⟩
  rw [valV_put]
  by_cases hj : j = c
  · subst hj
    rw [if_pos rfl, if_pos (by simp), List.idxOf_append, if_neg hc]
    simp
  · rw [if_neg (fun z => hj (by have := Sum.inl.inj z; omega)), hv j]
    by_cases hm : j ∈ es
    · rw [if_pos hm, if_pos (List.mem_append_left _ hm), List.idxOf_append, if_pos hm]
    · rw [if_neg hm, if_neg (fun z => by
        rcases List.mem_append.mp z with z | z
        · exact hm z
        · exact hj (List.mem_singleton.mp z))]
def ivs (l : List Nat) : List V := l.map fun i => V.int (i : Nat)
def spRingFrom (K : PySem.W.Frag) : Sp := fun vs H Q _ => ∃ (e0 n : Nat) (d : Addr) (kvs : List (Key × V)) (ws : List Wr) (ord : List Nat), vs = [.int (e0 : Nat), .ref d] ∧ BackD K H d kvs ws ord ∧ (∀ e, e < n → e ∉ ord → ∃ x ∈ kvs, x.1 = Sum.inl (e : Int)) ∧ (∀ x ∈ ws, x.1 < n ∧ x.2.1 < n) ∧ n ≤ 1000 ∧ e0 < n ∧ e0 ∉ ord ∧
  ∀ (r : List Nat) (l : Addr) (H' : Hp), IsRing ws r.reverse → Same H H' → H l = none → H' l = some (.lst (ivs r)) → Q (.ref l) H'
def spBareRing (K : PySem.W.Frag) : Sp := fun vs H Q _ => ∃ (n : Nat) (lo lw : Addr) (ws : List Wr) (ord : List Nat), vs = [.ref lo, .ref lw] ∧ H lo = some (.lst (ivs ord)) ∧ RW K H lw ws ∧ (∀ x ∈ ws, x.1 < n ∧ x.2.1 < n) ∧ n ≤ 1000 ∧ ws.length ≤ 1000 ∧ Ord n ws ord ∧ (∃ e, e < n ∧ e ∉ ord) ∧
  ∀ (r : List Nat) (l : Addr) (H' : Hp), IsRing ws r → Same H H' → H l = none → H' l = some (.lst (ivs r)) → Q (.ref l) H'
def spChkRingsX (K : PySem.W.Frag) (CR : Addr) : Sp := fun vs H Q E => ∃ (n : Nat) (lw : Addr) (ws : List Wr), vs = [.int (n : Nat), .ref lw] ∧ RW K H lw ws ∧ (∀ x ∈ ws, x.1 < n ∧ x.2.1 < n) ∧ n ≤ 1000 ∧ ws.length ≤ 1000 ∧ ¬ Ranked ws ∧
  ∀ (r : List Nat) (l dx : Addr) (H' : Hp), IsRing ws r → Same H H' → H l = none → H' l = some (.lst (ivs r)) → H' dx = none → E (.ref CR) (some dx) (upd H' dx (.xd [(("ring" : Str), .ref l)]))
section
variable {P : Program} {w : World} {K : PySem.W.Frag} {mg : Str → Option Value} {base : Heap}
theorem scNRinit : FnScope ["self", "ring"] ["self", "ring"] (defScope sNRinit) := ⟨rfl, rfl, rfl, by decide +kernel, rfl, by decide +kernel, by decide +kernel⟩
theorem ok_nrInit {f C0 C fI : Addr} {fd : FuncData} (F : Fun K "__init__" "NoRing.__init__" sNRinit f fd) (L : LEx K mg C0) (TE : TEx K mg "NoRing" "ring" C fI) : FnOk P w K mg base CX0 1 f fd ["self", "ring"] (spXI "ring" C) := by
  refine F.ok scNRinit (fun vs H Q E h => ?_) (fun cdv A outer s H vs Q E hr h => ?_)
  · obtain ⟨a, v, rfl, _⟩ := h
    rfl
  · obtain ⟨a, v, rfl, ha, q⟩ := h
    refine ⟨_, pss_cons (ps_expr (pe_leinit (by rfl) L.g L.gA L.tC L.rC L.vV (pa_cons (pv 0) (pa_cons pe_str pa_nil)))) <| pss_one (ps_ost (pv 0) (pv 1)), ?_⟩
    exact ⟨_, rfl, a, C, _, rfl, (by show 1 ≤ 1000; decide), TE.T, ha, _, rfl, _, rfl, a, C, rfl, TE.T, TE.no, .inl ⟨ha, fun dx hdx ne => q dx hdx ne⟩⟩
/-! ### ring_from -/
abbrev nRingFrom : List Str := ["place", "onward", "seen", "path", "passed"]
theorem scRingFrom : FnScope nRingFrom ["place", "onward"] (defScope sRingFrom) := ⟨rfl, rfl, rfl, by decide +kernel, rfl, by decide +kernel, by decide +kernel⟩
abbrev DRingFrom (P : Program) (w : World) (K : PySem.W.Frag) (mg : Str → Option Value) (base : Heap) := Df P w K mg base 1 "ring_from" ["place", "onward"] (spRingFrom K)
theorem ok_ringFrom {f : Addr} {fd : FuncData} (F : Fun K "ring_from" "ring_from" sRingFrom f fd) (hm : mg "ring_from" = some (.ref f)) (B : Bt mg) : DRingFrom P w K mg base f fd := by
  refine ⟨?_, hm, F.kp, F.binds fun _ _ _ _ _ _ us hl => match us, hl with | [_, _], _ => rfl⟩
  refine F.ok scRingFrom (fun vs H Q E h => ?_) (fun cdv A outer s H vs Q E hr h => ?_)
  · obtain ⟨e0, n, d, kvs, ws, ord, rfl, _⟩ := h
    rfl
  · obtain ⟨e0, n, d, kvs, ws, ord, rfl, bd, key, hw, hn, he0, hno, q⟩ := h
    have nd := scRingFrom.nd
    refine ⟨_, pss_cons (ps_set (i := 2) nd rfl (.inl rfl) pe_dnewK) <|
      pss_cons (ps_set (i := 3) nd rfl (.inl rfl) (pe_lst pa_nil)) <|
      pss_cons (ps_while PassesOwn.never (pt_cmp (pc_dnotin (hu_of hr) (pv 0) (pv 2))) <|
        pss_cons (ps_dput (hu_of hr) (pv 2) (pv 0) (pe_callB call_len_seq (by rfl) B.len PySem.boot_len (pa_cons (pv 3) pa_nil)) rfl) <|
        pss_cons (ps_asg (pe_dget (hu_of hr) (pv 1) (pv 0) (fun _ _ => rfl)) (pg_tup rfl (pgs_cons (pg_name (i := 4) nd rfl (.inl rfl)) (pgs_cons (pg_name (i := 0) nd rfl (.inl rfl)) pgs_nil)))) <|
        pss_one (ps_expr (pe_bm PySem.F.plainAttrs_list PySem.F.slot_list_append PySem.F.type_list_append mt_append (pv 3) (pa_cons (pv 4) pa_nil)))) <|
      pss_one (ps_ret (pe_slice sl_list (pv 3) (po_some (pe_dget (hu_of hr) (pv 2) (pv 0) (fun _ _ => rfl))) po_none)), ?_⟩
    intro ls hls
    have s1 : Same H (upd H ls (.dK [])) := same_new hls
    refine ⟨(by show 0 ≤ sizeLine; decide), fun lp hlp => ?_⟩
    have hlp0 : H lp = none := s1.free hlp
    have nsp : ls ≠ lp := ne_of_none (upd_same (H := H) (a := ls) (o := .dK [])) hlp
    refine ⟨fun m σ H6 => ∃ (es path : List Nat) (cur : Nat) (s4 : Option V), σ = [some (.int (cur : Nat)), some (.ref d), some (.ref ls), some (.ref lp), s4] ∧ Wk ws n es path cur ∧ cur ∉ ord ∧ SeenD H6 ls es ∧ H6 lp = some (.lst (ivs path)) ∧ Same H H6 ∧ m = n - es.length, ?_, ?_⟩
    · refine ⟨_, [], [], e0, none, rfl, ⟨List.nodup_nil, (by intro e h; cases h), he0, rfl, rfl, (by intro e h; cases h)⟩, hno, ⟨[], ?_, Nat.le_refl _, fun g => by rw [if_neg (by simp)]; exact valV_nil⟩, upd_same, s1.trans (same_new hlp), rfl⟩
      rw [upd_ne nsp]
      exact upd_same
    · rintro m σ H6 ⟨es, path, cur, s4, rfl, wk, hco, sd, hp6, sm, rfl⟩
      refine ⟨_, rfl, _, rfl, ls, _, rfl, sd.get cur, ?_⟩
      by_cases hc : cur ∈ es
      · rw [if_pos hc]
        refine ⟨_, rfl, iteF ?_⟩
        have hg := sd.get cur
        rw [if_pos hc] at hg
        refine ⟨_, rfl, _, rfl, _, rfl, ls, _, rfl, hg, _, rfl, lp, _, rfl, SqL.of hp6, fun p hp => ?_⟩
        have hj : es[es.idxOf cur]? = some cur := by
          have h5 : es.idxOf cur < es.length := List.idxOf_lt_length_iff.mpr hc
          rw [List.getElem?_eq_getElem h5, List.getElem_idxOf h5]
        refine q (path.drop (es.idxOf cur)) p _ (wk.ring hj) (sm.trans (same_new hp)) (sm.free hp) ?_
        rw [upd_same, cut_from]
        unfold ivs
        rw [List.map_drop]
      · rw [if_neg hc]
        refine ⟨_, rfl, iteT ?_⟩
        have hle := wk.le
        have hlt : es.length < n := by
          have nd2 : (es ++ [cur]).Nodup := by
            rw [List.nodup_append]
            refine ⟨wk.nd, by simp, fun a ha c hc2 => ?_⟩
            simp at hc2
            subst hc2
            intro z
            exact hc (by rw [← z]; exact ha)
          have h2 := List.Nodup.length_le_of_subset nd2 (l₂ := List.range n) (fun a ha => by
            rcases List.mem_append.mp ha with ha | ha
            · exact List.mem_range.mpr (wk.lt a ha)
            · rw [List.mem_singleton.mp ha]
              exact List.mem_range.mpr wk.clt)
          rw [List.length_range, List.length_append] at h2
          simp at h2
          omega
        have hpl : (ivs path).length = es.length := by
          unfold ivs
          rw [List.length_map, wk.len]
        obtain ⟨o, dp, sd2⟩ := sd.put (small1000 (by omega)) hc
        refine ⟨fun σ H7 => ∃ (es' path : List Nat) (cur : Nat) (s4 : Option V), σ = [some (.int (cur : Nat)), some (.ref d), some (.ref ls), some (.ref lp), s4] ∧ Wk ws n es' path cur ∧ cur ∉ ord ∧ SeenD H7 ls es' ∧ H7 lp = some (.lst (ivs path)) ∧ Same H H7 ∧ es'.length = es.length + 1, ?_, ?_⟩
        · rintro σ' H' ⟨es', path', cur', t4, rfl, wk', hco', sd', hp', sm', hl'⟩
          exact ⟨n - (es.length + 1), by omega, es', path', cur', t4, rfl, wk', hco', sd', hp', sm', by rw [hl']⟩
        refine ⟨_, rfl, lp, _, rfl, .inl (SqL.of hp6), _, rfl, _, rfl, ls, _, rfl, (by rw [hpl]; exact dp), ?_⟩
        have sm7 : Same H (upd H6 ls o) := same_mut sm hls
        have bd7 := bd.same sm7
        obtain ⟨p, s, t, hg, sq, hp, hs⟩ := bd7.get (key cur wk.clt hco)
        have hp7 : (upd H6 ls o) lp = some (.lst (ivs path)) := by
          rw [upd_ne nsp.symm]
          exact hp6
        have hsn := (hw _ (List.mem_of_getElem? hp)).1
        generalize upd H6 ls o = H7 at sm7 bd7 hg sq hp7 sd2
        refine ⟨_, rfl, _, rfl, d, _, rfl, hg, t, _, rfl, sq, rfl, _, _, rfl, _, _, rfl, rfl, ?_⟩
        have sd3 : SeenD (upd H7 lp (.lst (ivs path ++ [V.int (p : Nat)]))) ls (es ++ [cur]) := by
          obtain ⟨kv, h1, h2⟩ := sd2
          exact ⟨kv, by rw [upd_ne nsp]; exact h1, h2⟩
        refine ⟨_, rfl, .inl ⟨rfl, _, SqL.of hp7⟩, _, rfl, lp, _, _, rfl, rfl, hp7, small1000 (by omega), ?_⟩
        refine ⟨es ++ [cur], path ++ [p], s, _, rfl, wk.step hc hp hsn, hs, sd3, ?_, same_mut sm7 hlp0, by rw [List.length_append]; rfl⟩
        rw [upd_same]
        unfold ivs
        rw [List.map_append]
        rfl
/-! ### bare_ring -/
abbrev nBareRing : List Str := ["placed", "wires", "back", "place", "start", "end", "held"]
theorem scBareRing : FnScope nBareRing ["placed", "wires"] (defScope sBareRing) := ⟨rfl, rfl, rfl, by decide +kernel, rfl, by decide +kernel, by decide +kernel⟩
theorem inv_ivs (l : List Nat) (k : Nat) : inV (.int (k : Nat)) (ivs l) = decide (k ∈ l) := by
  unfold inV ivs
  rw [Bool.eq_iff_iff, List.any_eq_true, decide_eq_true_iff]
  constructor
  · rintro ⟨x, hx, e⟩
    obtain ⟨j, hj, rfl⟩ := List.mem_map.mp hx
    have : (j : Int) = (k : Int) := eq_of_beq (show ((j : Int) == (k : Int)) = true from e)
    have : j = k := by omega
    rw [← this]
    exact hj
  · intro h
    exact ⟨_, List.mem_map.mpr ⟨k, h, rfl⟩, beq_self_eq_true _⟩
theorem flat_ivs (l : List Nat) : (ivs l).all flatV = true := flat_ints l
abbrev DBareRing (P : Program) (w : World) (K : PySem.W.Frag) (mg : Str → Option Value) (base : Heap) := Df P w K mg base 2 "bare_ring" ["placed", "wires"] (spBareRing K)
theorem ok_bareRing {f fR : Addr} {fd fdR : FuncData} (F : Fun K "bare_ring" "bare_ring" sBareRing f fd) (hm : mg "bare_ring" = some (.ref f)) (B : Bt mg) (mn : mg "min" = none) (DR : DRingFrom P w K mg base fR fdR) : DBareRing P w K mg base f fd := by
  refine ⟨?_, hm, F.kp, F.binds fun _ _ _ _ _ _ us hl => match us, hl with | [_, _], _ => rfl⟩
  refine F.ok scBareRing (fun vs H Q E h => ?_) (fun cdv A outer s H vs Q E hr h => ?_)
  · obtain ⟨n, lo, lw, ws, ord, rfl, _⟩ := h
    rfl
  · obtain ⟨n, lo, lw, ws, ord, rfl, hlo, ⟨wv, sw, wa⟩, hw, hn, hwl, ho, ⟨e0, he0, hno⟩, q⟩ := h
    have nd := scBareRing.nd
    refine ⟨_, pss_cons (ps_set (i := 2) nd rfl (.inl rfl) pe_dnewK) <|
      pss_cons (ps_for PassesOwn.never rfl (pi_enum (by rfl) B.enum (pa_cons (pv 1) pa_nil)) (pg_tup rfl (pgs_cons (pg_name (i := 3) nd rfl (.inl rfl)) (pgs_cons (pg_tup rfl (pgs_cons (pg_name (i := 4) nd rfl (.inl rfl)) (pgs_cons (pg_name (i := 5) nd rfl (.inl rfl)) (pgs_cons (pg_name (i := 6) nd rfl (.inl rfl)) pgs_nil)))) pgs_nil))) <|
        pss_one <| ps_if (PW.pt (pw_and (pt_cmpR op_eq (pe_callB call_len_seq (by rfl) B.len PySem.boot_len (pa_cons (pv 6) pa_nil)) pe_int (nomark _)) (pw_and1 (pt_cmpR op_notIn_seq (pv 4) (pv 0) (by rfl)))))
          (pss_one (ps_dput (hu_of hr) (pv 2) (pv 5) (pe_tup (pa_cons (pv 3) (pa_cons (pv 4) pa_nil))) rfl)) pss_nil) <|
      pss_one (ps_ret (pe_revL (pe_call DR.ok hr (by rfl) DR.mg DR.kp DR.bd .nil pass0 (pa_cons (pe_callB (cr_min rfl) (by rfl) mn (by decide +kernel) (pa_cons (pe_callTy (call_list_dK rfl) (by rfl) B.list (by decide +kernel) (pa_cons (pv 2) pa_nil)) pa_nil)) (pa_cons (pv 2) pa_nil))))), ?_⟩
    have hlw : wv.length = ws.length := wa.1
    intro d hd
    have s1 : Same H (upd H d (.dK [])) := same_new hd
    refine ⟨_, rfl, lw, wv, rfl, s1.seq sw, for_it (walk_enum (K := K) (a := lw) (xs := wv)) (fun i σ H2 => ∃ (s3 s4 s5 s6 : Option V) (kvs : List (Key × V)), σ = [some (.ref lo), some (.ref lw), some (.ref d), s3, s4, s5, s6] ∧ BackD K H2 d kvs ws ord ∧ kvs.length ≤ i ∧ (∀ x ∈ ws.take i, x.2.2 = [] → x.1 ∉ ord → ∃ y ∈ kvs, y.1 = Sum.inl (x.2.1 : Int)) ∧ Same H H2)
      ⟨_, _, _, _, [], rfl, ⟨upd_same, fun x h => by cases h⟩, Nat.le_refl _, fun x h => by simp at h, s1⟩ (fun i σ H2 _ ⟨_, _, _, _, _, _, _, _, _, sm⟩ => sm.seq sw) ?_ ?_⟩
    · rintro i v σ H2 H2' hi ⟨s3, s4, s5, s6, kvs, rfl, bd, hkl, full, sm⟩ ⟨T, x1, y, rfl, hT, rfl, ex, ey⟩
      cases ex
      obtain ⟨x, hx, a, b, rfl, sq1, sq2⟩ := wa.get ey
      have hxi : i < ws.length := (List.getElem?_eq_some_iff.mp hx).1
      have smT : Same H2 (upd H2 T (.tup [.int (i : Nat), .ref a])) := same_new hT
      have eT : (upd H2 T (.tup [.int (i : Nat), .ref a])) T = some (.tup [.int (i : Nat), .ref a]) := upd_same
      have sm2 := sm.trans smT
      have bd2 := bd.same smT
      generalize upd H2 T (.tup [.int (i : Nat), .ref a]) = H3 at smT eT sm2 bd2
      have tk := TK.same sm2
      have et : ws.take (i + 1) = ws.take i ++ [x] := by rw [List.take_add_one, hx]; rfl
      have skip : (x.2.2 = [] → x.1 ∈ ord) → ∀ y ∈ ws.take (i + 1), y.2.2 = [] → y.1 ∉ ord → ∃ z ∈ kvs, z.1 = Sum.inl (y.2.1 : Int) := fun h y hy h1 h2 => by
        rw [et] at hy
        rcases List.mem_append.mp hy with hy | hy
        · exact full y hy h1 h2
        · rw [List.mem_singleton.mp hy] at h1 h2
          exact absurd (h h1) h2
      refine ⟨T, _, rfl, .inl (.inl eT), rfl, _, _, rfl, _, _, rfl, a, _, rfl, tk.seq sq1, rfl, _, _, rfl, _, _, rfl, _, _, rfl, rfl, rfl, ?_⟩
      refine ⟨_, rfl, b, _, rfl, .inr (tk.seq sq2), rfl, _, rfl, ite2 (fun e => ?_) (fun e => ?_)⟩
      · have he : x.2.2 = [] := by
          have e' : (((x.2.2.map V.int).length : Nat) : Int) = 0 := V.int.inj (of_decide_eq_true e)
          rw [List.length_map] at e'
          exact List.length_eq_zero_iff.mp (by omega)
        refine ⟨_, rfl, _, rfl, lo, _, rfl, .inl (SqL.of (sm2 _ _ hlo)), rfl, flat_ivs _, !decide (x.1 ∈ ord), ?_, ?_⟩
        · show V.bl (!inV (V.int (x.1 : Nat)) (ivs ord)) = _
          rw [inv_ivs]
        by_cases hm : x.1 ∈ ord
        · rw [decide_eq_true hm]
          exact iteF ⟨_, _, _, _, kvs, rfl, bd2, by omega, skip (fun _ => hm), sm2⟩
        · rw [decide_eq_false hm]
          refine iteT ?_
          refine ⟨_, rfl, _, rfl, (by show 2 ≤ sizeLine; decide), fun t ht => ?_⟩
          have sm3 : Same H3 (upd H3 t (.tup [.int (i : Nat), .int (x.1 : Nat)])) := same_new ht
          have et3 : (upd H3 t (.tup [.int (i : Nat), .int (x.1 : Nat)])) t = some (.tup [.int (i : Nat), .int (x.1 : Nat)]) := upd_same
          have bd3 := bd2.same sm3
          generalize upd H3 t (.tup [.int (i : Nat), .int (x.1 : Nat)]) = H4 at sm3 et3 bd3
          refine ⟨_, rfl, _, rfl, d, _, rfl, DPut.k (k := Sum.inl (x.2.1 : Int)) bd3.at_ (small1000 (by omega)), ?_⟩
          have ntd : t ≠ d := fun z => by
            rw [z, bd3.at_] at et3
            cases et3
          have smd : ∀ {u : Addr} {xs : List V}, SqT K H4 u xs → SqT K (upd H4 d (.dK (putK kvs (Sum.inl (x.2.1 : Int)) (.ref t)))) u xs := fun {u xs} h => by
            have tk4 : TK H4 (upd H4 d (.dK (putK kvs (Sum.inl (x.2.1 : Int)) (.ref t)))) := fun b o to eb => by
              rw [upd_ne (fun z => by
                rw [z, bd3.at_] at eb
                cases eb
                exact to)]
              exact eb
            exact tk4.seq h
          refine ⟨_, _, _, _, putK kvs (Sum.inl (x.2.1 : Int)) (.ref t), rfl, ⟨upd_same, fun z hz => ?_⟩, ?_, ?_, same_mut (sm2.trans sm3) hd⟩
          · rcases mem_putK hz with hz | rfl
            · obtain ⟨e, p, s, t', h1, h2, h3⟩ := bd3.mem z hz
              exact ⟨e, p, s, t', h1, smd h2, h3⟩
            · refine ⟨x.2.1, i, x.1, t, rfl, smd (SqT.of et3), ?_, hm⟩
              rw [hx, ← he]
          · have := length_putK kvs (Sum.inl (x.2.1 : Int)) (V.ref t)
            omega
          · intro y hy h1 h2
            rw [et] at hy
            rcases List.mem_append.mp hy with hy | hy
            · exact has_putK (full y hy h1 h2)
            · rw [List.mem_singleton.mp hy]
              exact new_putK
      · have he : ¬ x.2.2 = [] := fun z => by
          apply e
          rw [z]
          rfl
        exact ⟨_, _, _, _, kvs, rfl, bd2, by omega, skip (fun z => absurd z he), sm2⟩
    · rintro σ H2 ⟨s3, s4, s5, s6, kvs, rfl, bd, hkl, full, sm⟩
      rw [hlw, List.take_length] at full
      have key : ∀ e, e < n → e ∉ ord → ∃ x ∈ kvs, x.1 = Sum.inl (e : Int) := fun e he hn => by
        obtain ⟨x, hx, hb, rfl, hs⟩ := ho.back he hn
        exact full x hx hb hs
      obtain ⟨ns, hns⟩ : ∃ ns : List Nat, kvs.map (fun kv => kV kv.1) = ivs ns ∧ ∀ e ∈ ns, ∃ x ∈ kvs, x.1 = Sum.inl (e : Int) := by
        have hmem := bd.mem
        clear key full hkl bd
        induction kvs with
        | nil => exact ⟨[], rfl, fun e h => by cases h⟩
        | cons y l ih =>
          obtain ⟨ns, h1, h2⟩ := ih fun x hx => hmem x (List.mem_cons_of_mem _ hx)
          obtain ⟨e, p, s, t, rfl, _⟩ := hmem y (List.mem_cons_self ..)
          refine ⟨e :: ns, ?_, fun e' he' => ?_⟩
          · rw [List.map_cons, h1]
            rfl
          · rcases List.mem_cons.mp he' with rfl | he'
            · exact ⟨_, List.mem_cons_self .., rfl⟩
            · obtain ⟨x, hx, hx2⟩ := h2 e' he'
              exact ⟨x, List.mem_cons_of_mem _ hx, hx2⟩
      obtain ⟨hns1, hns2⟩ := hns
      refine ⟨_, rfl, d, kvs, rfl, bd.at_, fun lk hlk => ?_⟩
      have smk : Same H2 (upd H2 lk (.lst (kvs.map fun kv => kV kv.1))) := same_new hlk
      have ek : (upd H2 lk (.lst (kvs.map fun kv => kV kv.1))) lk = some (.lst (kvs.map fun kv => kV kv.1)) := upd_same
      have bd2 := bd.same smk
      generalize upd H2 lk (.lst (kvs.map fun kv => kV kv.1)) = H3 at smk ek bd2
      rw [hns1] at ek
      have ek2 : H3 lk = some (.lst ((ns.map fun i => ((i : Nat) : Int)).map V.int)) := by
        rw [ek]
        unfold ivs
        rw [List.map_map]
        rfl
      refine ⟨lk, _, rfl, SqL.of ek2, ?_, fun m hm _ => ?_⟩
      · rw [List.length_map]
        obtain ⟨x, hx, _⟩ := key e0 he0 hno
        have h1 : 0 < kvs.length := List.length_pos_of_mem hx
        have h2 := congrArg List.length hns1
        unfold ivs at h2
        rw [List.length_map, List.length_map] at h2
        omega
      obtain ⟨e, hem, rfl⟩ := List.mem_map.mp hm
      obtain ⟨z, hz, hze⟩ := hns2 e hem
      obtain ⟨p, s, t, _, _, hp, hs⟩ := bd2.get ⟨z, hz, hze⟩
      have hlt := (hw _ (List.mem_of_getElem? hp)).2
      have hno' : e ∉ ord := fun m => by
        obtain ⟨j, hj⟩ := List.getElem?_of_mem m
        have t1 := ho.top j e hj (s, e) (List.mem_map.mpr ⟨(s, e, []), List.mem_filter.mpr ⟨List.mem_of_getElem? hp, rfl⟩, rfl⟩) rfl
        exact hs (List.mem_of_mem_take t1)
      refine ⟨_, rfl, e, n, d, kvs, ws, ord, rfl, bd2, key, hw, hn, hlt, hno', fun r l H4 ring s4 hl4 e4 => ?_⟩
      refine ⟨l, _, rfl, SqL.of e4, fun lr hlr => ?_⟩
      have s14 := (sm.trans smk).trans s4
      refine q r.reverse lr _ ring (s14.trans (same_new hlr)) (s14.free hlr) ?_
      rw [upd_same]
      unfold ivs
      rw [List.map_reverse]
/-! ### check_rings, that refuses -/
theorem ok_chkRingsX {f fO fB CR fN : Addr} {fd fdO fdB fdN : FuncData} (F : Fun K "check_rings" "check_rings" sChkRings f fd) (B : Bt mg) (DO : DOrder P w K mg base fO fdO) (DB : DBareRing P w K mg base fB fdB)
    (TE : TEx K mg "NoRing" "ring" CR fN) (nrI : FnOk P w K mg base CX0 1 fN fdN ["self", "ring"] (spXI "ring" CR)) (bT : Binds K fdN ["self", "ring"] []) : FnOk P w K mg base (L2.CX P w) 3 f fd ["many_gates", "wires"] (spChkRingsX K CR) := by
  refine F.okX scChkRings (fun vs H Q E h => ?_) (fun cdv A outer s H vs Q E hr h => ?_)
  · obtain ⟨n, lw, ws, rfl, _⟩ := h
    rfl
  · obtain ⟨n, lw, ws, rfl, R, hws, hn, hwl, nr, q⟩ := h
    have nd := scChkRings.nd
    refine ⟨_, pss_cons (ps_set (i := 2) nd rfl (Or.inl rfl) (pe_call DO.ok hr (by rfl) DO.mg DO.kp DO.bd .nil pass0 (pa_cons (pv 0) (pa_cons (pv 1) pa_nil)))) <|
      pss_one <| ps_if (pt_cmpR op_lt (pe_callB call_len_seq (by rfl) B.len PySem.boot_len (pa_cons (pv 2) pa_nil)) (pv 0) (nomark _)) (pss_one (ps_raise rfl (takes_of rfl rfl rfl rfl) (pmk_oex TE.T TE.iC TE.tI nrI (hr.mono (by decide)) bT .nil pass0 (by rfl) TE.g (pa_cons (pe_call DB.ok hr (by rfl) DB.mg DB.kp DB.bd .nil pass0 (pa_cons (pv 2) (pa_cons (pv 1) pa_nil))) pa_nil)))) pss_nil, ?_⟩
    refine ⟨_, rfl, _, rfl, n, lw, ws, rfl, R, hws, hn, hwl, fun ord p H1 ho sm hp h1 => ?_⟩
    obtain ⟨hlt, hex⟩ := ho.lacks hws nr
    refine ⟨_, rfl, p, _, rfl, .inl (SqL.of h1), _, rfl, _, _, rfl, rfl, true, ?_, iteT ?_⟩
    · show V.bl (decide (((ord.map fun i => V.int (i : Nat)).length : Int) < (n : Int))) = V.bl true
      rw [decide_eq_true]
      rw [List.length_map]
      omega
    refine ⟨_, rfl, _, rfl, n, p, lw, ws, ord, rfl, h1, R.same sm, hws, hn, hwl, ho, hex, fun r l H2 ring s2 hl2 e2 => ?_⟩
    refine ⟨(by show 1 ≤ 1000; decide), fun a ha => ⟨a, _, rfl, upd_same, fun dx hdx ne => ⟨rfl, dx, _, upd_same, by rw [upd_ne ne, upd_same], ?_, ?_⟩⟩⟩
    · rw [upd_ne ne] at hdx
      exact hdx
    · rw [mk_heap ha ne]
      rw [upd_ne ne] at hdx
      exact q r l dx H2 ring (sm.trans s2) (sm.free hl2) e2 hdx
end
end Lag

set_option maxRecDepth 100000
set_option maxHeartbeats 8000000
namespace Lag
open PySem PySem.Spec PyProof.Rows L2
/-- all that a net keeps to but the registers of its rings -/
structure NetOkW (gs : List Gt) (ws : List Wr) : Prop where
  ne : gs ≠ []
  gl : gs.length ≤ 100
  wl : ws.length ≤ 900
  gok : ∀ g ∈ gs, GOk g
  wok : ∀ x ∈ ws, WOk gs x
  one : ∀ e, e < gs.length → kindAt gs e = "out" → cnt ws e = 1
  some : ∀ e, e < gs.length → kindAt gs e = "first" → 1 ≤ cnt ws e
theorem NetOkW.net {gs : List Gt} {ws : List Wr} (N : NetOkW gs ws) (r : Ranked ws) : NetOk gs ws := ⟨N.ne, N.gl, by have := N.wl; omega, N.gok, N.wok, N.one, N.some, r⟩
def spChkWiresW (K : PySem.W.Frag) : Sp := fun vs H Q _ => ∃ (lg lw : Addr) (gs : List Gt) (ws : List Wr), vs = [.ref lg, .ref lw] ∧ RG K H lg gs ∧ RW K H lw ws ∧ NetOkW gs ws ∧ ∀ H', Same H H' → Q .non H'
/-- Net of gates and wires among which a ring has no registers -/
def spInitR (K : PySem.W.Frag) (CR : Addr) : Sp := fun vs H Q E => ∃ (p lg lw : Addr) (gs : List Gt) (ws : List Wr), vs = [.ref p, .ref lg, .ref lw] ∧ RG K H lg gs ∧ RW K H lw ws ∧ NetOkW gs ws ∧ ¬ Ranked ws ∧
  ∀ (r : List Nat) (l dx : Addr) (H' : Hp), IsRing ws r → Same H H' → H l = none → H' l = some (.lst (ivs r)) → H' dx = none → E (.ref CR) (some dx) (upd H' dx (.xd [(("ring" : Str), .ref l)]))
section
variable {P : Program} {w : World} {K : PySem.W.Frag} {mg : Str → Option Value} {base : Heap}
theorem ok_chkWiresW {f fW fT aK aW aF : Addr} {fd fdW fdT : FuncData} (F : Fun K "check_wires" "check_wires" sChkWires f fd) (B : Bt mg) (C : Cns K mg aK aW aF) (DW : DIsWire P w K mg base fW fdW) (DT : DTaken P w K mg base fT fdT) : FnOk P w K mg base CX0 5 f fd ["gates", "wires"] (spChkWiresW K) := by
  refine F.ok scChkWires (fun vs H Q E h => ?_) (fun cdv A outer s H vs Q E hr h => ?_)
  · obtain ⟨lg, lw, gs, ws, rfl, _⟩ := h
    rfl
  · obtain ⟨lg, lw, gs, ws, rfl, RGs, ⟨wv, sw, wa⟩, N, q⟩ := h
    have nd := scChkWires.nd
    have hr1 : Room 1 _ := hr.mono (by decide)
    refine ⟨_, pss_cons (ps_if (pt_not (pt_val (pe_callB call_isi (by rfl) B.isi (by decide +kernel) (pa_cons (pv 1) (pa_cons (pe_bltn (v := .ty "list") (by rfl) B.list (by decide +kernel) rfl) pa_nil))))) (pss_one ps_never) pss_nil) <|
      pss_cons (ps_set (i := 2) nd rfl (Or.inl rfl) (pe_op op_rep (pe_lst (pa_cons pe_int pa_nil)) (pe_callB call_len_seq (by rfl) B.len PySem.boot_len (pa_cons (pv 0) pa_nil)))) <|
      pss_cons (ps_for PassesOwn.never rfl (pi_enum (by rfl) B.enum (pa_cons (pv 1) pa_nil)) (pg_tup rfl (pgs_cons (pg_name (i := 3) nd rfl (Or.inl rfl)) (pgs_cons (pg_name (i := 4) nd rfl (Or.inl rfl)) pgs_nil))) <|
        pss_cons (ps_if (PW.pt (pw_or (pt_not (pt_val (pe_call DW.ok hr (by rfl) DW.mg DW.kp DW.bd .nil pass0 (pa_cons (pv 4) (pa_cons (pe_callB call_len_seq (by rfl) B.len PySem.boot_len (pa_cons (pv 0) pa_nil)) pa_nil)))))
            (pw_or1 (pt_not (pt_val (pe_call DT.ok hr1 (by rfl) DT.mg DT.kp DT.bd .nil pass0 (pa_cons (pv 4) (pa_cons (pv 0) (pa_cons (pv 2) pa_nil))))))))) (pss_one ps_never) pss_nil) <|
        pss_one <| ps_augS (pv 2) (pe_ix ix_tup (pv 4) pe_int (fun _ _ => rfl)) get_list pe_int ip_add set_list) <|
      pss_one <| ps_for PassesOwn.never rfl (pi_zip (by rfl) B.zip (pa_cons (pv 0) (pa_cons (pv 2) pa_nil))) (pg_tup rfl (pgs_cons (pg_name (i := 5) nd rfl (Or.inl rfl)) (pgs_cons (pg_name (i := 6) nd rfl (Or.inl rfl)) pgs_nil))) <|
        pss_one <| ps_if (PW.pt (pw_and (pt_cmpR op_in_seq (pe_ix ix_tup (pv 5) pe_int (fun _ _ => rfl)) (pe_glob (v := .ref aF) (by rfl) C.mF rfl) (by rfl)) (pw_and1 (pt_cmpR op_eq (pv 6) pe_int (nomark _))))) (pss_one ps_never) pss_nil, ?_⟩
    obtain ⟨gv, sg, ga⟩ := id RGs
    have hlg : gv.length = gs.length := ga.1
    have hlw : wv.length = ws.length := wa.1
    have hgl := N.gl
    refine ⟨_, rfl, _, _, _, _, true, rfl, .ty "list", ty_lst sw, kit_ty (by decide +kernel), true, rfl, iteF ?_⟩
    refine ⟨(by show 1 ≤ sizeLine; decide), fun l0 hl0 => ?_⟩
    refine ⟨_, rfl, lg, gv, rfl, .inl ((same_new hl0).seq sg), ?_⟩
    refine ⟨l0, _, _, rfl, rfl, upd_same, by omega, by omega, ?_, fun lc hlc => ?_⟩
    · show 1 * _ ≤ sizeLine
      have : 1 * ((gv.length : Int)).toNat ≤ 1000 := by omega
      exact Nat.le_of_lt (small1000 this)
    have sm0 : Same H (upd H l0 (.lst [.int 0])) := same_new hl0
    have hlc0 : H lc = none := sm0.free hlc
    have e0 : (List.replicate ((gv.length : Int)).toNat [V.int 0]).flatten = (cntL gs.length (ws.take 0)).map fun i => V.int (i : Nat) := by
      rw [List.take_zero, cntL_nil, List.map_replicate, ← hlg, Int.toNat_natCast]
      generalize gv.length = n
      induction n with
      | zero => rfl
      | succ n ih =>
        rw [List.replicate_succ, List.flatten_cons, ih, List.replicate_succ]
        rfl
    rw [e0]
    -- for place, thing in enumerate(wires)
    refine ⟨_, rfl, lw, wv, rfl, (sm0.trans (same_new hlc)).seq sw, for_it (walk_enum (K := K) (a := lw) (xs := wv)) (fun i σ H2 => ∃ s3 s4 : Option V, σ = [some (.ref lg), some (.ref lw), some (.ref lc), s3, s4, none, none] ∧
        H2 lc = some (.lst ((cntL gs.length (ws.take i)).map fun i => V.int (i : Nat))) ∧ Same H H2)
      ⟨_, _, rfl, upd_same, sm0.trans (same_new hlc)⟩ (fun i σ H2 _ ⟨_, _, _, _, sm⟩ => sm.seq sw) ?_ ?_⟩
    · rintro i v σ H2 H2' hi ⟨s3, s4, rfl, hc, sm⟩ ⟨T, x1, y, rfl, hT, rfl, ex, ey⟩
      cases ex
      obtain ⟨x, hx, wx⟩ := wa.get ey
      have W := N.wok x (List.mem_of_getElem? hx)
      have hxi : i < ws.length := (List.getElem?_eq_some_iff.mp hx).1
      have smT : Same H2 (upd H2 T (.tup [.int (i : Nat), y])) := same_new hT
      have sm2 := sm.trans smT
      refine ⟨T, _, rfl, .inl (.inl upd_same), rfl, _, _, rfl, _, _, rfl, rfl, ?_⟩
      refine ⟨_, rfl, _, rfl, lg, gv, rfl, .inl (sm2.seq sg), y, x, gv.length, rfl, wx.tk (TK.same sm2), by rw [hlg]; exact W.s, by rw [hlg]; exact W.e, W.r, by have := W.rl; omega, fun H3 sm3 => ⟨true, rfl, iteF ?_⟩⟩
      have sm4 := sm2.trans sm3
      have hc3 := sm3 _ _ (smT _ _ hc)
      refine ⟨_, rfl, _, rfl, _, rfl, y, x, lg, lc, gs, cntL gs.length (ws.take i), rfl, wx.tk (TK.same sm4), RGs.same sm4, SqL.of hc3, W, cntL_len _ _, fun hk => ?_, true, rfl, iteF ?_⟩
      · rw [cntL_get W.e]
        have h1 := N.one _ W.e hk
        have h2 := cnt_take_lt hx
        congr 1
        omega
      obtain ⟨a, b, rfl, sq1, sq2⟩ := wx
      have hlen : x.2.1 < (cntL gs.length (ws.take i)).length := by rw [cntL_len]; exact W.e
      refine ⟨_, rfl, _, rfl, a, _, 1, _, rfl, rfl, (TK.same sm4).seq sq1, atI_nat (j := 1) rfl, lc, _, x.2.1, .int (cnt (ws.take i) x.2.1 : Nat), rfl, rfl, SqL.of hc3, by rw [List.getElem?_map, cntL_get W.e]; rfl, _, _, rfl, rfl, lc, _, _, x.2.1, rfl, rfl, hc3, Evl.ixN_nat (by rw [List.length_map]; exact hlen), ?_⟩
      refine ⟨_, _, rfl, ?_, same_mut sm4 hlc0⟩
      have et : ws.take (i + 1) = ws.take i ++ [x] := by rw [List.take_add_one, hx]; rfl
      rw [upd_same, et, ← cntL_app W.e, ← map_set']
      rfl
    · rintro σ H2 ⟨s3, s4, rfl, hc, sm⟩
      rw [hlw, List.take_length] at hc
      -- for gate, many in zip(gates, come)
      refine ⟨_, rfl, _, rfl, lg, lc, gv, _, rfl, sm.seq sg, SqL.of hc, RZ.for_zipL (K := K) (a := lg) (b := lc) (xs := gv) (by rw [List.length_map, cntL_len]; exact hlg) (fun i σ H3 => ∃ s5 s6 : Option V, σ = [some (.ref lg), some (.ref lw), some (.ref lc), s3, s4, s5, s6] ∧ Same H2 H3)
        ⟨_, _, rfl, Same.refl H2⟩ (fun i σ H3 ⟨_, _, _, sm3⟩ => ⟨(sm.trans sm3).seq sg, SqL.of (sm3 _ _ hc)⟩) ?_ ?_⟩
      · rintro i x y T σ H3 hx hy ⟨s5, s6, rfl, sm3⟩ hT
        obtain ⟨g, hg, a, rfl, sq⟩ := ga.get hx
        have hgi : i < gs.length := (List.getElem?_eq_some_iff.mp hg).1
        rw [List.getElem?_map, cntL_get hgi] at hy
        cases hy
        have sm4 : Same H (upd H3 T (.tup [.ref a, .int (cnt ws i : Nat)])) := (sm.trans sm3).trans (same_new hT)
        refine ⟨T, _, rfl, .inl (.inl upd_same), rfl, _, _, rfl, _, _, rfl, rfl, ?_⟩
        refine ⟨_, rfl, a, _, 0, _, rfl, rfl, (TK.same sm4).seq sq, atI_nat (j := 0) rfl, aF, _, rfl, .inr (C.sF _), rfl, rfl, _, rfl, ite2 (fun e => ?_) (fun e => ?_)⟩
        · have e' : inV (V.str g.1) [V.str "out", V.str "first"] = true := e
          have hpos : 1 ≤ cnt ws i := by
            unfold inV at e'
            rw [List.any_eq_true] at e'
            obtain ⟨x, hx, hxe⟩ := e'
            simp only [List.mem_cons, List.not_mem_nil, or_false] at hx
            rcases hx with rfl | rfl
            · have := N.one i hgi (by rw [kindAt_get hg]; exact (eq_of_beq hxe).symm)
              omega
            · exact N.some i hgi (by rw [kindAt_get hg]; exact (eq_of_beq hxe).symm)
          refine ⟨_, rfl, rfl, false, ?_, iteF ⟨_, _, rfl, sm3.trans (same_new hT)⟩⟩
          show V.bl (decide (V.int (cnt ws i : Int) = V.int 0)) = V.bl false
          rw [decide_eq_false]
          intro z
          have := V.int.inj z
          omega
        · exact iteF ⟨_, _, rfl, sm3.trans (same_new hT)⟩
      · rintro σ H3 ⟨s5, s6, rfl, sm3⟩
        exact q H3 (sm.trans sm3)
theorem ok_initR {f fG fW fR CR : Addr} {fd fdG fdW fdR : FuncData} (F : Fun K "__init__" "Net.__init__" sInit f fd) (B : Bt mg) (DG : DChkGates P w K mg base fG fdG) (DW : DChkWires P w K mg base fW fdW) (DWW : FnOk P w K mg base CX0 5 fW fdW ["gates", "wires"] (spChkWiresW K)) (DR : DChkRings P w K mg base fR fdR) (DRX : FnOk P w K mg base (L2.CX P w) 3 fR fdR ["many_gates", "wires"] (spChkRingsX K CR)) :
    FnOk P w K mg base (L2.CX P w) 6 f fd ["self", "gates", "wires"] (spInitR K CR) := by
  refine F.okX scInit (fun vs H Q E h => ?_) (fun cdv A outer s H vs Q E hr h => ?_)
  · obtain ⟨p, lg, lw, gs, ws, rfl, _⟩ := h
    rfl
  · obtain ⟨p, lg, lw, gs, ws, rfl, RGs, RWs, N, nr, q⟩ := h
    have nd := scInit.nd
    refine ⟨_, pss_cons (ps_expr (pe_call DG.ok (hr.mono (by decide)) (by rfl) DG.mg DG.kp DG.bd .nil pass0 (pa_cons (pv 1) pa_nil))) <|
      pss_cons (ps_expr (pe_call DWW (hr.mono (by decide)) (by rfl) DW.mg DW.kp DW.bd .nil pass0 (pa_cons (pv 1) (pa_cons (pv 2) pa_nil)))) <|
      pss_cons (ps_expr (pe_callS DRX (hr.mono (by decide)) (by rfl) DR.mg DR.kp DR.bd (fun σ => passAt (takes_of rfl rfl rfl rfl) σ) (pa_cons (pe_callB call_len_seq (by rfl) B.len PySem.boot_len (pa_cons (pv 1) pa_nil)) (pa_cons (pv 2) pa_nil)))) <|
      pss_cons ps_never <| pss_one ps_never, ?_⟩
    refine ⟨_, rfl, lg, gs, rfl, RGs, N.ne, N.gok, fun H1 sm1 => ?_⟩
    refine ⟨_, rfl, _, rfl, lg, lw, gs, ws, rfl, RGs.same sm1, RWs.same sm1, N, fun H2 sm2 => ?_⟩
    have s2 := sm1.trans sm2
    obtain ⟨gv, sg, ga⟩ := RGs.same s2
    have hlg : gv.length = gs.length := ga.1
    refine ⟨_, rfl, lg, gv, rfl, .inl sg, _, rfl, gv.length, lw, ws, rfl, RWs.same s2, fun x hx => ?_, by have := N.gl; omega, by have := N.wl; omega, nr, fun r l dx H3 ring sm3 hl e3 hdx => q r l dx H3 ring (s2.trans sm3) (s2.free hl) e3 hdx⟩
    rw [hlg]
    exact ⟨(N.wok x hx).s, (N.wok x hx).e⟩
end
end Lag

set_option maxRecDepth 100000
set_option maxHeartbeats 4000000
/-! ### try with several except clauses, each with a name or without -/
namespace L2
open PySem PySem.Spec PyProof.Rows
/-- a clause: the class that it names, the slot of its own name, what its suite does -/
structure Cl where
  c : Value
  i : Option Nat
  ts : Addr → Value → Option Addr → TS
/-- behind the suite the clause's own name is gone -/
def Cl.ends (k : Cl) (D : Ends) : Ends := match k.i with
  | none => D
  | some i => ⟨fun s h => D.nx (s.set i none) h, D.rt, fun s h => D.bk (s.set i none) h, fun s h => D.ct (s.set i none) h⟩
def Cl.in_ (k : Cl) (a : Addr) (σ : St) : St := match k.i with
  | none => σ
  | some i => σ.set i (some (.ref a))
def wCls (K : PySem.W.Frag) (Wo : WX) (D : Ends) : List Cl → WX
  | [] => Wo
  | k :: l => fun cls d σ H => ∃ b : Bool, PySem.W.exmOne K cls k.c = some b ∧ (b = true → ∀ a, H a = none → k.ts a cls d (k.ends D) (k.in_ a σ) H) ∧ (b = false → wCls K Wo D l cls d σ H)
inductive ClsOk (X : Cx) : List ExceptHandler → List Cl → Prop
  | nil : ClsOk X [] []
  | bare {x : Str} {c : Value} {ts : Addr → Value → Option Addr → TS} {b1 : Stmt} {ss : List Stmt} {p1 p2 : Pos} {hs : List ExceptHandler} {l : List Cl} (hc : Names X x c)
      (su : ∀ (a : Addr) (oe : Obj) (cls : Value) (d : Option Addr) (pn : List (Addr × Obj)), Zc cls d oe → (∃ vs, oe.data = .fields vs) → PSs (X.suite a ((a, oe) :: pn)) (b1 :: ss) (ts a cls d)) (r : ClsOk X hs l) :
      ClsOk X (.ExceptHandler (some (.Name x p1)) none (b1 :: ss) p2 :: hs) (⟨c, none, ts⟩ :: l)
  | named {x n : Str} {c : Value} {i : Nat} {ts : Addr → Value → Option Addr → TS} {b1 : Stmt} {ss : List Stmt} {p1 p2 : Pos} {hs : List ExceptHandler} {l : List Cl} (hi : X.N[i]? = some n) (hl : X.env.kindOf n = some .local) (hc : Names X x c)
      (su : ∀ (a : Addr) (oe : Obj) (cls : Value) (d : Option Addr) (pn : List (Addr × Obj)), Zc cls d oe → (∃ vs, oe.data = .fields vs) → PSs (X.suite a ((a, oe) :: pn)) (b1 :: ss) (ts a cls d)) (r : ClsOk X hs l) :
      ClsOk X (.ExceptHandler (some (.Name x p1)) (some n) (b1 :: ss) p2 :: hs) (⟨c, some i, ts⟩ :: l)
section
variable {X : Cx} {body : List Stmt} {h0 : ExceptHandler} {hs : List ExceptHandler} {l : List Cl} {pos : Pos} {tb : WX → TS} {Wo : WX}
theorem ps_try_cls (hst : X.stack = X.env :: X.outer) (hfr : X.env.frame = some X.env.locals) (hN : X.N.Nodup) (tk : Takes X Wo)
    (hb : ∀ (W : WX) (pn : List (Addr × Obj)) (xe : Value → Shared → Prop), Takes (X.tr pn xe) W → PassesOwn (model X.prog X.w) X.A X.env xe → PSs (X.tr pn xe) body (tb W))
    (hh : ClsOk X (h0 :: hs) l) : PS X (.Try body (h0 :: hs) [] [] pos) (fun D σ H => tb (wCls X.K Wo D l) D σ H) := by
  constructor
  intro pins s σ H D I h
  have ok := I.ok
  have frs0 : X.A.frames = some (X.env :: X.outer) := hst ▸ ok.frames
  refine wpAny_Try_except (wpAny_mono ((hb (wCls X.K Wo D l) (X.pn ++ pins)
    (fun e t1 => wpAny (model X.prog X.w) X.A (noteFrame e X.env)
      (fun _ t2 => wpAny (model X.prog X.w) X.A (setFlight e none)
        (fun _ t3 => wpAny (model X.prog X.w) X.A (handleBy e X.env (h0 :: hs)) (SP X pins D) X.xe t3) X.xe t2) X.xe t1)
    ?_ PassesOwn.looking).run [] s σ H D (I.toTry _) h) ?_ fun e t1 he => he)
  · intro u t xx
    have goal : wpAny (model X.prog X.w) X.A (noteFrame u X.env) (fun _ t2 => wpAny (model X.prog X.w) X.A (setFlight u none) (fun _ t3 => wpAny (model X.prog X.w) X.A (handleBy u X.env (h0 :: hs)) (SP X pins D) X.xe t3) X.xe t2) X.xe t := by
      obtain ⟨a, B, sI, pins', σ', H', cls, d, rfl, J0, nb, up, sky0, na, os, ag, w⟩ := xx
      have J : Inv X pins σ' H' sI := J0.ofTry ok
      have sky : Sky B (X.env :: X.outer) a (Zc cls d) X.env.locals t.heap := hst ▸ sky0
      refine Sky.land Zc.steady frs0 hfr sky fun h3 fl3 up3 => ?_
      have J3 : Inv X pins σ' H' { t with heap := h3 } := J.landed nb fl3.1 (up.trans up3) os ag
      obtain ⟨oe, vs, he, hz, hd⟩ := fl3.there
      have off : a ∉ frs (X.env :: X.outer) := fun hm => by
        obtain ⟨_, o', e', no⟩ := fl3.2.2.1.mem hm
        rw [he] at e'
        cases e'
        exact no _ hd
      have offL : a ≠ X.env.locals := fun z => off (List.mem_filterMap.mpr ⟨X.env, by simp, by rw [hfr, z]⟩)
      have offF : a ∉ X.fs := fun hm => by
        obtain ⟨e, hm2, q⟩ := List.mem_filterMap.mp hm
        exact off (List.mem_filterMap.mpr ⟨e, List.mem_cons_of_mem _ hm2, q⟩)
      have S3 := J3.suite he hd na offL offF
      -- is it of the class that is named
      suffices go : ∀ {hs' : List ExceptHandler} {l' : List Cl}, ClsOk X hs' l' → wCls X.K Wo D l' cls d σ' H' → wpAny (model X.prog X.w) X.A (handleBy (.ref a) X.env hs') (SP X pins D) X.xe { t with heap := h3 } from go hh w
      have typ : PySem.W.Looks (model X.prog X.w) h3 (typeOf (.ref a)) cls := by
        intro A Q E s k q
        exact wpAny_typeOf_ref (k _ _ he) (by rw [hz.1]; exact q)
      have nm : ∀ {x : Str} {c : Value} {p1 : Pos} {Q E : Value → Shared → Prop}, Names X x c → Q c { t with heap := h3 } → wpAny (model X.prog X.w) (X.A.mark (some (.ref a))) (eval (.Name x p1) X.env) Q E { t with heap := h3 } := by
        intro x c p1 Q E hc q
        rcases hc with ⟨g1, g2, g3 | ⟨g3, g4, g5⟩⟩
        · exact ld_glob (X := X.suite a ((a, oe) :: (X.pn ++ pins))) S3 g1 g3 q g2
        · exact ld_blt (X := X.suite a ((a, oe) :: (X.pn ++ pins))) S3 g1 g3 g4 q g5 g2
      intro hs' l' ck
      induction ck with
      | nil =>
        intro w
        apply wpAny_handleBy_nil
        obtain ⟨_, _, _, ob, us, T, oT, ts', g1, _, g3, g4, _⟩ := id fl3
        unfold PySem.passOn
        refine wpAny_bind (wpAny_field g1 g3 g4 ?_)
        have nn : ¬ ((Value.ref T == Value.none) = true) := by simp
        rw [if_neg nn]
        have out : wpAny (model X.prog X.w) X.A (setFlight (.ref a) X.env.frame) (fun _ t4 => wpAny (model X.prog X.w) X.A (throw (.ref a) : Sem Flow) (SP X pins D) X.xe t4) X.xe { t with heap := h3 } := by
          rw [hfr]
          refine HandSPX.setFlight_upZ fl3 fun h4 hh4 up4 => wpAny_throw (tk _ _ ?_)
          exact ⟨a, B, sI, pins, σ', H', cls, d, rfl, J, nb, (up.trans up3).trans up4, .inr (.inr (hst ▸ hh4)), na, os, ag, w⟩
        first
          | exact wpAny_bind (wpAny_pure (wpAny_bind out))
          | exact wpAny_bind out
      | bare hc su r ih =>
        rintro ⟨b, eb, yes, no⟩
        refine wpAny_handleBy_cons (codeAny_handlers_test (nm hc ((PySem.W.exm_one (M := model X.prog X.w) J3.kIn typ eb).here ?_))) (fun q => by cases q)
        cases b
        · exact ih (no rfl)
        · refine codeAny_handlers_suite (HandSPX.lands_againZ fl3 fun h4 fl4 up4 => ?_)
          have J4 : Inv X pins σ' H' { t with heap := h4 } := J.landed nb fl4.1 ((up.trans up3).trans up4) os ag
          obtain ⟨o4, v4, he4, hz4, hd4⟩ := fl4.there
          have S4 := J4.suite he4 hd4 na offL offF
          refine wpAny_mono ((su a o4 cls d (X.pn ++ pins) hz4 ⟨_, hd4⟩).run [] _ _ H' _ S4 (yes rfl a na)) (fun f t6 hp => ?_) (fun _ _ z => False.elim z)
          cases f
          case next => exact ⟨_, _, hp.choose_spec.choose_spec.1.unsuite ok, hp.choose_spec.choose_spec.2⟩
          case brk => exact ⟨_, _, hp.choose_spec.choose_spec.1.unsuite ok, hp.choose_spec.choose_spec.2⟩
          case cont => exact ⟨_, _, hp.choose_spec.choose_spec.1.unsuite ok, hp.choose_spec.choose_spec.2⟩
          case ret u =>
            obtain ⟨v6, σ6, H6, S6, r6, q6⟩ := hp
            exact ⟨v6, σ6, H6, S6.unsuite ok, r6, q6⟩
      | @named x n c i ts b1 ss p1 p2 hs2 l2 hi hl hc su r ih =>
        rintro ⟨b, eb, yes, no⟩
        refine wpAny_handleBy_cons (codeAny_handlers_test (nm hc ((PySem.W.exm_one (M := model X.prog X.w) J3.kIn typ eb).here ?_))) (fun q => by cases q)
        cases b
        · exact ih (no rfl)
        · refine codeAny_handlers_suite_as (HandSPX.lands_againZ fl3 fun h4 fl4 up4 => ?_)
          have J4 : Inv X pins σ' H' { t with heap := h4 } := J.landed nb fl4.1 ((up.trans up3).trans up4) os ag
          obtain ⟨o4, v4, he4, hz4, hd4⟩ := fl4.there
          have S4 := J4.suite he4 hd4 na offL offF
          refine store_ok (X := X.suite a ((a, o4) :: (X.pn ++ pins))) (v := .ref a) S4 hN hi (.inl hl) rfl (fun t5 S5 => ?_) (.inr hl)
          refine wpAny_mono ((su a o4 cls d (X.pn ++ pins) hz4 ⟨_, hd4⟩).run [] t5 _ H' _ S5 (yes rfl a na)) (fun f t6 hp => ?_) (fun _ _ z => False.elim z)
          have gone : ∀ {σ6 : St} {H6 : Hp} {Q : Shared → Prop}, Inv (X.suite a ((a, o4) :: (X.pn ++ pins))) [] σ6 H6 t6 → (∀ t7, Inv X pins (σ6.set i none) H6 t7 → Q t7) →
              wpAny (model X.prog X.w) X.A (do bindName X.env n .none; unbindBehindTheSuite X.env n p2) (fun _ t7 => Q t7) X.xe t6 := by
            intro σ6 H6 Q S6 hq
            exact gone_ok (S6.unsuite ok) hN hi hl hq
          cases f
          case next =>
            obtain ⟨σ6, H6, S6, q6⟩ := hp
            exact gone S6 fun t7 J7 => ⟨_, _, J7, q6⟩
          case brk =>
            obtain ⟨σ6, H6, S6, q6⟩ := hp
            exact gone S6 fun t7 J7 => ⟨_, _, J7, q6⟩
          case cont =>
            obtain ⟨σ6, H6, S6, q6⟩ := hp
            exact gone S6 fun t7 J7 => ⟨_, _, J7, q6⟩
          case ret u =>
            obtain ⟨v6, σ6, H6, S6, r6, q6⟩ := hp
            exact gone S6 fun t7 J7 => ⟨_, _, _, J7, r6, q6⟩
    exact goal
  · intro f t1 hp
    cases f
    case next =>
      obtain ⟨σ', H', J', q⟩ := hp
      exact wpAny_execs_nil ⟨σ', H', J'.ofTry ok, q⟩
    case brk =>
      obtain ⟨σ', H', J', q⟩ := hp
      exact ⟨σ', H', J'.ofTry ok, q⟩
    case cont =>
      obtain ⟨σ', H', J', q⟩ := hp
      exact ⟨σ', H', J'.ofTry ok, q⟩
    case ret u =>
      obtain ⟨v, σ', H', J', r, q⟩ := hp
      exact ⟨v, σ', H', J'.ofTry ok, r, q⟩
end
end L2


set_option maxRecDepth 100000
set_option maxHeartbeats 4000000
/-! ### isinstance of a caught error that has fields of its own, and of several classes at once -/
namespace PySem.W
open PySem PySem.Spec PySem.Calls PyProof.Rows
section
variable {prog : Program} {w : World} {A : Around} {E : Value → Shared → Prop} {s : Shared} {K : Frag} {x D : Addr} {ox : Obj} {od : Option Obj}
theorem cls_found {D : Addr} {a g : Value} {n : Str} (hd : hasDictIn K D = true) (h1 : findIn K (.ref D) n = some (some a)) (h2 : specialIn K a "__get__" = some (some g)) (h3 : takesIn K a = some true) : findObj K D od n = some (.bind g a) := by
  obtain ⟨cd, hc, _⟩ := any_some hd
  unfold findObj
  rw [hc, Option.bind_some, h1, Option.bind_some]
  simp [h2, h3]
theorem cls_of_exc {Q : Option Value → Shared → Prop} (C1 : findIn K (.ref D) "__getattribute__" = some (some (.builtin "BaseException.__getattribute__"))) (C2 : findIn K (.ref D) "__getattr__" = some none) (C3 : subIn K (.ref D) (.type "BaseException") = some true)
    (C4 : hasDictIn K D = true) (C5 : findIn K (.ref D) "__class__" = some (some (.builtin "object.__class__"))) (C6 : specialIn K (.builtin "object.__class__") "__get__" = some (some (.builtin "getset_descriptor.__get__"))) (C7 : takesIn K (.builtin "object.__class__") = some true) (C8 : mroIn K D (.type "object") = some true)
    (X : K.In s.heap) (I : InstAt s.heap x ox D od) (h : Q (some (.ref D)) { s with toks := s.toks + 1 }) : wpAny (model prog w) A (getAttr? (.ref x) "__class__") Q E s := by
  have fnd := cls_found (od := od) C4 C5 C6 C7
  obtain ⟨hp, g, d, t, os⟩ := s
  have t0 := I.type (M := model prog w)
  have t1 := looks_findIn (M := model prog w) X C1
  have t2 := looks_findIn (M := model prog w) X C2
  have t3 := looks_find (M := model prog w) X I fnd
  have isE : Looks (model prog w) hp (isInstance (.ref x) (.type "BaseException")) true := t0.andThen (looks_subIn X C3)
  have own : (Value.builtin "BaseException.__getattribute__" == Value.builtin "object.__getattribute__") = false := by decide +kernel
  have q1 : (onTheHeap (Value.ref D) && Value.builtin "BaseException.__getattribute__" == Value.builtin "object.__getattribute__") = false := by rw [own]; rfl
  unfold getAttr? getAttrBy? getAttrBy
  refine wpAny_bind (wpAny_mkText (wpAny_bind (wpAny_attempt (wpAny_holding (wpAny_bind (t0.at (wpAny_bind (t1.at ?_))))))))
  show wpAny _ _ (if (onTheHeap (Value.ref D) && Value.builtin "BaseException.__getattribute__" == Value.builtin "object.__getattribute__") = true then _ else _) _ _ _
  rw [q1, if_neg Bool.false_ne_true]
  unfold getAttrByItsOwn hookBefore
  refine wpAny_bind ?_
  rw [if_pos (show onTheHeap (Value.ref D) = true from rfl)]
  refine t2.at (wpAny_bind (wpAny_attempt (wpAny_holding ?_)))
  unfold callGetattribute
  rw [show (false && onTheHeap (Value.builtin "BaseException.__getattribute__")) = false from rfl, if_neg Bool.false_ne_true]
  unfold boundAndCalled
  rw [PySem.F.excAttr_ValueError.ga.bind (.ref x)]
  refine wpAny_bind (wpAny_pure ?_)
  show wpAny _ _ (call (.builtin "BaseException.__getattribute__") [.ref x, .str "__class__" t]) _ _ _
  refine wpAny_call (codeAny_call_builtin PySem.F.excAttr_ValueError.ga.plain PySem.F.entry_bexc_ga ?_)
  refine @check_slot (model prog w) _ _ ⟨hp, g, d, t + 1, os⟩ "BaseException.__getattribute__" "BaseException" "__getattribute__" (.ref x) [.str "__class__" t] [] _ (by decide +kernel) (by decide +kernel) isE (PySem.F.args_bexc_ga (.ref x) (.str "__class__" t)) ?_
  unfold Builtin.«object.__getattribute__»
  refine wpAny_bind (wpAny_of_eq (a := ((Value.ref x : Value), [Value.str "__class__" t])) (by first | rfl | (simp only [slotArgs]; rfl)) ?_)
  refine wpAny_bind (wpAny_pure (wpAny_bind (t0.at (wpAny_bind (t3.at ?_)))))
  show wpAny _ _ (holding [Value.builtin "object.__class__"] (call (.builtin "getset_descriptor.__get__") [.builtin "object.__class__", .ref x, .ref D]) >>= ret) _ _ _
  refine wpAny_bind (wpAny_holding (wpAny_call (class_get (s := ⟨hp, g, d, t + 1, os⟩) (ox := ox) (od := od) X I C8 ?_)))
  refine wpAny_pure ?_
  show wpAny _ _ (handedOut (.ref D)) _ _ _
  rw [handedOut_of (v := .ref D) rfl]
  first
    | exact wpAny_pure (wpAny_pure h)
    | exact wpAny_pure h
    | exact wpAny_pure (wpAny_bind (wpAny_pure (wpAny_pure h)))
theorem kitD (C1 : findIn K (.ref D) "__getattribute__" = some (some (.builtin "BaseException.__getattribute__"))) (C2 : findIn K (.ref D) "__getattr__" = some none) (C3 : subIn K (.ref D) (.type "BaseException") = some true)
    (C4 : hasDictIn K D = true) (C5 : findIn K (.ref D) "__class__" = some (some (.builtin "object.__class__"))) (C6 : specialIn K (.builtin "object.__class__") "__get__" = some (some (.builtin "getset_descriptor.__get__"))) (C7 : takesIn K (.builtin "object.__class__") = some true) (C8 : mroIn K D (.type "object") = some true) :
    KitX K (.ref x) (.ref D) (fun h => InstAt h x ox D od) := by
  have isC : ∃ c d cd sl, K.lookup D = some ⟨c, d, .cls cd, sl⟩ := by
    obtain ⟨cd, hc, _⟩ := any_some C4
    unfold clsIn at hc
    split at hc
    · exact ⟨_, _, _, _, by assumption⟩
    · cases hc
  obtain ⟨c, d, cd, sl, ho⟩ := isC
  refine ⟨fun _ _ _ I => I.type, fun M h X _ => ?_, fun h tp dd its n sl' X htp => ?_, fun X I k => cls_of_exc C1 C2 C3 C4 C5 C6 C7 C8 X I k⟩
  · intro A' Q' E' s' k q
    unfold isType loadHead
    exact wpAny_bind (wpAny_loadPart (k _ _ (X _ _ ho)) (wpAny_pure q))
  · refine Bool.eq_false_iff.mpr fun q => ?_
    have e : D = tp := Value.ref.inj (beq_iff_eq.mp q)
    rw [← e, X _ _ ho] at htp
    cases htp
end
end PySem.W
namespace L2
open PySem PySem.Spec PyProof.Rows
/-- the fields of the error, where it has some -/
def XdAt (d : Option Addr) (H : Hp) : Prop := d = none ∨ ∃ (dd : Addr) (fs : List (Str × V)), d = some dd ∧ H dd = some (.xd fs)
def rIs1 (K : PySem.W.Frag) (D a : Addr) (d : Option Addr) : List V → Hp → VK → Prop := fun xs H Q => ∃ (c : V) (cv : Value) (b : Bool), xs = [.ref a, c] ∧ XdAt d H ∧ (∀ u, RelV c u → u = cv) ∧ PySem.W.kitOne K (.ref D) cv = some b ∧ Q (.bl b) H
def rIsN (K : PySem.W.Frag) (D a : Addr) (d : Option Addr) : List V → Hp → VK → Prop := fun xs H Q => ∃ (t : Addr) (cs : List V) (cvs : List Value) (b : Bool), xs = [.ref a, .ref t] ∧ XdAt d H ∧ SqT K H t cs ∧ (∀ us, Vals cs us → us = cvs) ∧ PySem.W.kitAny K (.ref D) cvs = some b ∧ Q (.bl b) H
section
variable {X : Cx} {a D : Addr} {oe : Obj} {d : Option Addr} {pn pins : List (Addr × Obj)} {σ : St} {H : Hp} {s : Shared}
theorem inst_suite (I : Inv (X.suite a ((a, oe) :: pn)) pins σ H s) (hz : Zc (.ref D) d oe) (hf : ∃ vs, oe.data = .fields vs) (hx : XdAt d H) : ∃ od, PySem.W.InstAt s.heap a oe D od := by
  obtain ⟨hget, _⟩ := I.pin (a, oe) (List.mem_append.mpr (.inl List.mem_cons_self))
  obtain ⟨vs, hv⟩ := hf
  rcases hx with rfl | ⟨dd, fs, rfl, ea⟩
  · exact ⟨none, hget, hz.1, by unfold PySem.W.notCls; rw [hv] <;> rfl, by rw [hz.2]; trivial⟩
  · have hx : ObjOk X.prog X.w H s.heap dd (.xd fs) := I.hok dd _ ea
    obtain ⟨mA, hns, _⟩ := hx
    obtain ⟨od, ho, _⟩ := lookIn_ns hns
    exact ⟨some od, hget, hz.1, by unfold PySem.W.notCls; rw [hv] <;> rfl, by rw [hz.2]; exact ho⟩
theorem call_is1 (C : ExcC X.K D) (hz : Zc (.ref D) d oe) (hf : ∃ vs, oe.data = .fields vs) : CallR (X.suite a ((a, oe) :: pn)) (.builtin "isinstance") (rIs1 X.K D a d) := by
  intro pins s σ H xs us Q I r h
  obtain ⟨c, cv, b, rfl, hx, hcv, e, q⟩ := h
  obtain ⟨u1, u2, rfl, rx, rt⟩ := vals2 r
  cases rx
  have ec := hcv _ rt
  subst ec
  obtain ⟨od, J⟩ := inst_suite I hz hf hx
  exact PySem.W.kia_one (PySem.W.kitD C.hg C.hk C.hs C.hd C.ha C.hn C.ht C.hm) I.kIn J e (fun z => nomatch z) fun tk => ⟨.bl b, H, I.kept (t' := tk) fun _ _ z => z, rfl, q⟩
theorem call_isN (C : ExcC X.K D) (hz : Zc (.ref D) d oe) (hf : ∃ vs, oe.data = .fields vs) : CallR (X.suite a ((a, oe) :: pn)) (.builtin "isinstance") (rIsN X.K D a d) := by
  intro pins s σ H xs us Q I r h
  obtain ⟨t, cs, cvs, b, rfl, hx, sq, hcv, e, q⟩ := h
  obtain ⟨u1, u2, rfl, rx, rt⟩ := vals2 r
  cases rx
  cases rt
  obtain ⟨od, J⟩ := inst_suite I hz hf hx
  obtain ⟨its, rv, ⟨o, ho, hc, n, hd⟩, _⟩ := I.tuple sq
  have ei := hcv _ rv
  subst ei
  obtain ⟨o1, o2, o3, o4⟩ := o
  dsimp only at hc hd
  subst hc hd
  exact PySem.W.kia_tup (PySem.W.kitD C.hg C.hk C.hs C.hd C.ha C.hn C.ht C.hm) I.kIn J ho e (fun z => nomatch z) fun tk => ⟨.bl b, H, I.kept (t' := tk) fun _ _ z => z, rfl, q⟩
end
end L2


set_option maxRecDepth 100000
set_option maxHeartbeats 4000000
namespace Lag
open PySem PySem.Spec PyProof.Rows L2
theorem catA {K : PySem.W.Frag} {H : Hp} {a b : Addr} {xs ys : List V} {Q : VK} (sa : SqT K H a xs) (sb : SqT K H b ys) (hl : xs.length + ys.length ≤ sizeLine) (q : ∀ c H', Same H H' → SqT K H' c (xs ++ ys) → Q (.ref c) H') : rCatA K (.ref a) (.ref b) H Q := by
  refine ⟨a, b, xs, ys, rfl, rfl, sa, sb, hl, fun z => q b H (Same.refl _) ?_, fun _ z => q a H (Same.refl _) ?_, fun _ _ p hp => q p _ (same_new hp) (.inl (.inl upd_same))⟩
  · rw [z]
    exact sb
  · rw [z, List.append_nil]
    exact sa
theorem All2.pushT {α : Type} {R : Hp → V → α → Prop} {H H2 : Hp} {D : Addr} {acc : List V} {l : List α} {v : V} {x : α} {o : HO} (mono : ∀ {H H' : Hp} {v : V} {x : α}, TK H H' → R H v x → R H' v x) (h : All2 (R H) acc l) (hD : H2 D = some (.lst acc)) (t : TK H H2) (r : R H2 v x) : All2 (R (upd H2 D o)) (acc ++ [v]) (l ++ [x]) :=
  (h.imp fun _ _ r => mono (t.trans (TK.lst hD)) r).snoc (mono (TK.lst hD) r)
def rTupOf (K : PySem.W.Frag) : List V → Hp → VK → Prop := fun xs H Q => ∃ p ys, xs = [.ref p] ∧ ((SqL K H p ys ∧ ∀ l, H l = none → Q (.ref l) (upd H l (.tup ys))) ∨ (SqT K H p ys ∧ Q (.ref p) H))
theorem st_norm {f : L2.St → Hp → Prop} {σ σ' : L2.St} {H : Hp} (e : σ = σ') (h : f σ' H) : f σ H := e ▸ h
theorem int_atB {l : List Int} {i : Nat} {x : V} (h : (l.map V.int)[i]? = some x) : ∃ z, l[i]? = some z ∧ x = V.int z := by
  rw [List.getElem?_map] at h
  cases e : l[i]? with
  | none =>
    rw [e] at h
    cases h
  | some z =>
    rw [e] at h
    exact ⟨z, rfl, (Option.some.inj h).symm⟩
section
variable {K : PySem.W.Frag} {C : Addr} {H : Hp}
theorem net_in {Q : Addr → Hp → Prop} {lg lw : Addr} {gs : List Gt} {ws : List Wr} (R : RG K H lg gs) (R2 : RW K H lw ws) (N : NetOk gs ws)
    (q : ∀ p ng nw H', NetAt K C H' p ng nw gs ws → Same H H' → H p = none → H ng = none → H nw = none → Q p H') :
    ∀ x dx, H x = none → H dx = none → dx ≠ x → spInit K C (.ref x :: ([.ref lg, .ref lw] ++ [])) (upd (upd H dx (.own x)) x (.ins C dx [])) (fun v H' => v = .non ∧ Q x H') E0 := by
  intro x dx hx hdx ne
  have s0 : Same H (upd (upd H dx (.own x)) x (.ins C dx [])) := fun b o e => by
    rw [upd_ne (ne_of_none e hx), upd_ne (ne_of_none e hdx)]
    exact e
  refine ⟨x, dx, lg, lw, gs, ws, rfl, upd_same, R.same s0, R2.same s0, N, fun H' ng nw A h1 h2 k => ⟨rfl, ?_⟩⟩
  exact q x ng nw H' A (Same.made hx hdx k) hx (s0.free h1) (s0.free h2)
end
end Lag

set_option maxRecDepth 100000
set_option maxHeartbeats 8000000
namespace Lag
open PySem PySem.Spec PyProof.Rows L2
theorem gn_norm {i : Nat} {x : V} {σ σ' : L2.St} {H : Hp} {N : L2.St → Hp → Prop} (e : σ.set i (some x) = σ') (h : N σ' H) : gName i x σ H N := by
  subst e
  exact h
/-! ### the texts of nets -/
abbrev numT (n : Int) : Str := Str.ofString (toString n)
def natT (n : Nat) : Str := numT (n : Int)
theorem natT_tl (n : Nat) : TL.tl (natT n) = TL.numL n := TL.tl_num n
theorem natT_free {n s : Nat} (h : s < 48 ∨ 57 < s) : s ∉ TL.tl (natT n) := by
  rw [natT_tl]
  exact TL.numL_free h
theorem natT_len {n : Nat} (h : n < 1000) : (natT n).length ≤ 3 := by
  rw [TL.len_tl, natT_tl]
  exact TL.numL_len (by decide) h
theorem natT_int {n : Nat} (h : n < 1000) : intText? (natT n) = some (n : Int) := by
  refine TL.int_num ?_
  have := TL.numL_len (k := 3) (by decide) h
  omega
theorem natT_digits (n : Nat) : ∀ c ∈ TL.tl (natT n), 48 ≤ c ∧ c ≤ 57 := fun c hc => by
  by_cases h : c < 48 ∨ 57 < c
  · exact absurd hc (natT_free h)
  · omega
theorem natT_pos (n : Nat) : 0 < (natT n).length := by
  rw [TL.len_tl, natT_tl]
  exact List.length_pos_iff.mpr (TL.numL_ne n)
theorem isDigit_at : ∀ c, c < 58 → 48 ≤ c → Unicode.isDigit c = true := by decide +kernel
theorem natT_isdigit (n : Nat) : Txt.isdigit (natT n) = true := by
  unfold Txt.isdigit
  rw [Bool.and_eq_true, decide_eq_true_iff, ← Array.all_toList, List.all_eq_true]
  refine ⟨natT_pos n, fun c hc => ?_⟩
  have := natT_digits n c hc
  exact isDigit_at c (by omega) this.1
theorem natT_isascii (n : Nat) : Txt.isascii (natT n) = true := by
  unfold Txt.isascii
  rw [← Array.all_toList, List.all_eq_true]
  intro c hc
  have := natT_digits n c hc
  exact decide_eq_true (by omega)
theorem natT_starts (n : Nat) : Txt.startswith (natT n) "-" = false := by
  unfold Txt.startswith
  rw [Bool.and_eq_false_iff]
  refine .inr ?_
  rw [Bool.eq_false_iff]
  intro h
  rw [StrLaws.subAt_eq] at h
  have e := eq_of_beq h
  have hm : 45 ∈ (("-" : Str)).cps.toList := by decide +kernel
  rw [← e] at hm
  exact natT_free (n := n) (s := 45) (.inl (by decide)) (List.mem_of_mem_drop (List.mem_of_mem_take hm))
def gateT (g : Gt) : Str := "gate " ++ g.1 ++ " " ++ numT g.2
def wireN (x : Wr) : List Int := ((x.1 : Nat) : Int) :: ((x.2.1 : Nat) : Int) :: x.2.2
def wireT (x : Wr) : Str := "wire " ++ Txt.join " " ((wireN x).map numT)
def rowsT (gs : List Gt) (ws : List Wr) : List Str := gs.map gateT ++ ws.map wireT
def netT (gs : List Gt) (ws : List Wr) : Str := Txt.join "\n" (rowsT gs ws)
theorem tl_blank : TL.tl (" " : Str) = [32] := by decide +kernel
theorem tl_feed : TL.tl ("\n" : Str) = [10] := by decide +kernel
theorem blank_all : ((" " : Str)).cps.all (· < 256) = true := by decide +kernel
theorem feed_all : (("\n" : Str)).cps.all (· < 256) = true := by decide +kernel
theorem kinds_free : ∀ k ∈ kinds, (32 ∉ TL.tl k ∧ 10 ∉ TL.tl k) ∧ k.length ≤ 5 := by decide +kernel
theorem nat_of {i : Int} (h : 0 ≤ i) : numT i = natT i.toNat := by
  unfold natT
  rw [Int.toNat_of_nonneg h]
theorem num_free {i : Int} {s : Nat} (h0 : 0 ≤ i) (h : s < 48 ∨ 57 < s) : s ∉ TL.tl (numT i) := by
  rw [nat_of h0]
  exact natT_free h
theorem join_two (y a b : Str) (r : List Str) : Txt.join y (a :: b :: r) = a ++ y ++ Txt.join y (b :: r) := by
  rw [TL.join_eq, TL.join_eq]
  rfl
theorem join_one (y a : Str) : Txt.join y [a] = a := by
  rw [TL.join_eq]
  rfl
theorem str_assoc (a b c : Str) : a ++ b ++ c = a ++ (b ++ c) := TL.ext_tl (by simp only [TL.tl_append, List.append_assoc])
theorem gateT_join (g : Gt) : gateT g = Txt.join " " ["gate", g.1, numT g.2] := by
  rw [join_two, join_two, join_one]
  unfold gateT
  refine TL.ext_tl ?_
  simp only [TL.tl_append, List.append_assoc]
  have : TL.tl ("gate " : Str) = TL.tl ("gate" : Str) ++ TL.tl (" " : Str) := by decide +kernel
  rw [this, List.append_assoc]
theorem wireT_join (x : Wr) : wireT x = Txt.join " " ("wire" :: (wireN x).map numT) := by
  unfold wireT wireN
  rw [List.map_cons, join_two]
  congr 1
  all_goals exact TL.ext_tl (by rw [TL.tl_append]; decide +kernel)
theorem gateT_split {g : Gt} (h : GOk g) : Txt.split (gateT g) " " = [("gate" : Str), g.1, numT g.2] := by
  rw [gateT_join]
  refine TL.split_join tl_blank blank_all (by simp) fun p hp => ?_
  simp only [List.mem_cons, List.not_mem_nil, or_false] at hp
  rcases hp with rfl | rfl | rfl
  · decide +kernel
  · exact (kinds_free _ h.1).1.1
  · exact num_free h.2.1 (.inl (by decide))
theorem wireN_pos {x : Wr} (h : ROk x.2.2) : ∀ i ∈ wireN x, 0 ≤ i := fun i hi => by
  unfold wireN at hi
  rcases List.mem_cons.mp hi with e | hi
  · omega
  · rcases List.mem_cons.mp hi with e | hi
    · omega
    · exact (h i hi).1
theorem wireT_split {x : Wr} (h : ROk x.2.2) : Txt.split (wireT x) " " = ("wire" : Str) :: (wireN x).map numT := by
  rw [wireT_join]
  refine TL.split_join tl_blank blank_all (by simp) fun p hp => ?_
  rcases List.mem_cons.mp hp with rfl | hp
  · decide +kernel
  · obtain ⟨i, hi, rfl⟩ := List.mem_map.mp hp
    exact num_free (wireN_pos h i hi) (.inl (by decide))
theorem joinL_free {s : Nat} {S : List Nat} (hs : s ∉ S) : ∀ {l : List (List Nat)}, (∀ p ∈ l, s ∉ p) → s ∉ TL.joinL S l
  | [], _ => by simp [TL.joinL]
  | [p], h => by
    show s ∉ p
    exact h p (by simp)
  | p :: q :: r, h => by
    show s ∉ p ++ (S ++ TL.joinL S (q :: r))
    rw [List.mem_append, List.mem_append]
    rintro (z | z | z)
    · exact h p (by simp) z
    · exact hs z
    · exact joinL_free hs (fun a ha => h a (List.mem_cons_of_mem _ ha)) z
theorem join_free {s : Nat} {y : Str} (hs : s ∉ TL.tl y) {l : List Str} (h : ∀ p ∈ l, s ∉ TL.tl p) : s ∉ TL.tl (Txt.join y l) := by
  rw [TL.join_eq, TL.tl_join]
  refine joinL_free hs fun p hp => ?_
  obtain ⟨z, hz, rfl⟩ := List.mem_map.mp hp
  exact h z hz
theorem row_free {gs : List Gt} {ws : List Wr} (N : NetOk gs ws) : ∀ p ∈ rowsT gs ws, 10 ∉ TL.tl p := fun p hp => by
  rcases List.mem_append.mp hp with h | h
  · obtain ⟨g, hg, rfl⟩ := List.mem_map.mp h
    have G := N.gok g hg
    rw [gateT_join]
    refine join_free (by decide +kernel) fun q hq => ?_
    simp only [List.mem_cons, List.not_mem_nil, or_false] at hq
    rcases hq with rfl | rfl | rfl
    · decide +kernel
    · exact (kinds_free _ G.1).1.2
    · exact num_free G.2.1 (.inl (by decide))
  · obtain ⟨x, hx, rfl⟩ := List.mem_map.mp h
    have W := N.wok x hx
    rw [wireT_join]
    refine join_free (by decide +kernel) fun q hq => ?_
    rcases List.mem_cons.mp hq with rfl | hq
    · decide +kernel
    · obtain ⟨i, hi, rfl⟩ := List.mem_map.mp hq
      exact num_free (wireN_pos W.r i hi) (.inl (by decide))
theorem netT_split {gs : List Gt} {ws : List Wr} (N : NetOk gs ws) : Txt.split (netT gs ws) "\n" = rowsT gs ws := by
  refine TL.split_join tl_feed feed_all ?_ (row_free N)
  unfold rowsT
  intro h
  have := (List.append_eq_nil_iff.mp h).1
  exact N.ne (List.map_eq_nil_iff.mp this)
/-! lengths -/
theorem num_len {i : Int} (h0 : 0 ≤ i) (h : i < 1000) : (numT i).length ≤ 3 := by
  rw [nat_of h0]
  exact natT_len (by omega)
theorem gateT_len {g : Gt} (h : GOk g) : (gateT g).length ≤ 14 := by
  unfold gateT
  rw [Str.length_append, Str.length_append, Str.length_append]
  have h1 := (kinds_free _ h.1).2
  have h2 := num_len h.2.1 (by have := h.2.2.1; omega)
  have h3 : ("gate " : Str).length = 5 := by decide +kernel
  have h4 : (" " : Str).length = 1 := by decide +kernel
  omega
theorem sum_le {l : List Str} {b : Nat} (h : ∀ p ∈ l, p.length ≤ b) : (l.map (·.length)).sum ≤ l.length * b := by
  induction l with
  | nil => simp
  | cons a l ih =>
    rw [List.map_cons, List.sum_cons, List.length_cons, Nat.succ_mul]
    have h1 := h a (by simp)
    have h2 := ih fun p hp => h p (List.mem_cons_of_mem _ hp)
    omega
theorem wireN_bd {gs : List Gt} {ws : List Wr} (N : NetOk gs ws) {x : Wr} (hx : x ∈ ws) : ∀ i ∈ wireN x, 0 ≤ i ∧ i < 1000 := fun i hi => by
  have W := N.wok x hx
  have hg := N.gl
  have h1 := W.s
  have h2 := W.e
  refine ⟨wireN_pos W.r i hi, ?_⟩
  unfold wireN at hi
  rcases List.mem_cons.mp hi with e | hi
  · omega
  · rcases List.mem_cons.mp hi with e | hi
    · omega
    · have := (W.r i hi).2
      omega
theorem wireN_len (x : Wr) : (wireN x).length = x.2.2.length + 2 := rfl
theorem nums_sum {gs : List Gt} {ws : List Wr} (N : NetOk gs ws) {x : Wr} (hx : x ∈ ws) : (((wireN x).map numT).map (·.length)).sum ≤ 306 ∧ ((wireN x).map numT).length ≤ 102 := by
  have W := N.wok x hx
  have hl : ((wireN x).map numT).length ≤ 102 := by
    rw [List.length_map, wireN_len]
    have := W.rl
    omega
  refine ⟨?_, hl⟩
  have := sum_le (l := (wireN x).map numT) (b := 3) fun p hp => by
    obtain ⟨i, hi, rfl⟩ := List.mem_map.mp hp
    have := wireN_bd N hx i hi
    exact num_len this.1 this.2
  omega
theorem join_len (y : Str) (l : List Str) : (Txt.join y l).length ≤ (l.map (·.length)).sum + l.length * y.length := by
  rw [TL.join_eq]
  exact StrLaws.join_length_le y l
theorem blank_len : (" " : Str).length = 1 := by decide +kernel
theorem wireT_len {gs : List Gt} {ws : List Wr} (N : NetOk gs ws) {x : Wr} (hx : x ∈ ws) : (Txt.join " " ((wireN x).map numT)).length ≤ 408 ∧ (wireT x).length ≤ 413 := by
  have h1 := nums_sum N hx
  have h2 := join_len " " ((wireN x).map numT)
  rw [blank_len] at h2
  refine ⟨by omega, ?_⟩
  unfold wireT
  rw [Str.length_append]
  have h3 : ("wire " : Str).length = 5 := by decide +kernel
  omega
theorem rows_sum {gs : List Gt} {ws : List Wr} (N : NetOk gs ws) : ((rowsT gs ws).map (·.length)).sum ≤ 454300 ∧ (rowsT gs ws).length ≤ 1100 := by
  have hl : (rowsT gs ws).length ≤ 1100 := by
    unfold rowsT
    rw [List.length_append, List.length_map, List.length_map]
    have := N.gl
    have := N.wl
    omega
  refine ⟨?_, hl⟩
  have := sum_le (l := rowsT gs ws) (b := 413) fun p hp => by
    rcases List.mem_append.mp hp with h | h
    · obtain ⟨g, hg, rfl⟩ := List.mem_map.mp h
      have := gateT_len (N.gok g hg)
      omega
    · obtain ⟨x, hx, rfl⟩ := List.mem_map.mp h
      exact (wireT_len N hx).2
  omega
theorem netT_len {gs : List Gt} {ws : List Wr} (N : NetOk gs ws) : (netT gs ws).length ≤ 455400 := by
  have h1 := rows_sum N
  have h2 := join_len "\n" (rowsT gs ws)
  have h3 : ("\n" : Str).length = 1 := by decide +kernel
  rw [h3] at h2
  unfold netT
  omega
/-! a text tells its net -/
theorem numT_inj {i j : Int} (hi : 0 ≤ i) (hj : 0 ≤ j) (h : numT i = numT j) : i = j := by
  rw [nat_of hi, nat_of hj] at h
  have h1 : TL.numL i.toNat = TL.numL j.toNat := by rw [← natT_tl, ← natT_tl, h]
  have := TL.numL_inj h1
  omega
theorem nums_inj : ∀ {a b : List Int}, (∀ i ∈ a, 0 ≤ i) → (∀ i ∈ b, 0 ≤ i) → a.map numT = b.map numT → a = b
  | [], [], _, _, _ => rfl
  | [], _ :: _, _, _, h => by simp at h
  | _ :: _, [], _, _, h => by simp at h
  | i :: a, j :: b, ha, hb, h => by
    rw [List.map_cons, List.map_cons] at h
    injection h with h1 h2
    rw [numT_inj (ha i (by simp)) (hb j (by simp)) h1, nums_inj (fun i hi => ha i (List.mem_cons_of_mem _ hi)) (fun i hi => hb i (List.mem_cons_of_mem _ hi)) h2]
theorem gateT_inj {g g' : Gt} (h : GOk g) (h' : GOk g') (e : gateT g = gateT g') : g = g' := by
  have e1 := congrArg (fun z => Txt.split z " ") e
  simp only [gateT_split h, gateT_split h'] at e1
  injection e1 with _ e2
  injection e2 with e3 e4
  injection e4 with e5 _
  exact Prod.ext e3 (numT_inj h.2.1 h'.2.1 e5)
theorem wireT_inj {x x' : Wr} (h : ROk x.2.2) (h' : ROk x'.2.2) (e : wireT x = wireT x') : x = x' := by
  have e1 := congrArg (fun z => Txt.split z " ") e
  simp only [wireT_split h, wireT_split h'] at e1
  injection e1 with _ e2
  have e3 := nums_inj (wireN_pos h) (wireN_pos h') e2
  unfold wireN at e3
  injection e3 with a1 e4
  injection e4 with a2 a3
  exact Prod.ext (by omega) (Prod.ext (by omega) a3)
theorem gateT_ne_wireT {g : Gt} {x : Wr} (h : GOk g) (h' : ROk x.2.2) : gateT g ≠ wireT x := fun e => by
  have e1 := congrArg (fun z => Txt.split z " ") e
  simp only [gateT_split h, wireT_split h'] at e1
  injection e1 with e2 _
  exact absurd e2 (by decide +kernel)
theorem rowsT_inj : ∀ {gs gs' : List Gt} {ws ws' : List Wr}, (∀ g ∈ gs, GOk g) → (∀ g ∈ gs', GOk g) → (∀ x ∈ ws, ROk x.2.2) → (∀ x ∈ ws', ROk x.2.2) → rowsT gs ws = rowsT gs' ws' → gs = gs' ∧ ws = ws'
  | [], [], [], [], _, _, _, _, _ => ⟨rfl, rfl⟩
  | [], [], [], _ :: _, _, _, _, _, h => by simp [rowsT] at h
  | [], [], _ :: _, [], _, _, _, _, h => by simp [rowsT] at h
  | [], [], x :: ws, x' :: ws', h1, h2, h3, h4, h => by
    have h' : wireT x :: ws.map wireT = wireT x' :: ws'.map wireT := h
    injection h' with e1 e2
    have e3 := wireT_inj (h3 x (by simp)) (h4 x' (by simp)) e1
    have e4 := (rowsT_inj (gs := []) (gs' := []) h1 h2 (fun y hy => h3 y (List.mem_cons_of_mem _ hy)) (fun y hy => h4 y (List.mem_cons_of_mem _ hy)) e2).2
    rw [e3, e4]
    exact ⟨rfl, rfl⟩
  | g :: gs, g' :: gs', ws, ws', h1, h2, h3, h4, h => by
    have h' : gateT g :: rowsT gs ws = gateT g' :: rowsT gs' ws' := h
    injection h' with e1 e2
    have e3 := gateT_inj (h1 g (by simp)) (h2 g' (by simp)) e1
    have e4 := rowsT_inj (fun y hy => h1 y (List.mem_cons_of_mem _ hy)) (fun y hy => h2 y (List.mem_cons_of_mem _ hy)) h3 h4 e2
    rw [e3, e4.1, e4.2]
    exact ⟨rfl, rfl⟩
  | g :: gs, [], ws, ws', h1, h2, h3, h4, h => by
    have h' : gateT g :: rowsT gs ws = ws'.map wireT := h
    cases ws' with
    | nil => simp at h'
    | cons x' ws' =>
      rw [List.map_cons] at h'
      injection h' with e1 _
      exact absurd e1 (gateT_ne_wireT (h1 g (by simp)) (h4 x' (by simp)))
  | [], g' :: gs', ws, ws', h1, h2, h3, h4, h => by
    have h' : ws.map wireT = gateT g' :: rowsT gs' ws' := h
    cases ws with
    | nil => simp at h'
    | cons x ws =>
      rw [List.map_cons] at h'
      injection h' with e1 _
      exact absurd e1.symm (gateT_ne_wireT (h2 g' (by simp)) (h3 x (by simp)))
theorem netT_inj {gs gs' : List Gt} {ws ws' : List Wr} (N : NetOk gs ws) (N' : NetOk gs' ws') (h : netT gs ws = netT gs' ws') : gs = gs' ∧ ws = ws' := by
  have e := congrArg (fun z => Txt.split z "\n") h
  simp only [netT_split N, netT_split N'] at e
  exact rowsT_inj N.gok N'.gok (fun x hx => (N.wok x hx).r) (fun x hx => (N'.wok x hx).r) e
end Lag

set_option maxRecDepth 100000
set_option maxHeartbeats 8000000
namespace Lag
open PySem PySem.Spec PyProof.Rows L2
abbrev sNumsT : Stmt := topS 32 -- @numbers_text
abbrev sNetT : Stmt := topS 31 -- @net_text
abbrev sChkText : Stmt := topS 34 -- @check_text
abbrev sReadNum : Stmt := topS 37 -- @read_number
abbrev sReadGate : Stmt := topS 35 -- @read_gate
abbrev sReadWire : Stmt := topS 36 -- @read_wire
abbrev sReadNet : Stmt := topS 33 -- @read_net
/-- str of a number, within a comprehension -/
abbrev tStrI (i : Nat) : TE := tCB (fun xs H Q => ∃ i, xs = [.int i] ∧ i.natAbs.log2 < 1920 ∧ Q (.str (toString i)) H) (tCons (tVar i) tNil)
abbrev strV (l : List Str) : List V := l.map V.str
theorem str_take {l : List Str} {i : Nat} {x : Str} (h : l[i]? = some x) : strV (l.take (i + 1)) = strV (l.take i) ++ [.str x] := by
  show List.map _ _ = List.map _ _ ++ _
  rw [List.take_add_one, h, List.map_append]
  rfl
theorem log_small {i : Int} (h0 : 0 ≤ i) (h : i < 1000) : i.natAbs.log2 < 1920 := by
  have h1 : i.natAbs < 1000 := by omega
  have h2 : i.natAbs.log2 < 10 := by
    by_cases z : i.natAbs = 0
    · rw [z]
      decide
    · exact (Nat.log2_lt z).mpr (by omega)
  omega
def spNumsT (K : PySem.W.Frag) : Sp := fun vs H Q _ => ∃ (l : Addr) (ns : List Int), vs = [.ref l] ∧ SqL K H l (ns.map V.int) ∧ (∀ i ∈ ns, i.natAbs.log2 < 1920) ∧ ns.length ≤ 1000 ∧ ((ns.map numT).map (·.length)).sum + ns.length ≤ 16777216 ∧ ∀ H', Same H H' → Q (.str (Txt.join " " (ns.map numT))) H'
def spNetT (K : PySem.W.Frag) (C : Addr) : Sp := fun vs H Q _ => ∃ (p ng nw : Addr) (gs : List Gt) (ws : List Wr), vs = [.ref p] ∧ NetAt K C H p ng nw gs ws ∧ NetOk gs ws ∧ ∀ H', Same H H' → Q (.str (netT gs ws)) H'
def spChkText : Sp := fun vs H Q _ => ∃ t : Str, vs = [.str t] ∧ Q .non H
def spReadNum : Sp := fun vs H Q _ => ∃ n : Nat, vs = [.str (natT n)] ∧ n < 1000 ∧ Q (.int (n : Nat)) H
def spReadGate (K : PySem.W.Frag) : Sp := fun vs H Q _ => ∃ (l : Addr) (g : Gt), vs = [.ref l] ∧ SqL K H l [.str g.1, .str (numT g.2)] ∧ GOk g ∧ ∀ a H', Same H H' → GateV K H' (.ref a) g → Q (.ref a) H'
def spReadWire (K : PySem.W.Frag) : Sp := fun vs H Q _ => ∃ (l : Addr) (x : Wr), vs = [.ref l] ∧ SqL K H l (strV ((wireN x).map numT)) ∧ (∀ i ∈ wireN x, 0 ≤ i ∧ i < 1000) ∧ x.2.2.length ≤ 900 ∧ ∀ a H', Same H H' → WireV K H' (.ref a) x → Q (.ref a) H'
def spReadNet (K : PySem.W.Frag) (C : Addr) : Sp := fun vs H Q _ => ∃ (gs : List Gt) (ws : List Wr), vs = [.str (netT gs ws)] ∧ NetOk gs ws ∧ ∀ p ng nw H', Same H H' → NetAt K C H' p ng nw gs ws → H p = none → H ng = none → H nw = none → Q (.ref p) H'
section
variable {P : Program} {w : World} {K : PySem.W.Frag} {mg : Str → Option Value} {base : Heap}
abbrev nNumsT : List Str := ["numbers", "number"]
theorem scNumsT : FnScope nNumsT ["numbers"] (defScope sNumsT) := ⟨rfl, rfl, rfl, by decide +kernel, rfl, by decide +kernel, by decide +kernel⟩
abbrev DNumsT (P : Program) (w : World) (K : PySem.W.Frag) (mg : Str → Option Value) (base : Heap) := Df P w K mg base 1 "numbers_text" ["numbers"] (spNumsT K)
theorem ok_numsT {f : Addr} {fd : FuncData} (F : Fun K "numbers_text" "numbers_text" sNumsT f fd) (hm : mg "numbers_text" = some (.ref f)) (B : Bt mg) : DNumsT P w K mg base f fd := by
  refine ⟨?_, hm, F.kp, F.binds fun _ _ _ _ _ _ us hl => match us, hl with | [_], _ => rfl⟩
  refine F.ok scNumsT (fun vs H Q E h => ?_) (fun cdv A outer s H vs Q E hr h => ?_)
  · obtain ⟨l, ns, rfl, _⟩ := h
    rfl
  · obtain ⟨l, ns, rfl, sq, hlog, hlen, hsum, q⟩ := h
    have nd := scNumsT.nd
    refine ⟨_, pss_one <| ps_ret <| pe_join pe_str (pe_lc (own := [("number", 1)]) (g := gName 1) (tt := tYes) (te := tStrI 1) rfl nd (pi_list (pv 0)) (blkOk_by (N := nNumsT) (sc := defScope sNumsT) (own := [("number", 1)]) (by decide +kernel)) (fun _ _ _ _ _ => pg_name (i := 1) nd rfl (.inl rfl)) (fun _ _ _ _ _ => pts_nil) (fun _ _ _ _ _ => pe_callTy call_str_int (by rfl) B.str (by decide +kernel) (pa_cons (pv 1) pa_nil))), ?_⟩
    refine ⟨⟨_, rfl⟩, _, rfl, l, rfl, ⟨_, sq⟩, fun D hD => ?_⟩
    refine lc_list (K := K) (a := l) (xs := ns.map V.int) (fun i Hc => Hc D = some (.lst (strV ((ns.map numT).take i))) ∧ Same H Hc) ⟨upd_same, same_new hD⟩ (fun i Hc _ ⟨_, sm⟩ => sm.seq sq) ?_ ?_
    · rintro i v Hc hv ⟨hc, sm⟩
      obtain ⟨z, hz, rfl⟩ := int_atB hv
      have hi : i < ns.length := (List.getElem?_eq_some_iff.mp hz).1
      refine ⟨rfl, tyes ?_⟩
      refine ⟨_, rfl, z, rfl, hlog z (List.mem_of_getElem? hz), _, hc, ?_, ?_, same_mut sm hD⟩
      · rw [List.length_map, List.length_take]
        exact small1000 (by omega)
      · rw [upd_same, str_take (x := numT z) (by rw [List.getElem?_map, hz]; rfl)]
    · rintro H2 ⟨hc, sm⟩
      rw [List.length_map, ← List.length_map (f := numT), List.take_length] at hc
      refine ⟨" ", D, ns.map numT, rfl, rfl, .inl (SqL.of hc), ?_, q H2 sm⟩
      rw [blank_len, List.length_map, Nat.mul_one]
      exact hsum
abbrev nNetT : List Str := ["net", "kind", "wait", "rows", "start", "end", "held"]
theorem scNetT : FnScope nNetT ["net"] (defScope sNetT) := ⟨rfl, rfl, rfl, by decide +kernel, rfl, by decide +kernel, by decide +kernel⟩
abbrev DNetT (P : Program) (w : World) (K : PySem.W.Frag) (mg : Str → Option Value) (base : Heap) (C : Addr) := Df P w K mg base 2 "net_text" ["net"] (spNetT K C)
abbrev tGateT : TE := fun σ H Q => tJs [tC (.str "gate "), tFmt (tVar 1), tC (.str " "), tFmt (tVar 2)] Str.empty σ H fun out H1 => Q (.str out) H1
theorem gateT_js (g : Gt) : Str.empty ++ "gate " ++ g.1 ++ " " ++ numT g.2 = gateT g := by
  unfold gateT
  congr 3
theorem rowsT_at1 {gs : List Gt} {ws : List Wr} {i : Nat} {g : Gt} (h : gs[i]? = some g) : (rowsT gs ws)[i]? = some (gateT g) := by
  unfold rowsT
  rw [List.getElem?_append_left (by rw [List.length_map]; exact (List.getElem?_eq_some_iff.mp h).1), List.getElem?_map, h]
  rfl
theorem rowsT_at2 {gs : List Gt} {ws : List Wr} {i : Nat} {x : Wr} (h : ws[i]? = some x) : (rowsT gs ws)[gs.length + i]? = some (wireT x) := by
  unfold rowsT
  rw [List.getElem?_append_right (by rw [List.length_map]; omega), List.length_map, Nat.add_sub_cancel_left, List.getElem?_map, h]
  rfl
theorem rowsT_length (gs : List Gt) (ws : List Wr) : (rowsT gs ws).length = gs.length + ws.length := by
  unfold rowsT
  rw [List.length_append, List.length_map, List.length_map]
theorem size24 {n : Nat} (h : n ≤ 16777216) : n ≤ sizeLine := h
theorem ok_netT {f fN C : Addr} {fd fdN : FuncData} (F : Fun K "net_text" "net_text" sNetT f fd) (hm : mg "net_text" = some (.ref f)) (B : Bt mg) (T : NT K mg C) (DN : DNumsT P w K mg base fN fdN) : DNetT P w K mg base C f fd := by
  refine ⟨?_, hm, F.kp, F.binds fun _ _ _ _ _ _ us hl => match us, hl with | [_], _ => rfl⟩
  refine F.ok scNetT (fun vs H Q E h => ?_) (fun cdv A outer s H vs Q E hr h => ?_)
  · obtain ⟨p, ng, nw, gs, ws, rfl, _⟩ := h
    rfl
  · obtain ⟨p, ng, nw, gs, ws, rfl, NA, N, q⟩ := h
    have nd := scNetT.nd
    refine ⟨_, pss_cons (ps_setLc (i := 3) (own := [("kind", 1), ("wait", 2)]) (g := gTup K 2 (gCons (gName 1) (gCons (gName 2) gNil))) (tt := tYes) (te := tGateT) rfl nd rfl rfl (sw_true rfl rfl rfl (by decide +kernel)) (pi_list (pe_fld (pv 0) rfl)) (blkOk_by (N := nNetT) (sc := defScope sNetT) (own := [("kind", 1), ("wait", 2)]) (by decide +kernel)) (fun _ _ _ _ _ => pg_tup rfl (pgs_cons (pg_name (i := 1) nd rfl (.inl rfl)) (pgs_cons (pg_name (i := 2) nd rfl (.inl rfl)) pgs_nil))) (fun _ _ _ _ _ => pts_nil)
          (fun _ _ _ _ _ => pe_joined (.cons pe_str (.cons (pe_fmt (pv 1)) (.cons pe_str (.cons (pe_fmt (pv 2)) .nil)))))) <|
      pss_cons (ps_for PassesOwn.never rfl (pi_list (pe_fld (pv 0) rfl)) (pg_tup rfl (pgs_cons (pg_name (i := 4) nd rfl (.inl rfl)) (pgs_cons (pg_name (i := 5) nd rfl (.inl rfl)) (pgs_cons (pg_name (i := 6) nd rfl (.inl rfl)) pgs_nil)))) <|
        pss_one <| ps_expr (pe_bm PySem.F.plainAttrs_list PySem.F.slot_list_append PySem.F.type_list_append mt_append (pv 3) (pa_cons (pe_op op_add_str pe_str (pe_call DN.ok hr (by rfl) DN.mg DN.kp DN.bd .nil pass0 (pa_cons (pe_op op_cat (pe_lst (pa_cons (pv 4) (pa_cons (pv 5) pa_nil))) (pe_callTy call_list_of (by rfl) B.list (by decide +kernel) (pa_cons (pv 6) pa_nil))) pa_nil))) pa_nil))) <|
      pss_one <| ps_ret <| pe_join pe_str (pv 3), ?_⟩
    have hgl := N.gl
    have hwl := N.wl
    obtain ⟨dx, ob⟩ := id NA.ob
    obtain ⟨gv, hgv, ga⟩ := id NA.g
    obtain ⟨wv, hwv, wa⟩ := id NA.w
    have hlg : gv.length = gs.length := ga.1
    have hlw : wv.length = ws.length := wa.1
    refine ⟨_, rfl, p, C, dx, _, _, rfl, ob, T.cl, T.nG, nf_gates _ _, ng, rfl, ⟨_, SqL.of hgv⟩, fun D hD => ?_⟩
    refine lc_list (K := K) (a := ng) (xs := gv) (fun i Hc => Hc D = some (.lst (strV ((rowsT gs ws).take i))) ∧ Same H Hc) ⟨upd_same, same_new hD⟩ (fun i Hc _ ⟨_, sm⟩ => SqL.of (sm _ _ hgv)) ?_ ?_
    · rintro i v Hc hv ⟨hc, sm⟩
      obtain ⟨g, hg, a, rfl, sq⟩ := ga.get hv
      have hi : i < gs.length := (List.getElem?_eq_some_iff.mp hg).1
      have G := N.gok g (List.mem_of_getElem? hg)
      have h1 := (kinds_free _ G.1).2
      have h2 := num_len G.2.1 (by have := G.2.2.1; omega)
      have h3 : (Str.empty ++ "gate " : Str).length = 5 := by decide +kernel
      have h4 : (" " : Str).length = 1 := by decide +kernel
      refine ⟨a, _, rfl, (TK.same sm).seq sq, rfl, _, _, rfl, _, _, rfl, rfl, rfl, tyes ?_⟩
      refine ⟨_, rfl, size24 (by omega), _, rfl, .inl ⟨_, rfl, size24 (by omega), _, rfl, size24 (by rw [Str.length_append]; omega), _, rfl, size24 (by rw [Str.length_append, Str.length_append]; omega), _, rfl, .inr ⟨_, rfl, log_small G.2.1 (by have := G.2.2.1; omega), _, rfl, size24 (by rw [Str.length_append, Str.length_append, Str.length_append]; show _ + (numT g.2).length ≤ _; omega), _, hc, ?_, ?_, same_mut sm hD⟩⟩⟩
      · rw [List.length_map, List.length_take]
        exact small1000 (by omega)
      · rw [upd_same, str_take (rowsT_at1 hg), ← gateT_js]
    rintro H1 ⟨hD1, sm1⟩
    rw [hlg] at hD1
    have hwv1 := sm1 _ _ hwv
    refine gn_norm (σ' := [some (.ref p), none, none, some (.ref D), none, none, none]) rfl ?_
    refine ⟨_, rfl, p, C, dx, _, _, rfl, sm1 _ _ ob, T.cl, T.nW, nf_wires _ _, nw, rfl, ⟨_, SqL.of hwv1⟩, ?_⟩
    refine for_list (K := K) (a := nw) (xs := wv) (fun i σ H2 => ∃ (s4 s5 s6 : Option V), σ = [some (.ref p), none, none, some (.ref D), s4, s5, s6] ∧ H2 D = some (.lst (strV ((rowsT gs ws).take (gs.length + i)))) ∧ Same H H2) ⟨_, _, _, rfl, hD1, sm1⟩ (fun i σ H2 _ ⟨_, _, _, _, _, sm⟩ => SqL.of (sm _ _ hwv)) ?_ ?_
    · rintro i v σ H2 hv ⟨s4, s5, s6, rfl, hc, sm⟩
      obtain ⟨x, hx, a, b, rfl, sq1, sq2⟩ := wa.get hv
      have hi : i < ws.length := (List.getElem?_eq_some_iff.mp hx).1
      have hxm := List.mem_of_getElem? hx
      have tk := TK.same sm
      refine ⟨a, _, rfl, tk.seq sq1, rfl, _, _, rfl, _, _, rfl, _, _, rfl, rfl, ?_⟩
      refine ⟨_, rfl, .inl ⟨rfl, _, SqL.of hc⟩, _, rfl, _, rfl, (by show 2 ≤ sizeLine; decide), fun l3 hl3 => ?_⟩
      have s3 : Same H2 (upd H2 l3 (.lst [.int x.1, .int x.2.1])) := same_new hl3
      have e3 : (upd H2 l3 (.lst [.int x.1, .int x.2.1])) l3 = some (.lst [.int x.1, .int x.2.1]) := upd_same
      generalize upd H2 l3 (.lst [.int x.1, .int x.2.1]) = H3 at s3 e3
      refine ⟨_, rfl, b, _, rfl, .inr ((TK.same s3).seq (tk.seq sq2)), fun l4 hl4 => ?_⟩
      have s4' : Same H3 (upd H3 l4 (.lst (x.2.2.map V.int))) := same_new hl4
      have e4 : (upd H3 l4 (.lst (x.2.2.map V.int))) l4 = some (.lst (x.2.2.map V.int)) := upd_same
      generalize upd H3 l4 (.lst (x.2.2.map V.int)) = H4 at s4' e4
      refine ⟨l3, l4, _, _, rfl, rfl, s4' _ _ e3, e4, ?_, fun l5 hl5 => ?_⟩
      · rw [List.length_map]
        have := (N.wok x hxm).rl
        exact Nat.le_of_lt (small1000 (by show 2 + _ ≤ 1000; omega))
      have s5' : Same H4 (upd H4 l5 (.lst ([.int x.1, .int x.2.1] ++ x.2.2.map V.int))) := same_new hl5
      have e5 : (upd H4 l5 (.lst ([.int x.1, .int x.2.1] ++ x.2.2.map V.int))) l5 = some (.lst ((wireN x).map V.int)) := upd_same
      generalize upd H4 l5 (.lst ([.int x.1, .int x.2.1] ++ x.2.2.map V.int)) = H5 at s5' e5
      have hns := nums_sum N hxm
      refine ⟨l5, wireN x, rfl, SqL.of e5, fun i hi => log_small (wireN_bd N hxm i hi).1 (wireN_bd N hxm i hi).2, ?_, ?_, fun H6 s6' => ?_⟩
      · have := hns.2
        rw [List.length_map] at this
        omega
      · have := hns.2
        rw [List.length_map] at this
        omega
      have hwt := wireT_len N hxm
      refine ⟨_, _, rfl, rfl, size24 (by have h5 : ("wire " : Str).length = 5 := by decide +kernel
                                         omega), ?_⟩
      have s26 := ((s3.trans s4').trans s5').trans s6'
      refine ⟨D, _, _, rfl, rfl, s26 _ _ hc, ?_, _, _, _, rfl, ?_, same_mut (sm.trans s26) hD⟩
      · rw [List.length_map, List.length_take, rowsT_length]
        exact Nat.lt_of_le_of_lt (Nat.min_le_right _ _) (by show _ < 2 ^ 24; omega)
      · rw [upd_same, ← Nat.add_assoc, str_take (rowsT_at2 hx)]
        rfl
    · rintro σ H2 ⟨s4, s5, s6, rfl, hc, sm⟩
      rw [hlw, ← rowsT_length, List.take_length] at hc
      have hrs := rows_sum N
      refine ⟨⟨_, rfl⟩, _, rfl, "\n", D, rowsT gs ws, rfl, rfl, .inl (SqL.of hc), ?_, q H2 sm⟩
      have h1 : ("\n" : Str).length = 1 := by decide +kernel
      rw [h1]
      omega
theorem scChkText : FnScope ["text"] ["text"] (defScope sChkText) := ⟨rfl, rfl, rfl, by decide +kernel, rfl, by decide +kernel, by decide +kernel⟩
abbrev DChkText (P : Program) (w : World) (K : PySem.W.Frag) (mg : Str → Option Value) (base : Heap) := Df P w K mg base 1 "check_text" ["text"] spChkText
theorem ok_chkText {f : Addr} {fd : FuncData} (F : Fun K "check_text" "check_text" sChkText f fd) (hm : mg "check_text" = some (.ref f)) (B : Bt mg) : DChkText P w K mg base f fd := by
  refine ⟨?_, hm, F.kp, F.binds fun _ _ _ _ _ _ us hl => match us, hl with | [_], _ => rfl⟩
  refine F.ok scChkText (fun vs H Q E h => ?_) (fun cdv A outer s H vs Q E hr h => ?_)
  · obtain ⟨t, rfl, _⟩ := h
    rfl
  · obtain ⟨t, rfl, q⟩ := h
    refine ⟨_, pss_one (ps_if (pt_not (pt_val (pe_callB call_isi (by rfl) B.isi (by decide +kernel) (pa_cons (pv 0) (pa_cons (pe_bltn (v := .ty "str") (by rfl) B.str (by decide +kernel) rfl) pa_nil))))) (pss_one ps_never) pss_nil), ?_⟩
    exact ⟨_, rfl, _, _, _, _, true, rfl, .ty "str", .base (.str t), kit_ty (by decide +kernel), true, rfl, iteF q⟩
theorem scReadNum : FnScope ["word", "figures"] ["word"] (defScope sReadNum) := ⟨rfl, rfl, rfl, by decide +kernel, rfl, by decide +kernel, by decide +kernel⟩
abbrev DReadNum (P : Program) (w : World) (K : PySem.W.Frag) (mg : Str → Option Value) (base : Heap) := Df P w K mg base 1 "read_number" ["word"] spReadNum
theorem ok_readNum {f : Addr} {fd : FuncData} (F : Fun K "read_number" "read_number" sReadNum f fd) (hm : mg "read_number" = some (.ref f)) (B : Bt mg) (hf : ∃ t, mg "MOST_FIGURES" = some (.int 60 t)) : DReadNum P w K mg base f fd := by
  obtain ⟨tf, hf⟩ := hf
  refine ⟨?_, hm, F.kp, F.binds fun _ _ _ _ _ _ us hl => match us, hl with | [_], _ => rfl⟩
  refine F.ok scReadNum (fun vs H Q E h => ?_) (fun cdv A outer s H vs Q E hr h => ?_)
  · obtain ⟨n, rfl, _⟩ := h
    rfl
  · obtain ⟨n, rfl, hn, q⟩ := h
    have nd := scReadNum.nd
    refine ⟨_, pss_cons (ps_set (i := 1) nd rfl (.inl rfl) (pe_ifExp (pt_val (pe_m1 PySem.F.slot_str_startswith PySem.F.type_str_startswith mt_startswith (pv 0) pe_str)) (pe_slice sl_str (pv 0) (po_some pe_int) po_none) (pv 0))) <|
      pss_cons (ps_if (PW.pt (pw_or (pt_not (pt_val (pe_m0 PySem.F.slot_str_isascii PySem.F.type_str_isascii mt_isascii (pv 1)))) (pw_or (pt_not (pt_val (pe_m0 PySem.F.slot_str_isdigit PySem.F.type_str_isdigit mt_isdigit (pv 1)))) (pw_or1 (pt_cmpR op_gt (pe_callB call_len_str (by rfl) B.len PySem.boot_len (pa_cons (pv 1) pa_nil)) (pe_glob (v := .int 60) (by rfl) hf ⟨_, rfl⟩) (nomark _)))))) (pss_one ps_never) pss_nil) <|
      pss_one <| ps_ret (pe_callTy call_int_str (by rfl) B.int (by decide +kernel) (pa_cons (pv 0) pa_nil)), ?_⟩
    have hl := natT_len hn
    refine ⟨_, rfl, ⟨_, rfl⟩, _, _, rfl, rfl, false, ?_, iteF ?_⟩
    · rw [natT_starts]
    refine ⟨_, rfl, ?_⟩
    refine ⟨_, rfl, ⟨_, rfl⟩, _, rfl, rfl, trivial, true, ?_, iteF ?_⟩
    · rw [natT_isascii]
    refine ⟨_, rfl, ⟨_, rfl⟩, _, rfl, rfl, trivial, true, ?_, iteF ?_⟩
    · rw [natT_isdigit]
    refine ⟨_, rfl, _, rfl, size24 (by omega), _, _, rfl, rfl, false, ?_, iteF ?_⟩
    · exact congrArg V.bl (decide_eq_false (by omega))
    exact ⟨_, rfl, _, _, rfl, natT_int hn, by omega, q⟩
end
end Lag

set_option maxRecDepth 100000
set_option maxHeartbeats 8000000
namespace Lag
open PySem PySem.Spec PyProof.Rows L2
section
variable {P : Program} {w : World} {K : PySem.W.Frag} {mg : Str → Option Value} {base : Heap}
theorem scReadGate : FnScope ["words"] ["words"] (defScope sReadGate) := ⟨rfl, rfl, rfl, by decide +kernel, rfl, by decide +kernel, by decide +kernel⟩
abbrev DReadGate (P : Program) (w : World) (K : PySem.W.Frag) (mg : Str → Option Value) (base : Heap) := Df P w K mg base 2 "read_gate" ["words"] (spReadGate K)
theorem ok_readGate {f fN : Addr} {fd fdN : FuncData} (F : Fun K "read_gate" "read_gate" sReadGate f fd) (hm : mg "read_gate" = some (.ref f)) (B : Bt mg) (DN : DReadNum P w K mg base fN fdN) : DReadGate P w K mg base f fd := by
  refine ⟨?_, hm, F.kp, F.binds fun _ _ _ _ _ _ us hl => match us, hl with | [_], _ => rfl⟩
  refine F.ok scReadGate (fun vs H Q E h => ?_) (fun cdv A outer s H vs Q E hr h => ?_)
  · obtain ⟨l, g, rfl, _⟩ := h
    rfl
  · obtain ⟨l, g, rfl, sq, G, q⟩ := h
    refine ⟨_, pss_cons (ps_if (pt_cmpR op_ne (pe_callB call_len_seq (by rfl) B.len PySem.boot_len (pa_cons (pv 0) pa_nil)) pe_int (nomark _)) (pss_one ps_never) pss_nil) <|
      pss_one <| ps_ret (pe_tup (pa_cons (pe_ix ix_list (pv 0) pe_int (fun _ _ => rfl)) (pa_cons (pe_call DN.ok hr (by rfl) DN.mg DN.kp DN.bd .nil pass0 (pa_cons (pe_ix ix_list (pv 0) pe_int (fun _ _ => rfl)) pa_nil)) pa_nil))), ?_⟩
    refine ⟨_, rfl, l, _, rfl, .inl sq, rfl, false, rfl, iteF ?_⟩
    have hb := G.2.2.1
    refine ⟨_, rfl, l, _, _, _, rfl, rfl, sq, atI_nat (j := 0) rfl, _, rfl, l, _, _, _, rfl, rfl, sq, atI_nat (j := 1) rfl, g.2.toNat, ?_, by omega, ?_⟩
    · rw [nat_of G.2.1]
      rfl
    rw [Int.toNat_of_nonneg G.2.1]
    exact ⟨(by show 2 ≤ sizeLine; decide), fun a ha => q a _ (same_new ha) ⟨a, rfl, .inl (.inl upd_same)⟩⟩
abbrev nReadWire : List Str := ["words", "word", "numbers"]
theorem scReadWire : FnScope nReadWire ["words"] (defScope sReadWire) := ⟨rfl, rfl, rfl, by decide +kernel, rfl, by decide +kernel, by decide +kernel⟩
abbrev DReadWire (P : Program) (w : World) (K : PySem.W.Frag) (mg : Str → Option Value) (base : Heap) := Df P w K mg base 2 "read_wire" ["words"] (spReadWire K)
theorem int_take {l : List Int} {i : Nat} {x : Int} (h : l[i]? = some x) : (l.take (i + 1)).map V.int = (l.take i).map V.int ++ [.int x] := by
  rw [List.take_add_one, h, List.map_append]
  rfl
theorem ok_readWire {f fN : Addr} {fd fdN : FuncData} (F : Fun K "read_wire" "read_wire" sReadWire f fd) (hm : mg "read_wire" = some (.ref f)) (B : Bt mg) (DN : DReadNum P w K mg base fN fdN) : DReadWire P w K mg base f fd := by
  refine ⟨?_, hm, F.kp, F.binds fun _ _ _ _ _ _ us hl => match us, hl with | [_], _ => rfl⟩
  refine F.ok scReadWire (fun vs H Q E h => ?_) (fun cdv A outer s H vs Q E hr h => ?_)
  · obtain ⟨l, x, rfl, _⟩ := h
    rfl
  · obtain ⟨l, x, rfl, sq, hbd, hrl, q⟩ := h
    have nd := scReadWire.nd
    refine ⟨_, pss_cons (ps_if (pt_cmpR op_lt (pe_callB call_len_seq (by rfl) B.len PySem.boot_len (pa_cons (pv 0) pa_nil)) pe_int (nomark _)) (pss_one ps_never) pss_nil) <|
      pss_cons (ps_setLc (i := 2) (own := [("word", 1)]) (g := gName 1) (tt := tYes) (te := tCall spReadNum [] E0 (tCons (tVar 1) tNil)) rfl nd rfl rfl (sw_true rfl rfl rfl (by decide +kernel)) (pi_list (pv 0)) (blkOk_by (N := nReadWire) (sc := defScope sReadWire) (own := [("word", 1)]) (by decide +kernel)) (fun _ _ _ _ _ => pg_name (i := 1) nd rfl (.inl rfl)) (fun _ _ _ _ _ => pts_nil) (fun _ _ _ _ _ => pe_call DN.ok hr (by rfl) DN.mg DN.kp DN.bd .nil pass0 (pa_cons (pv 1) pa_nil))) <|
      pss_one <| ps_ret (pe_tup (pa_cons (pe_ix ix_list (pv 2) pe_int (fun _ _ => rfl)) (pa_cons (pe_ix ix_list (pv 2) pe_int (fun _ _ => rfl)) (pa_cons (pe_callTy call_tuple_of (by rfl) B.tuple (by decide +kernel) (pa_cons (pe_slice sl_list (pv 2) (po_some pe_int) po_none) pa_nil)) pa_nil)))), ?_⟩
    have hwn : (wireN x).length = x.2.2.length + 2 := rfl
    refine ⟨_, rfl, l, _, rfl, .inl sq, _, _, rfl, rfl, false, ?_, iteF ?_⟩
    · refine congrArg V.bl (decide_eq_false ?_)
      rw [List.length_map, List.length_map, hwn]
      omega
    refine ⟨_, rfl, l, rfl, ⟨_, sq⟩, fun D hD => ?_⟩
    refine lc_list (K := K) (a := l) (xs := strV ((wireN x).map numT)) (fun i Hc => Hc D = some (.lst (((wireN x).take i).map V.int)) ∧ Same H Hc) ⟨upd_same, same_new hD⟩ (fun i Hc _ ⟨_, sm⟩ => sm.seq sq) ?_ ?_
    · rintro i v Hc hv ⟨hc, sm⟩
      obtain ⟨z, hz, rfl⟩ : ∃ z, (wireN x)[i]? = some z ∧ v = .str (numT z) := by
        rw [List.getElem?_map, List.getElem?_map] at hv
        cases e : (wireN x)[i]? with
        | none => rw [e] at hv; cases hv
        | some z => rw [e] at hv; cases hv; exact ⟨z, rfl, rfl⟩
      have hi : i < (wireN x).length := (List.getElem?_eq_some_iff.mp hz).1
      have hb := hbd z (List.mem_of_getElem? hz)
      refine ⟨rfl, tyes ?_⟩
      refine ⟨_, rfl, z.toNat, ?_, by omega, _, hc, ?_, ?_, same_mut sm hD⟩
      · rw [nat_of hb.1]
        rfl
      · rw [List.length_map, List.length_take]
        exact small1000 (by omega)
      · rw [upd_same, int_take hz, Int.toNat_of_nonneg hb.1]
    rintro H1 ⟨hc, sm⟩
    rw [List.length_map, List.length_map, List.take_length] at hc
    refine gn_norm (σ' := [some (.ref l), none, some (.ref D)]) rfl ?_
    refine ⟨_, rfl, D, _, _, _, rfl, rfl, SqL.of hc, atI_nat (j := 0) rfl, _, rfl, D, _, _, _, rfl, rfl, SqL.of hc, atI_nat (j := 1) rfl, _, rfl, _, rfl, D, _, rfl, SqL.of hc, fun l2 hl2 => ?_⟩
    have ec : cutV ((wireN x).map V.int) (some 2) none = x.2.2.map V.int := (cut_from (xs := (wireN x).map V.int) 2).trans rfl
    rw [ec]
    have s2 : Same H1 (upd H1 l2 (.lst (x.2.2.map V.int))) := same_new hl2
    have e2 : (upd H1 l2 (.lst (x.2.2.map V.int))) l2 = some (.lst (x.2.2.map V.int)) := upd_same
    generalize upd H1 l2 (.lst (x.2.2.map V.int)) = H2 at s2 e2
    refine ⟨l2, _, rfl, .inl ⟨SqL.of e2, fun l3 hl3 => ?_⟩⟩
    have s3 : Same H2 (upd H2 l3 (.tup (x.2.2.map V.int))) := same_new hl3
    have e3 : (upd H2 l3 (.tup (x.2.2.map V.int))) l3 = some (.tup (x.2.2.map V.int)) := upd_same
    generalize upd H2 l3 (.tup (x.2.2.map V.int)) = H3 at s3 e3
    refine ⟨(by show 3 ≤ sizeLine; decide), fun a ha => ?_⟩
    have s4 := same_new (o := .tup [.int x.1, .int x.2.1, .ref l3]) ha
    exact q a _ (((sm.trans s2).trans s3).trans s4) ⟨a, l3, rfl, .inl (.inl upd_same), .inl (.inl (s4 _ _ e3))⟩
abbrev nReadNet : List Str := ["text", "row", "rows", "words", "gates", "wires", "net"]
theorem scReadNet : FnScope nReadNet ["text"] (defScope sReadNet) := ⟨rfl, rfl, rfl, by decide +kernel, rfl, by decide +kernel, by decide +kernel⟩
abbrev DReadNet (P : Program) (w : World) (K : PySem.W.Frag) (mg : Str → Option Value) (base : Heap) (C : Addr) := Df P w K mg base 8 "read_net" ["text"] (spReadNet K C)
abbrev tSplitB (i : Nat) : TE := tM1 (fun x xs H Q => ∃ a b, x = .str a ∧ xs = [.str b] ∧ (b.length == 0) = false ∧ a.length + 2 ≤ sizeLine ∧ rNewStrs (Txt.split a b) H Q) (tVar i) (tC (.str " "))
/-- words of a row -/
def WordV (D : Addr) (H : Hp) (v : V) (t : Str) : Prop := ∃ a, v = .ref a ∧ a ≠ D ∧ H a = some (.lst (strV (Txt.split t " ")))
theorem WordV.same {D : Addr} {H H' : Hp} {v : V} {t : Str} (s : Same H H') (h : WordV D H v t) : WordV D H' v t := by
  obtain ⟨a, e, n, h⟩ := h
  exact ⟨a, e, n, s _ _ h⟩
theorem WordV.upd {D : Addr} {H : Hp} {o : HO} {v : V} {t : Str} (h : WordV D H v t) : WordV D (upd H D o) v t := by
  obtain ⟨a, e, n, h⟩ := h
  exact ⟨a, e, n, by rw [upd_ne n]; exact h⟩
theorem row_kind {gs : List Gt} {ws : List Wr} {i : Nat} {t : Str} (h : (rowsT gs ws)[i]? = some t) : (∃ g, gs[i]? = some g ∧ t = gateT g) ∨ (gs.length ≤ i ∧ ∃ x, ws[i - gs.length]? = some x ∧ t = wireT x) := by
  unfold rowsT at h
  by_cases hi : i < gs.length
  · rw [List.getElem?_append_left (by rw [List.length_map]; exact hi), List.getElem?_map] at h
    rw [List.getElem?_eq_getElem hi] at h ⊢
    exact .inl ⟨_, rfl, (Option.some.inj h).symm⟩
  · rw [List.getElem?_append_right (by rw [List.length_map]; omega), List.length_map, List.getElem?_map] at h
    refine .inr ⟨by omega, ?_⟩
    cases e : ws[i - gs.length]? with
    | none =>
      rw [e] at h
      cases h
    | some x =>
      rw [e] at h
      exact ⟨x, rfl, (Option.some.inj h).symm⟩
theorem cut1 {v : V} {l : List V} : cutV (v :: l) (some 1) none = l := (cut_from (xs := v :: l) 1).trans rfl
theorem ok_readNet {f fT fG fW fN fI C : Addr} {fd fdT fdG fdW fdN fdI : FuncData} (F : Fun K "read_net" "read_net" sReadNet f fd) (hm : mg "read_net" = some (.ref f)) (B : Bt mg) (T : NT K mg C) (DT : DChkText P w K mg base fT fdT) (DG : DReadGate P w K mg base fG fdG) (DW : DReadWire P w K mg base fW fdW) (DN : DNetT P w K mg base C fN fdN)
    (MK : Mk K C fI) (init : FnOk P w K mg base CX0 6 fI fdI ["self", "gates", "wires"] (spInit K C)) (bI : Binds K fdI ["self", "gates", "wires"] []) : DReadNet P w K mg base C f fd := by
  refine ⟨?_, hm, F.kp, F.binds fun _ _ _ _ _ _ us hl => match us, hl with | [_], _ => rfl⟩
  refine F.ok scReadNet (fun vs H Q E h => ?_) (fun cdv A outer s H vs Q E hr h => ?_)
  · obtain ⟨gs, ws, rfl, _⟩ := h
    rfl
  · obtain ⟨gs, ws, rfl, N, q⟩ := h
    have nd := scReadNet.nd
    have hr2 : Room 2 _ := hr.mono (by decide)
    have hr1 : Room 1 _ := hr.mono (by decide)
    refine ⟨_, pss_cons (ps_expr (pe_call DT.ok hr1 (by rfl) DT.mg DT.kp DT.bd .nil pass0 (pa_cons (pv 0) pa_nil))) <|
      pss_cons (ps_setLc (i := 2) (own := [("row", 1)]) (g := gName 1) (tt := tYes) (te := tSplitB 1) rfl nd rfl rfl (sw_true rfl rfl rfl (by decide +kernel)) (pi_list (pe_split (pv 0) pe_str)) (blkOk_by (N := nReadNet) (sc := defScope sReadNet) (own := [("row", 1)]) (by decide +kernel)) (fun _ _ _ _ _ => pg_name (i := 1) nd rfl (.inl rfl)) (fun _ _ _ _ _ => pts_nil) (fun _ _ _ _ _ => pe_split (pv 1) pe_str)) <|
      pss_cons (ps_setLc (i := 4) (own := [("words", 3)]) (g := gName 3) (tt := tTest (tOp rEq (tOp (rIxL K) (tVar 3) (tC (.int 0))) (tC (.str "gate")))) (te := tCall (spReadGate K) [] E0 (tCons (tSl (rSlL K) (tVar 3) (tPart (tC (.int 1))) tNoPart) tNil)) rfl nd rfl rfl (sw_true rfl rfl rfl (by decide +kernel)) (pi_list (pv 2)) (blkOk_by (N := nReadNet) (sc := defScope sReadNet) (own := [("words", 3)]) (by decide +kernel)) (fun _ _ _ _ _ => pg_name (i := 3) nd rfl (.inl rfl)) (fun _ _ _ _ _ => pts_one (pt_cmpR op_eq (pe_ix ix_list (pv 3) pe_int (fun _ _ => rfl)) pe_str (nomark _))) (fun _ _ _ _ _ => pe_call DG.ok hr2 (by rfl) DG.mg DG.kp DG.bd .nil pass0 (pa_cons (pe_slice sl_list (pv 3) (po_some pe_int) po_none) pa_nil))) <|
      pss_cons (ps_setLc (i := 5) (own := [("words", 3)]) (g := gName 3) (tt := tTest (tOp rEq (tOp (rIxL K) (tVar 3) (tC (.int 0))) (tC (.str "wire")))) (te := tCall (spReadWire K) [] E0 (tCons (tSl (rSlL K) (tVar 3) (tPart (tC (.int 1))) tNoPart) tNil)) rfl nd rfl rfl (sw_true rfl rfl rfl (by decide +kernel)) (pi_list (pv 2)) (blkOk_by (N := nReadNet) (sc := defScope sReadNet) (own := [("words", 3)]) (by decide +kernel)) (fun _ _ _ _ _ => pg_name (i := 3) nd rfl (.inl rfl)) (fun _ _ _ _ _ => pts_one (pt_cmpR op_eq (pe_ix ix_list (pv 3) pe_int (fun _ _ => rfl)) pe_str (nomark _))) (fun _ _ _ _ _ => pe_call DW.ok hr2 (by rfl) DW.mg DW.kp DW.bd .nil pass0 (pa_cons (pe_slice sl_list (pv 3) (po_some pe_int) po_none) pa_nil))) <|
      pss_cons (ps_try_thru0 (pss_one (ps_set (i := 6) nd rfl (.inl rfl) (pe_make MK init hr (by rfl) T.mg bI .nil pass0 (pa_cons (pv 4) (pa_cons (pv 5) pa_nil)))))) <|
      pss_cons (ps_if (pt_cmpR op_ne (pe_call DN.ok hr2 (by rfl) DN.mg DN.kp DN.bd .nil pass0 (pa_cons (pv 6) pa_nil)) (pv 0) (nomark _)) (pss_one ps_never) pss_nil) <|
      pss_one <| ps_ret (pv 6), ?_⟩
    have hgl := N.gl
    have hwl := N.wl
    have hrl := rowsT_length gs ws
    refine ⟨_, rfl, _, rfl, ?_⟩
    -- rows
    refine ⟨_, rfl, ⟨_, rfl⟩, _, _, rfl, rfl, (by decide +kernel), size24 (by have := netT_len N; omega), fun l0 hl0 => ?_⟩
    rw [netT_split N]
    have s0 : Same H (upd H l0 (.lst (strV (rowsT gs ws)))) := same_new hl0
    have e0 : (upd H l0 (.lst (strV (rowsT gs ws)))) l0 = some (.lst (strV (rowsT gs ws))) := upd_same
    generalize upd H l0 (.lst (strV (rowsT gs ws))) = H0 at s0 e0
    refine ⟨l0, rfl, ⟨_, SqL.of e0⟩, fun D hD => ?_⟩
    refine lc_list (K := K) (a := l0) (xs := strV (rowsT gs ws)) (fun i Hc => ∃ acc, Hc D = some (.lst acc) ∧ acc.length = i ∧ All2 (WordV D Hc) acc ((rowsT gs ws).take i) ∧ Same H0 Hc) ⟨[], upd_same, rfl, All2.nil, same_new hD⟩ (fun i Hc _ ⟨_, _, _, _, sm⟩ => SqL.of (sm _ _ e0)) ?_ ?_
    · rintro i v Hc hv ⟨acc, hc, hal, aa, sm⟩
      obtain ⟨t, ht, rfl⟩ : ∃ t, (rowsT gs ws)[i]? = some t ∧ v = .str t := by
        rw [List.getElem?_map] at hv
        cases e : (rowsT gs ws)[i]? with
        | none => rw [e] at hv; cases hv
        | some t => rw [e] at hv; cases hv; exact ⟨t, rfl, rfl⟩
      have hi : i < (rowsT gs ws).length := (List.getElem?_eq_some_iff.mp ht).1
      have htl : t.length ≤ 413 := by
        rcases row_kind ht with ⟨g, hg, rfl⟩ | ⟨_, x, hx, rfl⟩
        · have := gateT_len (N.gok g (List.mem_of_getElem? hg))
          omega
        · exact (wireT_len N (List.mem_of_getElem? hx)).2
      refine ⟨rfl, tyes ?_⟩
      refine ⟨_, rfl, ⟨_, rfl⟩, _, _, rfl, rfl, (by decide +kernel), size24 (by omega), fun l1 hl1 => ?_⟩
      have s1 : Same Hc (upd Hc l1 (.lst (strV (Txt.split t " ")))) := same_new hl1
      have n1 : l1 ≠ D := fun z => by rw [z, hc] at hl1; cases hl1
      have w1 : WordV D (upd Hc l1 (.lst (strV (Txt.split t " ")))) (.ref l1) t := ⟨l1, rfl, n1, upd_same⟩
      refine ⟨acc, s1 _ _ hc, by rw [hal]; exact Nat.lt_of_lt_of_le hi (by show _ ≤ 2 ^ 24; omega), acc ++ [.ref l1], upd_same, by rw [List.length_append, hal]; rfl, ?_, same_mut (sm.trans s1) hD⟩
      rw [List.take_add_one, ht]
      exact (aa.imp fun _ _ z => (z.same s1).upd).snoc w1.upd
    rintro H1 ⟨rv, hrv, hrvl, ra, sm1⟩
    rw [List.length_map, List.take_length] at ra
    rw [List.length_map] at hrvl
    have sH1 := s0.trans sm1
    refine gn_norm (σ' := [some (.str (netT gs ws)), none, some (.ref D), none, none, none, none]) rfl ?_
    -- gates
    refine ⟨_, rfl, D, rfl, ⟨_, SqL.of hrv⟩, fun G hG => ?_⟩
    refine lc_list (K := K) (a := D) (xs := rv) (fun i Hc => ∃ acc, Hc G = some (.lst acc) ∧ acc.length ≤ i ∧ All2 (GateV K Hc) acc (gs.take i) ∧ Same H1 Hc) ⟨[], upd_same, Nat.zero_le _, All2.nil, same_new hG⟩ (fun i Hc _ ⟨_, _, _, _, sm⟩ => SqL.of (sm _ _ hrv)) ?_ ?_
    · rintro i v Hc hv ⟨acc, hc, hal, aa, sm⟩
      obtain ⟨t, ht, a, rfl, _, ha⟩ := ra.get hv
      have hi : i < (rowsT gs ws).length := (List.getElem?_eq_some_iff.mp ht).1
      rcases row_kind ht with ⟨g, hg, rfl⟩ | ⟨hge, x, hx, rfl⟩
      · have Gk := N.gok g (List.mem_of_getElem? hg)
        rw [gateT_split Gk] at ha
        refine ⟨rfl, ?_⟩
        refine ⟨_, rfl, a, _, 0, _, rfl, rfl, SqL.of (sm _ _ ha), atI_nat (j := 0) rfl, rfl, _, rfl, ite2 (fun _ => ?_) (fun e => absurd (decide_eq_true rfl) e)⟩
        refine ⟨_, rfl, _, rfl, a, _, rfl, SqL.of (sm _ _ ha), fun l1 hl1 => ?_⟩
        have ec : cutV (strV ["gate", g.1, numT g.2]) (some 1) none = [.str g.1, .str (numT g.2)] := cut1
        rw [ec]
        have s1 : Same Hc (upd Hc l1 (.lst [.str g.1, .str (numT g.2)])) := same_new hl1
        have e1 : (upd Hc l1 (.lst [.str g.1, .str (numT g.2)])) l1 = some (.lst [.str g.1, .str (numT g.2)]) := upd_same
        generalize upd Hc l1 (.lst [.str g.1, .str (numT g.2)]) = Hd at s1 e1
        refine ⟨l1, g, rfl, SqL.of e1, Gk, fun b He s2 gv2 => ?_⟩
        have hcE := s2 _ _ (s1 _ _ hc)
        have t' := TK.lst (o := .lst (acc ++ [.ref b])) hcE
        refine ⟨acc, hcE, Nat.lt_of_le_of_lt hal (Nat.lt_of_lt_of_le hi (by show _ ≤ 2 ^ 24; omega)), acc ++ [.ref b], upd_same, by rw [List.length_append]; show _ + 1 ≤ _; omega, ?_, same_mut ((sm.trans s1).trans s2) hG⟩
        rw [List.take_add_one, hg]
        exact (aa.imp fun _ _ z => z.tk (((TK.same s1).trans (TK.same s2)).trans t')).snoc (gv2.tk t')
      · have W := N.wok x (List.mem_of_getElem? hx)
        rw [wireT_split W.r] at ha
        refine ⟨rfl, ?_⟩
        refine ⟨_, rfl, a, _, 0, _, rfl, rfl, SqL.of (sm _ _ ha), atI_nat (j := 0) rfl, rfl, _, rfl, ite2 (fun e => absurd (V.str.inj (of_decide_eq_true e)) (by decide +kernel)) (fun _ => ?_)⟩
        refine ⟨acc, hc, by omega, ?_, sm⟩
        rw [List.take_of_length_le (by omega), ← List.take_of_length_le hge]
        exact aa
    rintro H2 ⟨gv, hgv, _, ga, sm2⟩
    rw [hrvl, List.take_of_length_le (by omega)] at ga
    refine gn_norm (σ' := [some (.str (netT gs ws)), none, some (.ref D), none, some (.ref G), none, none]) rfl ?_
    -- wires
    have hrv2 := sm2 _ _ hrv
    refine ⟨_, rfl, D, rfl, ⟨_, SqL.of hrv2⟩, fun L hL => ?_⟩
    refine lc_list (K := K) (a := D) (xs := rv) (fun i Hc => ∃ acc, Hc L = some (.lst acc) ∧ acc.length ≤ i ∧ All2 (WireV K Hc) acc (ws.take (i - gs.length)) ∧ Same H2 Hc) ⟨[], upd_same, Nat.zero_le _, by rw [Nat.zero_sub]; exact All2.nil, same_new hL⟩ (fun i Hc _ ⟨_, _, _, _, sm⟩ => SqL.of (sm _ _ hrv2)) ?_ ?_
    · rintro i v Hc hv ⟨acc, hc, hal, aa, sm⟩
      obtain ⟨t, ht, a, rfl, _, ha⟩ := ra.get hv
      have hi : i < (rowsT gs ws).length := (List.getElem?_eq_some_iff.mp ht).1
      have smA := sm2.trans sm
      rcases row_kind ht with ⟨g, hg, rfl⟩ | ⟨hge, x, hx, rfl⟩
      · have Gk := N.gok g (List.mem_of_getElem? hg)
        have hgi : i < gs.length := (List.getElem?_eq_some_iff.mp hg).1
        rw [gateT_split Gk] at ha
        refine ⟨rfl, ?_⟩
        refine ⟨_, rfl, a, _, 0, _, rfl, rfl, SqL.of (smA _ _ ha), atI_nat (j := 0) rfl, rfl, _, rfl, ite2 (fun e => absurd (V.str.inj (of_decide_eq_true e)) (by decide +kernel)) (fun _ => ?_)⟩
        refine ⟨acc, hc, by omega, ?_, sm⟩
        rw [show i + 1 - gs.length = i - gs.length by omega]
        exact aa
      · have hxm := List.mem_of_getElem? hx
        have W := N.wok x hxm
        rw [wireT_split W.r] at ha
        refine ⟨rfl, ?_⟩
        refine ⟨_, rfl, a, _, 0, _, rfl, rfl, SqL.of (smA _ _ ha), atI_nat (j := 0) rfl, rfl, _, rfl, ite2 (fun _ => ?_) (fun e => absurd (decide_eq_true rfl) e)⟩
        refine ⟨_, rfl, _, rfl, a, _, rfl, SqL.of (smA _ _ ha), fun l1 hl1 => ?_⟩
        have ec : cutV (strV ("wire" :: (wireN x).map numT)) (some 1) none = strV ((wireN x).map numT) := cut1
        rw [ec]
        have s1 : Same Hc (upd Hc l1 (.lst (strV ((wireN x).map numT)))) := same_new hl1
        have e1 : (upd Hc l1 (.lst (strV ((wireN x).map numT)))) l1 = some (.lst (strV ((wireN x).map numT))) := upd_same
        generalize upd Hc l1 (.lst (strV ((wireN x).map numT))) = Hd at s1 e1
        refine ⟨l1, x, rfl, SqL.of e1, wireN_bd N hxm, by have := W.rl; omega, fun b He s2 wv2 => ?_⟩
        have hcE := s2 _ _ (s1 _ _ hc)
        have t' := TK.lst (o := .lst (acc ++ [.ref b])) hcE
        refine ⟨acc, hcE, Nat.lt_of_le_of_lt hal (Nat.lt_of_lt_of_le hi (by show _ ≤ 2 ^ 24; omega)), acc ++ [.ref b], upd_same, by rw [List.length_append]; show _ + 1 ≤ _; omega, ?_, same_mut ((sm.trans s1).trans s2) hL⟩
        rw [show i + 1 - gs.length = i - gs.length + 1 by omega, List.take_add_one, hx]
        exact (aa.imp fun _ _ z => z.tk (((TK.same s1).trans (TK.same s2)).trans t')).snoc (wv2.tk t')
    rintro H3 ⟨wv, hwv, _, wa, sm3⟩
    rw [hrvl, hrl, Nat.add_sub_cancel_left, List.take_length] at wa
    refine gn_norm (σ' := [some (.str (netT gs ws)), none, some (.ref D), none, some (.ref G), some (.ref L), none]) rfl ?_
    -- net
    have LGa : LG K H3 G gs := ⟨gv, sm3 _ _ hgv, ga.imp fun _ _ z => z.tk (TK.same sm3)⟩
    have LWa : LW K H3 L ws := ⟨wv, hwv, wa⟩
    have sH3 := (sH1.trans sm2).trans sm3
    refine ⟨_, rfl, _, rfl, ?_⟩
    refine net_in LGa.rg LWa.rw N fun p ng nw H4 NA4 s4 hp hng hnw => ?_
    refine gn_norm (σ' := [some (.str (netT gs ws)), none, some (.ref D), none, some (.ref G), some (.ref L), some (.ref p)]) rfl ?_
    refine ⟨_, rfl, p, ng, nw, gs, ws, rfl, NA4, N, fun H5 s5 => ?_⟩
    refine ⟨_, rfl, rfl, false, ?_, iteF ?_⟩
    · rw [decide_eq_true rfl]
      rfl
    refine ⟨_, rfl, q p ng nw H5 ((sH3.trans s4).trans s5) (NA4.same s5) (sH3.free hp) (sH3.free hng) (sH3.free hnw)⟩
end
end Lag

set_option maxRecDepth 100000
set_option maxHeartbeats 8000000
namespace Lag
open PySem PySem.Spec PyProof.Rows L2
abbrev sLText : Stmt := topS 46 -- @_law_text
abbrev sRight : Stmt := topS 54 -- @_law_right
abbrev sLaw : Stmt := topS 55 -- @law
theorem kind_of' : True := trivial
def spLText (K : PySem.W.Frag) : Sp := fun vs H Q _ => ∃ (lg lw : Addr) (gs : List Gt) (ws : List Wr), vs = [.ref lg, .ref lw] ∧ LG K H lg gs ∧ LW K H lw ws ∧ NetOk gs ws ∧ ∀ H', Same H H' → Q (.str (netT gs ws)) H'
section
variable {P : Program} {w : World} {K : PySem.W.Frag} {mg : Str → Option Value} {base : Heap}
abbrev nLText : List Str := ["_law_gates", "_law_wires", "_law_kind", "_law_wait", "_law_rows", "_law_start", "_law_end", "_law_regs", "_law_number_here"]
theorem scLText : FnScope nLText ["_law_gates", "_law_wires"] (defScope sLText) := ⟨rfl, rfl, rfl, by decide +kernel, rfl, by decide +kernel, by decide +kernel⟩
abbrev DLText (P : Program) (w : World) (K : PySem.W.Frag) (mg : Str → Option Value) (base : Heap) := Df P w K mg base 1 "_law_text" ["_law_gates", "_law_wires"] (spLText K)
abbrev rAddS : V → V → Hp → VK → Prop := fun x y H Q => ∃ i j, x = .str i ∧ y = .str j ∧ i.length + j.length ≤ sizeLine ∧ Q (.str (i ++ j)) H
abbrev tLGate : TE := tOp rAddS (tOp rAddS (tOp rAddS (tC (.str "gate ")) (tVar 2)) (tC (.str " "))) (tStrI 3)
theorem ok_ltext {f : Addr} {fd : FuncData} (F : Fun K "_law_text" "_law_text" sLText f fd) (hm : mg "_law_text" = some (.ref f)) (B : Bt mg) : DLText P w K mg base f fd := by
  refine ⟨?_, hm, F.kp, F.binds fun _ _ _ _ _ _ us hl => match us, hl with | [_, _], _ => rfl⟩
  refine F.ok scLText (fun vs H Q E h => ?_) (fun cdv A outer s H vs Q E hr h => ?_)
  · obtain ⟨lg, lw, gs, ws, rfl, _⟩ := h
    rfl
  · obtain ⟨lg, lw, gs, ws, rfl, LG0, LW0, N, q⟩ := h
    have nd := scLText.nd
    refine ⟨_, pss_cons (ps_setLc (i := 4) (own := [("_law_kind", 2), ("_law_wait", 3)]) (g := gTup K 2 (gCons (gName 2) (gCons (gName 3) gNil))) (tt := tYes) (te := tLGate) rfl nd rfl rfl (sw_true rfl rfl rfl (by decide +kernel)) (pi_list (pv 0)) (blkOk_by (N := nLText) (sc := defScope sLText) (own := [("_law_kind", 2), ("_law_wait", 3)]) (by decide +kernel)) (fun _ _ _ _ _ => pg_tup rfl (pgs_cons (pg_name (i := 2) nd rfl (.inl rfl)) (pgs_cons (pg_name (i := 3) nd rfl (.inl rfl)) pgs_nil))) (fun _ _ _ _ _ => pts_nil)
          (fun _ _ _ _ _ => pe_op op_add_str (pe_op op_add_str (pe_op op_add_str pe_str (pv 2)) pe_str) (pe_callTy call_str_int (by rfl) B.str (by decide +kernel) (pa_cons (pv 3) pa_nil)))) <|
      pss_cons (ps_for PassesOwn.never rfl (pi_list (pv 1)) (pg_tup rfl (pgs_cons (pg_name (i := 5) nd rfl (.inl rfl)) (pgs_cons (pg_name (i := 6) nd rfl (.inl rfl)) (pgs_cons (pg_name (i := 7) nd rfl (.inl rfl)) pgs_nil)))) <|
        pss_one <| ps_expr (pe_bm PySem.F.plainAttrs_list PySem.F.slot_list_append PySem.F.type_list_append mt_append (pv 4) (pa_cons (pe_join pe_str (pe_op op_cat (pe_lst (pa_cons pe_str pa_nil)) (pe_lc (own := [("_law_number_here", 8)]) (g := gName 8) (tt := tYes) (te := tStrI 8) rfl nd (pi_tup (pe_op op_catA (pe_tup (pa_cons (pv 5) (pa_cons (pv 6) pa_nil))) (pv 7))) (blkOk_by (N := nLText) (sc := defScope sLText) (own := [("_law_number_here", 8)]) (by decide +kernel)) (fun _ _ _ _ _ => pg_name (i := 8) nd rfl (.inl rfl)) (fun _ _ _ _ _ => pts_nil) (fun _ _ _ _ _ => pe_callTy call_str_int (by rfl) B.str (by decide +kernel) (pa_cons (pv 8) pa_nil))))) pa_nil))) <|
      pss_one <| ps_ret <| pe_join pe_str (pv 4), ?_⟩
    have hgl := N.gl
    have hwl := N.wl
    obtain ⟨gv, hgv, ga⟩ := id LG0
    obtain ⟨wv, hwv, wa⟩ := id LW0
    have hlg : gv.length = gs.length := ga.1
    have hlw : wv.length = ws.length := wa.1
    refine ⟨_, rfl, lg, rfl, ⟨_, SqL.of hgv⟩, fun D hD => ?_⟩
    refine lc_list (K := K) (a := lg) (xs := gv) (fun i Hc => Hc D = some (.lst (strV ((rowsT gs ws).take i))) ∧ Same H Hc) ⟨upd_same, same_new hD⟩ (fun i Hc _ ⟨_, sm⟩ => SqL.of (sm _ _ hgv)) ?_ ?_
    · rintro i v Hc hv ⟨hc, sm⟩
      obtain ⟨g, hg, a, rfl, sq⟩ := ga.get hv
      have hi : i < gs.length := (List.getElem?_eq_some_iff.mp hg).1
      have G := N.gok g (List.mem_of_getElem? hg)
      have h1 := (kinds_free _ G.1).2
      have h2 := num_len G.2.1 (by have := G.2.2.1; omega)
      have h3 : ("gate " : Str).length = 5 := by decide +kernel
      have h4 : (" " : Str).length = 1 := by decide +kernel
      refine ⟨a, _, rfl, (TK.same sm).seq sq, rfl, _, _, rfl, _, _, rfl, rfl, rfl, tyes ?_⟩
      refine ⟨_, rfl, _, _, rfl, rfl, size24 (by omega), _, _, rfl, rfl, size24 (by rw [Str.length_append]; omega), _, rfl, _, rfl, log_small G.2.1 (by have := G.2.2.1; omega), _, _, rfl, rfl, size24 (by rw [Str.length_append, Str.length_append]; show _ + (numT g.2).length ≤ _; omega), _, hc, ?_, ?_, same_mut sm hD⟩
      · rw [List.length_map, List.length_take]
        exact small1000 (by omega)
      · rw [upd_same, str_take (rowsT_at1 hg)]
        rfl
    rintro H1 ⟨hD1, sm1⟩
    rw [hlg] at hD1
    have hwv1 := sm1 _ _ hwv
    refine gn_norm (σ' := [some (.ref lg), some (.ref lw), none, none, some (.ref D), none, none, none, none]) rfl ?_
    refine ⟨_, rfl, lw, rfl, ⟨_, SqL.of hwv1⟩, ?_⟩
    refine for_list (K := K) (a := lw) (xs := wv) (fun i σ H2 => ∃ (s5 s6 s7 : Option V), σ = [some (.ref lg), some (.ref lw), none, none, some (.ref D), s5, s6, s7, none] ∧ H2 D = some (.lst (strV ((rowsT gs ws).take (gs.length + i)))) ∧ Same H H2) ⟨_, _, _, rfl, hD1, sm1⟩ (fun i σ H2 _ ⟨_, _, _, _, _, sm⟩ => SqL.of (sm _ _ hwv)) ?_ ?_
    · rintro i v σ H2 hv ⟨s5, s6, s7, rfl, hc, sm⟩
      obtain ⟨x, hx, a, b, rfl, sq1, sq2⟩ := wa.get hv
      have hi : i < ws.length := (List.getElem?_eq_some_iff.mp hx).1
      have hxm := List.mem_of_getElem? hx
      have hrl := (N.wok x hxm).rl
      have tk := TK.same sm
      refine ⟨a, _, rfl, tk.seq sq1, rfl, _, _, rfl, _, _, rfl, _, _, rfl, rfl, ?_⟩
      refine ⟨_, rfl, .inl ⟨rfl, _, SqL.of hc⟩, ⟨_, rfl⟩, (by show 1 ≤ sizeLine; decide), fun l3 hl3 => ?_⟩
      have s3 : Same H2 (upd H2 l3 (.lst [.str "wire"])) := same_new hl3
      have e3 : (upd H2 l3 (.lst [.str "wire"])) l3 = some (.lst [.str "wire"]) := upd_same
      generalize upd H2 l3 (.lst [.str "wire"]) = H3 at s3 e3
      refine ⟨_, rfl, _, rfl, (by show 2 ≤ sizeLine; decide), fun l4 hl4 => ?_⟩
      have s4 : Same H3 (upd H3 l4 (.tup [.int x.1, .int x.2.1])) := same_new hl4
      have e4 : (upd H3 l4 (.tup [.int x.1, .int x.2.1])) l4 = some (.tup [.int x.1, .int x.2.1]) := upd_same
      generalize upd H3 l4 (.tup [.int x.1, .int x.2.1]) = H4 at s4 e4
      refine ⟨_, rfl, catA (.inl (.inl e4)) ((TK.same (s3.trans s4)).seq (tk.seq sq2)) ?_ fun c H5 s5' sc => ?_⟩
      · rw [List.length_map]
        exact Nat.le_of_lt (small1000 (by show 2 + _ ≤ 1000; omega))
      have sc' : SqT K H5 c ((wireN x).map V.int) := sc
      refine ⟨c, rfl, ⟨_, sc'⟩, fun L hL => ?_⟩
      have hns := nums_sum N hxm
      have hnl : (wireN x).length ≤ 102 := by
        have := hns.2
        rw [List.length_map] at this
        exact this
      refine lc_tup (K := K) (a := c) (xs := (wireN x).map V.int) (fun i Hc => Hc L = some (.lst (strV (((wireN x).map numT).take i))) ∧ Same H5 Hc) ⟨upd_same, same_new hL⟩ (fun i Hc _ ⟨_, sm⟩ => (TK.same sm).seq sc') ?_ ?_
      · rintro j v Hc hv ⟨hc, sm5⟩
        obtain ⟨z, hz, rfl⟩ := int_atB hv
        have hj : j < (wireN x).length := (List.getElem?_eq_some_iff.mp hz).1
        have hb := wireN_bd N hxm z (List.mem_of_getElem? hz)
        refine ⟨rfl, tyes ?_⟩
        refine ⟨_, rfl, z, rfl, log_small hb.1 hb.2, _, hc, ?_, ?_, same_mut sm5 hL⟩
        · rw [List.length_map, List.length_take]
          exact small1000 (by omega)
        · rw [upd_same, str_take (x := numT z) (by rw [List.getElem?_map, hz]; rfl)]
      rintro H6 ⟨hc6, s6'⟩
      rw [List.length_map, ← List.length_map (f := numT), List.take_length] at hc6
      have s26 := ((s3.trans s4).trans s5').trans s6'
      refine ⟨l3, L, _, _, rfl, rfl, ((s4.trans s5').trans s6') _ _ e3, hc6, ?_, fun l7 hl7 => ?_⟩
      · rw [List.length_map, List.length_map]
        exact Nat.le_of_lt (small1000 (by show 1 + _ ≤ 1000; omega))
      have s7' : Same H6 (upd H6 l7 (.lst ([.str "wire"] ++ strV ((wireN x).map numT)))) := same_new hl7
      have e7 : (upd H6 l7 (.lst ([.str "wire"] ++ strV ((wireN x).map numT)))) l7 = some (.lst (strV ("wire" :: (wireN x).map numT))) := upd_same
      generalize upd H6 l7 (.lst ([.str "wire"] ++ strV ((wireN x).map numT))) = H7 at s7' e7
      refine ⟨" ", l7, "wire" :: (wireN x).map numT, rfl, rfl, .inl (SqL.of e7), ?_, ?_⟩
      · rw [blank_len, List.map_cons, List.sum_cons, List.length_cons]
        have h5 : ("wire" : Str).length = 4 := by decide +kernel
        have := hns.1
        have := hns.2
        omega
      rw [← wireT_join]
      have s27 := s26.trans s7'
      refine ⟨D, _, _, rfl, rfl, s27 _ _ hc, ?_, _, _, _, rfl, ?_, same_mut (sm.trans s27) hD⟩
      · rw [List.length_map, List.length_take, rowsT_length]
        exact Nat.lt_of_le_of_lt (Nat.min_le_right _ _) (by show _ < 2 ^ 24; omega)
      · rw [upd_same, ← Nat.add_assoc, str_take (rowsT_at2 hx)]
    · rintro σ H2 ⟨s4, s5, s6, rfl, hc, sm⟩
      rw [hlw, ← rowsT_length, List.take_length] at hc
      have hrs := rows_sum N
      refine ⟨⟨_, rfl⟩, _, rfl, "\n", D, rowsT gs ws, rfl, rfl, .inl (SqL.of hc), ?_, q H2 sm⟩
      have h1 : ("\n" : Str).length = 1 := by decide +kernel
      rw [h1]
      omega
end
end Lag

set_option maxRecDepth 100000
set_option maxHeartbeats 4000000
/-! ### a comprehension whose element may raise -/
namespace L2X
open PySem PySem.Spec PyProof.Rows L2
section
variable {M : Model} {A : Around} {s : Shared} {env : Env} {E : Value → Shared → Prop}
/-- what must hold where an error leaves the block: its dict is let go, the error is handed on from the frame F -/
def ErrOut (M : Model) (A : Around) (E : Value → Shared → Prop) (x : Value) (L : Addr) (F : Option Addr) (s' : Shared) : Prop :=
  (∃ m, s'.heap.Ns L m) ∧ ∀ h' (cenv : Env), Heap.SameBut L s'.heap h' → cenv.frame = F → wpAny M A (passOn "comprehension.variables-let-go" x cenv : Sem Value) (fun _ _ => False) E { s' with heap := h' }
def OutOf (M : Model) (A : Around) (E : Value → Shared → Prop) (Q : Value → Shared → Prop) (acc : Value) (cenv : Env) : Result → Shared → Prop
  | .ok _, s' => ∃ m, s'.heap.Ns cenv.locals m ∧ ∀ h', Heap.SameBut cenv.locals s'.heap h' → Q acc { s' with heap := h' }
  | .error x, s' => ErrOut M A E x cenv.locals cenv.frame s'
theorem comp_err {e : Expr} {scope : Scope} {pos : Pos} {newAcc first : Sem Value} {g : Comprehension} {gs : List Comprehension} {cl : List (Str × Addr)} {Q : Value → Shared → Prop}
    (isCls : clausesOf e = g :: gs) (hs : ∀ y, foldedSetIterable g.iter env y = pure y) (isClo : closureFor scope env = pure cl)
    (isFun : scope.kind = .function) (isLoc : ∀ y ∈ scope.names, y.2 = .local → scope.names.lookup y.1 = some .local)
    (h : wpAny M A first (fun x t1 => wpAny M A (pyIter x) (fun it t2 => wpAny M A newAcc (fun acc t3 =>
      wpAny M A (newFunctionEnv scope env.globals cl [] env.qual none .none (some env)) (fun cenv t4 =>
        codeAny M A (.compStart e 0 it acc { cenv with scope := relabel scope env }) (OutOf M A E Q acc cenv) t4) E t3) E t2) E t1) E s) :
    wpAny M A (comprehension e scope env pos newAcc false first none) Q E s := by
  have loc : ∀ (cenv : Env), ∀ x ∈ (scope.names.filter fun x => (x.2 == .local || x.2 == .cell) && x.1 != (".0" : Str)).reverse, x.2 = .local → Env.kindOf { cenv with scope := relabel scope env } x.1 = some .local := fun cenv x hx hl =>
    lookup_relabel_local (isLoc x (List.mem_filter.mp (List.mem_reverse.mp hx)).1 hl)
  have inner : ∀ (cenv : Env) (it acc : Value) (t4 : Shared), codeAny M A (.compStart e 0 it acc { cenv with scope := relabel scope env }) (OutOf M A E Q acc cenv) t4 → True := fun _ _ _ _ _ => trivial
  unfold comprehension
  rw [isClo, isCls]
  refine wpAny_bind (wpAny_mono h (fun x t1 k1 => ?_) fun _ _ z => z)
  refine wpAny_bind (wpAny_standAt (wpAny_bind (wpAny_of_eq (hs x) ?_)))
  refine wpAny_bind (wpAny_holding (wpAny_mono k1 (fun it t2 k2 => ?_) fun _ _ z => z))
  refine wpAny_standIf (wpAny_bind (wpAny_mono k2 (fun acc t3 k3 => ?_) fun _ _ z => z))
  refine wpAny_bind (wpAny_pure (wpAny_bind (wpAny_mono k3 (fun cenv t4 k4 => ?_) fun _ _ z => z)))
  dsimp only
  refine wpAny_holding (wpAny_bind (wpAny_attempt (wpAny_holding (wpAny_run (codeAny_mono k4 fun r s' hr => ?_)))))
  cases r with
  | ok f =>
    obtain ⟨m, hn, q⟩ := hr
    exact wpAny_bind (wpAny_holding (wpAny_comp_letGo (cenv := { cenv with scope := relabel scope env }) isFun _ s' m (loc cenv) hn fun h' _ _ sb => wpAny_pure (q h' sb)))
  | error x =>
    obtain ⟨⟨m, hn⟩, q⟩ := hr
    exact wpAny_bind (wpAny_holding (wpAny_comp_letGo (cenv := { cenv with scope := relabel scope env }) isFun _ s' m (loc cenv) hn fun h' _ _ sb => wpAny_mono (q h' { cenv with scope := relabel scope env } sb rfl) (fun _ _ f => f.elim) fun _ _ z => z))
end
end L2X

set_option maxRecDepth 100000
set_option maxHeartbeats 4000000
namespace L2X
open PySem PySem.Spec PyProof.Rows L2
/-! ### Inv does not speak of what an exception is to meet -/
section
variable {X : Cx} {pins : List (Addr × Obj)} {σ : L2.St} {H : Hp} {s : Shared}
theorem ok_xe (o : X.Ok) (E : Value → Shared → Prop) : ({ X with xe := E } : Cx).Ok := ⟨o.mod, o.kind, o.glob, o.blt, o.above, o.inj, o.has, o.cab, o.hd, o.frames, o.stk, o.exf, o.bs, o.bsz, o.noex, o.exfs, o.funs, o.frf⟩
theorem inv_xe (I : Inv X pins σ H s) (E : Value → Shared → Prop) : Inv { X with xe := E } pins σ H s := ⟨ok_xe I.ok E, I.os, I.bare, I.base, I.loc, I.cell, I.free, I.freeC, I.pin, I.hok, I.len⟩
theorem inv_xe' {E : Value → Shared → Prop} (I : Inv { X with xe := E } pins σ H s) : Inv X pins σ H s := inv_xe I X.xe
/-- an exception that flies over the frames of X, and nothing else -/
def XF (X : Cx) (W : WX) (u : Value) (s' : Shared) : Prop :=
  ∃ (a : Addr) (B : Heap) (sI : Shared) (pins : List (Addr × Obj)) (σ : L2.St) (H : Hp) (cls : Value) (d : Option Addr),
    u = .ref a ∧ Inv X pins σ H sI ∧ (∀ b ob, sI.heap.get? b = some ob → b ∉ frs X.stack → B.get? b = some ob) ∧ sI.heap.UpToSlots s'.heap ∧
      HandSPX.FlyingZ B X.stack a (Zc cls d) s'.heap ∧ H a = none ∧ s'.os = sI.os ∧ AllBare s'.gens ∧ W cls d σ H
/-- a call's exception flies -/
theorem xf_call {W : WX} {E : XK} (I : Inv X pins σ H s) (hW : ∀ cls d H', E cls d H' → W cls d σ H') {u : Value} {s' : Shared} (c : L2.CX X.prog X.w X.stack H s E u s') : XF X W u s' := by
  obtain ⟨a0, _, _, _, _, e0, fl, _⟩ := id c
  obtain ⟨a, B, sI, pins', σ', H', cls, d, rfl, I', nb, up, sky, na, os, ag, w⟩ := XE.of_call I hW c
  cases e0
  obtain ⟨_, _, _, oe, vs, T, oT, ts, h1, _, h3, h4, _, _, h7, h8, h9⟩ := fl
  rcases sky with ⟨_, _, _, oe', vs', k1, _, k3, k4⟩ | fl' | ⟨_, _, _, oe', vs', T', oT', ts', k1, _, k3, k4, _, _, k7, k8, k9⟩
  · exfalso
    rw [h1] at k1
    cases k1
    rw [h3] at k3
    cases k3
    rw [h4] at k4
    cases k4
  · exact ⟨a0, B, sI, pins', σ', H', cls, d, rfl, I', nb, up, fl', na, os, ag, w⟩
  · exfalso
    rw [h1] at k1
    cases k1
    rw [h3] at k3
    cases k3
    rw [h4] at k4
    cases k4
    rw [h7] at k7
    cases k7
    rw [h8] at k8
    cases k8
    rw [h9] at k9
    cases k9
theorem xf_xe {W : WX} {E : Value → Shared → Prop} {u : Value} {s' : Shared} (x : XF { X with xe := E } W u s') : XF X W u s' := by
  obtain ⟨a, B, sI, pins', σ', H', cls, d, e, I', r⟩ := x
  exact ⟨a, B, sI, pins', σ', H', cls, d, e, inv_xe' I', r⟩
end
theorem note_frame {e : Value} {env env' : Env} (h : env.frame = env'.frame) : noteFrame e env = noteFrame e env' := by
  unfold noteFrame PySem.frameOf
  rw [h]
theorem ff_but {h h' B B' : Heap} {C : Addr} (k : ∀ b, b ≠ C → h'.get? b = h.get? b) (kB : ∀ b, B.get? b = none → B'.get? b = none) : ∀ {l : List Env}, h.FunFrames B l → (∀ L ∈ frs l, L ≠ C) → h'.FunFrames B' l
  | [], _, _ => trivial
  | env :: l, ⟨h1, ⟨L, o, e1, e2, e3, e4⟩, h3⟩, hn => by
    have hL : L ∈ frs (env :: l) := by
      unfold frs
      rw [List.filterMap_cons, e1]
      exact List.mem_cons_self ..
    refine ⟨h1, ⟨L, o, e1, kB _ e2, (k L (hn L hL)).trans e3, e4⟩, ff_but k kB h3 fun L' hL' => hn L' ?_⟩
    unfold frs
    rw [List.filterMap_cons, e1]
    exact List.mem_cons_of_mem _ hL'
end L2X

set_option maxRecDepth 100000
set_option maxHeartbeats 4000000
namespace L2X
open PySem PySem.Spec PyProof.Rows L2
/-- out of a comprehension's block: noted in the def's frame, the block's dict let go, handed on -/
theorem block_out {X : Cx} {pins : List (Addr × Obj)} {σ : L2.St} {H3 : Hp} {s3 : Shared} {scope : Scope} {ce : Env} {fp : List Addr} {W Wb : WX} {E : Value → Shared → Prop}
    (I3 : Inv X pins σ H3 s3) (hst : X.stack = X.env :: X.outer) (hfr : X.env.frame = some X.env.locals) (cL : ce.locals = s3.heap.objs.size) (cF : ce.frame = X.env.frame)
    (f3 : ∀ b ∈ fp, FpOk X pins H3 b) (tk : Takes X W) (hW : ∀ cls d σ' H', Wb cls d σ' H' → W cls d σ H')
    {u : Value} {s' : Shared} (x : XF (X.blk s3 H3 scope ce fp) Wb u s') :
    wpAny (model X.prog X.w) X.A (noteFrame u ce) (fun _ s'' => ErrOut (model X.prog X.w) X.A X.xe u s3.heap.objs.size ce.frame s'') E s' := by
  obtain ⟨a, B, sI, pinsI, σI, HI, cls, d, rfl, I, nb, up, fl, na, os, ag, w⟩ := x
  have nb : ∀ b o, sI.heap.get? b = some o → b ∉ frs X.stack → B.get? b = some o := nb
  have fl : HandSPX.FlyingZ B X.stack a (Zc cls d) s'.heap := fl
  -- where the block's dict lies
  obtain ⟨C, hC⟩ : ∃ C, C = s3.heap.objs.size := ⟨_, rfl⟩
  rw [← hC] at cL ⊢
  have nC : HI C = none := by
    have z : HI ce.locals = none := I.free
    rw [cL] at z
    exact z
  have fC : FpOk X pins HI C := I3.fpOk (Nat.le_of_eq hC.symm) nC
  have nS : C ∉ frs X.stack := fun hm => by
    rcases List.mem_cons.mp (I3.stkSub C hm) with z | z
    · exact fC.2.1 z
    · exact fC.2.2.1 z
  obtain ⟨m, hn, _⟩ := I.loc
  have hn : sI.heap.Ns ce.locals m := hn
  rw [cL] at hn
  obtain ⟨oC, esC, epC, hoC, restC⟩ := id hn
  have bC := nb C oC hoC nS
  -- the def's state with it
  have I7 : Inv X pins σ HI sI := I3.call' (ch := fp) I.os I.base I.hok I.bare fun b hb => ⟨(f3 b hb).2.2.2.1, (f3 b hb).2.1, (f3 b hb).2.2.2.2.1, (f3 b hb).2.2.2.2.2⟩
  have frm : X.A.frames = some (X.env :: X.outer) := by rw [I3.ok.frames, hst]
  rw [hst] at fl
  rw [note_frame (e := .ref a) cF]
  refine HandSPX.looks_onZ Zc.steady frm hfr fl fun h1 hh up1 => ?_
  obtain ⟨st1, na1, ff1, tr1⟩ := hh
  refine ⟨⟨m, oC, esC, epC, st1 C oC bC, restC⟩, fun h' cenv sb cf => ?_⟩
  -- the ground without the dict
  obtain ⟨oe, vs, T, oT, ts, t1, t2, t3, t4, t5, t6, t7, t8, t9⟩ := tr1
  have aC : a ≠ C := fun z => by rw [z, bC] at na1; cases na1
  have TC : T ≠ C := fun z => by rw [z, bC] at t5; cases t5
  have nB : ∀ b, B.get? b = none → (PySem.W.hideAll B [C]).get? b = none := fun b e => by
    cases q : (PySem.W.hideAll B [C]).get? b with
    | none => rfl
    | some o => rw [PySem.W.of_hideAll _ q] at e; cases e
  have hC0 : (PySem.W.hideAll B [C]).get? C = none := PySem.W.hideAll_none _ (List.mem_cons_self ..)
  have held : HandSPX.HeldZ (PySem.W.hideAll B [C]) (X.env :: X.outer) a (Zc cls d) X.env.locals h' := by
    refine ⟨fun b o e => ?_, nB a na1, ff_but (C := C) (fun b hb => sb.2 b hb) nB ff1 (fun L hL z => nS (by rw [hst]; rw [← z]; exact hL)), oe, vs, T, oT, ts, (sb.2 a aC).trans t1, t2, t3, t4, nB T t5, t6, (sb.2 T TC).trans t7, t8, t9⟩
    have hb : b ≠ C := fun z => by rw [z, hC0] at e; cases e
    exact (sb.2 b hb).trans (st1 b o (PySem.W.of_hideAll _ e))
  unfold PySem.passOn
  refine wpAny_bind (wpAny_field ((sb.2 a aC).trans t1) t3 t4 ?_)
  rw [if_neg (by simp : ¬ ((Value.ref T == Value.none) = true))]
  refine wpAny_bind ?_
  rw [cf, cF, hfr]
  refine HandSPX.setFlight_onZ (s := { s' with heap := h' }) held fun h2 held2 up2 => ?_
  refine wpAny_throw (tk _ _ ?_)
  -- the def's state without it
  have I8 : Inv X pins σ HI { sI with heap := PySem.W.hideAll sI.heap [C] } := I7.turned (t' := sI.toks) (it := C) (fun b o hb e => PySem.W.hideAll_get _ e (fun z => hb (List.mem_singleton.mp z))) nC fC.2.1 fC.2.2.2.1 fC.2.2.2.2.1 fC.2.2.2.2.2
  have notC : ∀ b o, (PySem.W.hideAll sI.heap [C]).get? b = some o → b ≠ C := fun b o e z => by
    rw [z, PySem.W.hideAll_none [C] (List.mem_cons_self ..)] at e
    cases e
  refine ⟨a, PySem.W.hideAll B [C], _, pins, σ, HI, cls, d, rfl, I8, fun b o e hb => PySem.W.hideAll_get _ (nb b o (PySem.W.of_hideAll _ e) hb) (fun z => notC b o e (List.mem_singleton.mp z)), fun b o e hnf => ?_, .inr (.inr (by rw [hst]; exact held2)), na, os, ag, hW _ _ _ _ w⟩
  obtain ⟨sl1, e1⟩ := up b o (PySem.W.of_hideAll _ e) hnf
  obtain ⟨sl2, e2⟩ := up1 b _ e1 hnf
  obtain ⟨sl3, e3⟩ := up2 b _ ((sb.2 b (notC b o e)).trans e2) hnf
  exact ⟨sl3, e3⟩
end L2X

set_option maxRecDepth 100000
set_option maxHeartbeats 4000000
namespace L2X
open PySem PySem.Spec PyProof.Rows L2
/-- the block, where the element may let an exception out -/
abbrev blkE (X : Cx) (s : Shared) (H : Hp) (scope : Scope) (ce : Env) (fp : List Addr) (EX : XK) : Cx := { X.blk s H scope ce fp with xe := XF (X.blk s H scope ce fp) (fun cls d _ H' => EX cls d H') }
theorem pass_blk {X : Cx} {s : Shared} {H : Hp} {scope : Scope} {ce : Env} {fp : List Addr} {EX : XK} : Passes (L2.CX X.prog X.w) (blkE X s H scope ce fp EX) EX :=
  fun _ _ _ _ _ _ I c => xf_call (inv_xe' I) (fun _ _ _ h => h) c
section
variable {X : Cx} {pins : List (Addr × Obj)} {σ : L2.St} {sB : Shared} {HB : Hp} {scope : Scope} {ce : Env} {fp : List Addr} {elt tg iter : Expr} {ifs : List Expr} {pos : Pos} {g : TG} {tt : TT} {te : TE} {vs : List Nat} {EX : XK}
/-- the loop in the block: St is what the new list and the turns have come to -/
theorem loopX {it D : Addr} {tn : Nat → Heap → Prop} {J : It} {Wi : Nat → Nat → Hp → Prop} {m0 : Nat} {sC : Shared} {R : Result → Shared → Prop} {QD : Hp → Prop}
    (hc : X.calm = true) (T : Turn X.prog X.w X.K tg J fp it tn)
    (exl : ∀ b ∈ fp, b ≠ ce.locals ∧ (∀ x c, ce.cells.lookup x = some c → c ≠ b) ∧ b ∉ frs X.stack)
    (gPg : PG (X.blk sB HB scope ce fp) tg g) (gPt : PTs (X.blk sB HB scope ce fp) ifs tt) (gPe : PE (blkE X sB HB scope ce fp EX) elt te)
    (J4 : Inv (X.blk sB HB scope ce fp) [] (wipe σ vs) HB sC) (trC : tn 0 sC.heap) (n4 : ∀ b ∈ fp, HB b = none) (w0 : Wi 0 m0 HB)
    (step : ∀ i m H, Wi i m H → (J.stop i H ∧ QD H) ∨ (J.go i H ∧ ∃ Nx : Hp → Prop, (∀ H', Nx H' → ∃ m', m' < m ∧ Wi (i + 1) m' H') ∧ ∀ x H', J.yld i H x H' → g x (wipe σ vs) H' fun σ2 HA => wipe σ2 vs = wipe σ vs ∧ tt σ2 HA fun b HB =>
      if b = true then te σ2 HB fun y H4 => ∃ acc, H4 D = some (.lst acc) ∧ acc.length < sizeLine ∧ Nx (upd H4 D (.lst (acc ++ [y]))) else Nx HB))
    (fin : ∀ H' s', Inv (X.blk sB HB scope ce fp) [] (wipe σ vs) H' s' → QD H' → R (.ok .next) s')
    (err : ∀ u s', XF (X.blk sB HB scope ce fp) (fun cls d _ H' => EX cls d H') u s' → wpAny (model X.prog X.w) X.A (noteFrame u ce) (fun _ s'' => R (.error u) s'') (fun _ _ => False) s') :
    codeAny (model X.prog X.w) X.A (.compLoop (.ListComp elt [⟨tg, iter, ifs, 0⟩] scope pos) 0 (.ref it) (.ref D) ce) R sC := by
  have foot : ∀ {σ' : L2.St} {H' : Hp} {s' : Shared}, Inv (X.blk sB HB scope ce fp) [] σ' H' s' → (∀ b ∈ fp, H' b = none) → ∀ b ∈ fp, FpOk (X.blk sB HB scope ce fp) [] H' b := fun I' hn b hb =>
    ⟨hn b hb, (exl b hb).1, (exl b hb).2.2, .inl hb, (exl b hb).2.1, fun p hp => absurd (show p ∈ ([] : List (Addr × Obj)) ++ [] from hp) (by simp)⟩
  refine compLoop_any (fun n s' => ∃ i H', Inv (X.blk sB HB scope ce fp) [] (wipe σ vs) H' s' ∧ tn i s'.heap ∧ (∀ b ∈ fp, H' b = none) ∧ Wi i n H') (fun n sD h5 => ?_) m0 ⟨0, HB, J4, trC, n4, w0⟩
  obtain ⟨i, H5, I5, trD, n5, w5⟩ := h5
  rcases step i n H5 w5 with ⟨stop, qq⟩ | ⟨go, Nx, isNx, nxt⟩
  · refine thnF (T.done (X.blk sB HB scope ce fp) rfl rfl rfl hc i [] sD _ H5 (fun _ _ => False) I5 (foot I5 n5) trD stop) fun r sE hr => ?_
    obtain ⟨rfl, I6⟩ := hr
    exact fin H5 sE I6 qq
  refine thnF (T.item (X.blk sB HB scope ce fp) rfl rfl rfl hc i [] sD _ H5 (fun _ _ => False) I5 (foot I5 n5) trD go) fun r sE hr => ?_
  obtain ⟨v, rfl, h6⟩ := hr
  refine thnF h6 fun _ sF h7 => ?_
  obtain ⟨x, H7, J7, rx, yl, trF, n7⟩ := h7
  have P7 := J7.pinned (foot J7 n7) (T.obj _ _ trF)
  refine thnF (gPg.run _ sF _ H7 x v _ P7 rx (nxt x H7 yl)) fun _ sG h8 => ?_
  obtain ⟨σ8, H8, J8, w8, q8⟩ := h8
  refine thnF (gPt.run _ sG σ8 H8 _ J8 q8) fun b sH h9 => ?_
  obtain ⟨H9, I9, qH⟩ := h9
  -- the next turn begins
  have again : ∀ {s' : Shared} {H' : Hp}, Inv (X.blk sB HB scope ce fp) ([] ++ pinsAt fp sF.heap) σ8 H' s' → Nx H' → ∃ m, m < n ∧ ∃ i H', Inv (X.blk sB HB scope ce fp) [] (wipe σ vs) H' s' ∧ tn i s'.heap ∧ (∀ b ∈ fp, H' b = none) ∧ Wi i m H' := fun {s' H'} I' nx => by
    obtain ⟨m', hm, w'⟩ := isNx H' nx
    have at_ : ∀ b ∈ fp, ∀ o, sF.heap.get? b = some o → s'.heap.get? b = some o ∧ H' b = none := fun b hb o e => by
      obtain ⟨k1, k2, _⟩ := I'.pin (b, o) (List.mem_append_right _ (List.mem_append_right _ (mem_pinsAt hb e)))
      exact ⟨k1, k2⟩
    have len : (wipe σ vs).length = σ8.length := by rw [← w8, wipe_length]
    refine ⟨m', hm, i + 1, H', (I'.unpinned (pins := [])).weak len (fun j y e => (wipe_some (by rw [w8]; exact e)).1), T.keep _ _ _ trF fun b hb o e => (at_ b hb o e).1, fun b hb => ?_, w'⟩
    obtain ⟨o, e, _⟩ := T.obj _ _ trF b hb
    exact (at_ b hb o e).2
  cases b with
  | false =>
    simp only [Bool.false_eq_true, if_false] at qH ⊢
    exact again I9 qH
  | true =>
    simp only [if_true] at qH ⊢
    refine wpAny_mono (gPe.run _ sH σ8 H9 _ (inv_xe I9 _) qH) (fun z s10 h10 => ?_) fun u s' hx => ?_
    · obtain ⟨yv, H10, I10, r10, acc, hD, hz, nx⟩ := h10
      exact app_ok (X := X.blk sB HB scope ce fp) (inv_xe' I10) hD hz r10 fun s11 I11 => again I11 nx
    · exact wpAny_mono (err u s' hx) (fun _ _ z => z) fun _ _ z => z.elim
end
/-- [elt for target in iter if ..] as a value, where the element may raise -/
theorem pe_lcX {X : Cx} {elt tg iter : Expr} {ifs : List Expr} {scope : Scope} {own : List (Str × Nat)} {pos : Pos} {wi : TI} {g : TG} {tt : TT} {te : XK → TE} {W : WX}
    (hst : X.stack = X.env :: X.outer) (hfr : X.env.frame = some X.env.locals) (tk : Takes X W) (hc : X.calm = true) (nodup : X.N.Nodup) (hi : PI X tg iter wi) (ok : BlkOk X.N X.env.scope scope own)
    (hg : ∀ (s : Shared) (H : Hp) (C : Addr) (cl : List (Str × Addr)) (fp : List Addr), PG (X.blk s H scope (compEnvC scope cl C X.env) fp) tg g)
    (ht : ∀ (s : Shared) (H : Hp) (C : Addr) (cl : List (Str × Addr)) (fp : List Addr), PTs (X.blk s H scope (compEnvC scope cl C X.env) fp) ifs tt)
    (he : ∀ (EX : XK) (s : Shared) (H : Hp) (C : Addr) (cl : List (Str × Addr)) (fp : List Addr), PE (blkE X s H scope (compEnvC scope cl C X.env) fp EX) elt (te EX)) (hs : ∀ x, foldedSetIterable iter X.env x = pure x := by intro _; rfl) :
    PE X (.ListComp elt [⟨tg, iter, ifs, 0⟩] scope pos) (fun σ H Q => tLc wi g tt (te fun cls d H' => W cls d σ H') (own.map (·.2)) σ H Q) := by
  constructor
  intro pins s σ H Q I h
  have h : tLc wi g tt (te fun cls d H' => W cls d σ H') (own.map (·.2)) σ H Q := h
  rw [eval_ListComp]
  have cells : ∀ y ∈ scope.names, y.2 = .free → ∃ c, X.env.cells.lookup y.1 = some c := fun y hy e => I.ok.has _ (ok.free y hy e)
  refine comp_err rfl hs (closure_ok cells) ok.kind (fun y hy e => by rw [ok.uniq y hy, e]) (thn (hi.run pins s σ H _ I h) fun xv s1 hx => thn hx fun itv sA h2 => ?_)
  obtain ⟨it, fp, tn, J, HA, rfl, J2, T, trA, ftA, q⟩ := h2
  refine wpAny_newObj_type (newEnv_comp ?_) (show 0 ≤ sizeLine by decide)
  -- the new list
  obtain ⟨D, hD⟩ : ∃ D, D = sA.heap.objs.size := ⟨_, rfl⟩
  rw [← hD]
  obtain ⟨Wi, ⟨m0, w0⟩, step⟩ := q D (J2.hok.fresh (Nat.le_of_eq hD.symm))
  obtain ⟨sB, hs3⟩ : ∃ sB : Shared, sB = { sA with heap := sA.heap.push { cls := .type "list", data := .seq ([] : List Value).toArray } } := ⟨_, rfl⟩
  have e3 : sB.heap = sA.heap.push { cls := .type "list", data := .seq ([] : List Value).toArray } := by rw [hs3]
  have J3 : Inv X pins σ (upd HA D (.lst [])) sB := by
    rw [hs3]
    refine J2.laid (t' := sA.toks) (fun b o e => Heap.get?_push_of_some _ e) (Nat.le_of_eq hD.symm) ⟨Nat.zero_le _, [], 0, .nil, ?_⟩
    rw [hD]
    exact (Heap.get?_push_size _ rfl)
  have old : ∀ b ∈ fp, b < sA.heap.objs.size := fun b hb => by
    obtain ⟨o, e, _⟩ := T.obj _ _ trA b hb
    exact Heap.lt_size e
  have ftB : ∀ b ∈ fp, FpOk X pins (upd HA D (.lst [])) b ∧ b < sB.heap.objs.size := fun b hb => by
    have isOld := old b hb
    refine ⟨⟨?_, (ftA b hb).2⟩, by rw [e3, Heap.size_push]; exact Nat.lt_succ_of_lt isOld⟩
    rw [upd_ne (by rw [hD]; exact Nat.ne_of_lt isOld)]
    exact (ftA b hb).1
  have J4 := block_start J3 ok nodup ftB
  have trC : tn 0 (pushCells (sB.heap.push { cls := .type "dict", data := .dict #[] }) scope.names) := T.keep _ _ _ trA fun b _ o e => pushCells_keeps _ _ _ _ (Heap.get?_push_of_some _ (by rw [e3]; exact Heap.get?_push_of_some _ e))
  have gPg := hg sB (upd HA D (.lst [])) sB.heap.objs.size (cellsFrom (sB.heap.objs.size + 1) scope.names (cloFrom X.env.cells scope.names [])) fp
  have gPt := ht sB (upd HA D (.lst [])) sB.heap.objs.size (cellsFrom (sB.heap.objs.size + 1) scope.names (cloFrom X.env.cells scope.names [])) fp
  have gPe := he (fun cls d H' => W cls d σ H') sB (upd HA D (.lst [])) sB.heap.objs.size (cellsFrom (sB.heap.objs.size + 1) scope.names (cloFrom X.env.cells scope.names [])) fp
  rw [← hs3]
  show codeAny _ _ (.compStart (.ListComp elt [⟨tg, iter, ifs, 0⟩] scope pos) 0 (.ref it) (.ref D) (compEnvC scope (cellsFrom (sB.heap.objs.size + 1) scope.names (cloFrom X.env.cells scope.names [])) sB.heap.objs.size X.env)) (OutOf (model X.prog X.w) X.A X.xe (EP X pins σ Q) (.ref D) _) { sB with heap := pushCells (sB.heap.push { cls := .type "dict", data := .dict #[] }) scope.names }
  have nC : ∀ {σ' : L2.St} {H' : Hp} {s' : Shared}, Inv (X.blk sB (upd HA D (.lst [])) scope (compEnvC scope (cellsFrom (sB.heap.objs.size + 1) scope.names (cloFrom X.env.cells scope.names [])) sB.heap.objs.size X.env) fp) [] σ' H' s' → H' sB.heap.objs.size = none := fun I' => I'.free
  have loop : codeAny (model X.prog X.w) X.A (.compLoop (.ListComp elt [⟨tg, iter, ifs, 0⟩] scope pos) 0 (.ref it) (.ref D) (compEnvC scope (cellsFrom (sB.heap.objs.size + 1) scope.names (cloFrom X.env.cells scope.names [])) sB.heap.objs.size X.env)) (OutOf (model X.prog X.w) X.A X.xe (EP X pins σ Q) (.ref D) (compEnvC scope (cellsFrom (sB.heap.objs.size + 1) scope.names (cloFrom X.env.cells scope.names [])) sB.heap.objs.size X.env)) { sB with heap := pushCells (sB.heap.push { cls := .type "dict", data := .dict #[] }) scope.names } := by
    refine loopX (D := D) (sB := sB) (HB := upd HA D (.lst [])) (fp := fp) (vs := own.map (·.2)) (EX := fun cls d H' => W cls d σ H') (QD := fun H' => Q (.ref D) H') hc T (fun b hb => ?_) gPg gPt gPe J4 trC (fun b hb => (ftB b hb).1.1) w0 step ?_ ?_
    · obtain ⟨k1, k2⟩ := J4.ok.exf b hb
      exact ⟨k1, k2, J4.ok.exfs b hb⟩
    · intro H' s' I' qq
      have J7 : Inv X pins σ H' s' := J3.call' (ch := fp) I'.os I'.base I'.hok I'.bare fun b hb => ⟨(ftB b hb).1.2.2.2.1, (ftB b hb).1.2.1, (ftB b hb).1.2.2.2.2.1, (ftB b hb).1.2.2.2.2.2⟩
      obtain ⟨m, hn, _⟩ := I'.loc
      refine ⟨m, hn, fun h' sb => ?_⟩
      obtain ⟨k0, k1, k2, k3, k4, k5⟩ := J3.fpOk (Nat.le_refl _) (nC I')
      exact ⟨.ref D, H', J7.turned (t' := s'.toks) (fun b o hb e => (sb.2 b hb).trans e) k0 k1 k3 k4 k5, rfl, qq⟩
    · intro u s' x
      exact block_out (ce := compEnvC scope (cellsFrom (sB.heap.objs.size + 1) scope.names (cloFrom X.env.cells scope.names [])) sB.heap.objs.size X.env) (scope := scope) (Wb := fun cls d _ H' => W cls d σ H') J3 hst hfr rfl rfl (fun b hb => (ftB b hb).1) tk (fun _ _ _ _ z => z) x
  exact codeAny_compStart_list loop (T.self X.A 0 { sB with heap := pushCells (sB.heap.push { cls := .type "dict", data := .dict #[] }) scope.names } _ _ trC loop)
end L2X

set_option maxRecDepth 100000
set_option maxHeartbeats 4000000
namespace L2X
open PySem PySem.Spec PyProof.Rows L2
section
variable {M : Model} {A : Around} {s : Shared} {env : Env} {E : Value → Shared → Prop}
/-- as OutOf, where the list is handed to u before the block's names are let go -/
def OutU (M : Model) (A : Around) (E : Value → Shared → Prop) (Q : Value → Shared → Prop) (u : Value → Sem Unit) (acc : Value) (cenv : Env) : Result → Shared → Prop
  | .ok _, s' => wpAny M A (u acc) (fun _ s'' => ∃ m, s''.heap.Ns cenv.locals m ∧ ∀ h', Heap.SameBut cenv.locals s''.heap h' → Q .none { s'' with heap := h' }) E s'
  | .error x, s' => ErrOut M A E x cenv.locals cenv.frame s'
theorem comp_errU {e : Expr} {scope : Scope} {pos : Pos} {newAcc first : Sem Value} {g : Comprehension} {gs : List Comprehension} {cl : List (Str × Addr)} {Q : Value → Shared → Prop} {u : Value → Sem Unit}
    (isCls : clausesOf e = g :: gs) (hs : ∀ y, foldedSetIterable g.iter env y = pure y) (isClo : closureFor scope env = pure cl)
    (isFun : scope.kind = .function) (isLoc : ∀ y ∈ scope.names, y.2 = .local → scope.names.lookup y.1 = some .local)
    (h : wpAny M A first (fun x t1 => wpAny M A (pyIter x) (fun it t2 => wpAny M A newAcc (fun acc t3 =>
      wpAny M A (newFunctionEnv scope env.globals cl [] env.qual none .none (some env)) (fun cenv t4 =>
        codeAny M A (.compStart e 0 it acc { cenv with scope := relabel scope env }) (OutU M A E Q u acc cenv) t4) E t3) E t2) E t1) E s) :
    wpAny M A (comprehension e scope env pos newAcc false first (.some u)) Q E s := by
  have loc : ∀ (cenv : Env), ∀ x ∈ (scope.names.filter fun x => (x.2 == .local || x.2 == .cell) && x.1 != (".0" : Str)).reverse, x.2 = .local → Env.kindOf { cenv with scope := relabel scope env } x.1 = some .local := fun cenv x hx hl =>
    lookup_relabel_local (isLoc x (List.mem_filter.mp (List.mem_reverse.mp hx)).1 hl)
  unfold comprehension
  rw [isClo, isCls]
  refine wpAny_bind (wpAny_mono h (fun x t1 k1 => ?_) fun _ _ z => z)
  refine wpAny_bind (wpAny_standAt (wpAny_bind (wpAny_of_eq (hs x) ?_)))
  refine wpAny_bind (wpAny_holding (wpAny_mono k1 (fun it t2 k2 => ?_) fun _ _ z => z))
  refine wpAny_standIf (wpAny_bind (wpAny_mono k2 (fun acc t3 k3 => ?_) fun _ _ z => z))
  refine wpAny_bind (wpAny_pure (wpAny_bind (wpAny_mono k3 (fun cenv t4 k4 => ?_) fun _ _ z => z)))
  dsimp only
  refine wpAny_holding (wpAny_bind (wpAny_attempt (wpAny_holding (wpAny_run (codeAny_mono k4 fun r s' hr => ?_)))))
  cases r with
  | ok f =>
    refine wpAny_bind (wpAny_rule (wpAny_bind (wpAny_holding (wpAny_mono hr (fun _ s'' q => ?_) fun _ _ z => z))))
    obtain ⟨m, hn, q⟩ := q
    refine wpAny_bind (wpAny_comp_letGo (cenv := { cenv with scope := relabel scope env }) isFun _ s'' m (fun x hx hl => ?_) hn fun h' _ _ sb => wpAny_pure (q h' sb))
    rcases List.mem_append.mp hx with z | z
    · exact loc cenv x (List.mem_of_mem_drop z) hl
    · exact loc cenv x (List.mem_of_mem_take z) hl
  | error x =>
    obtain ⟨⟨m, hn⟩, q⟩ := hr
    exact wpAny_bind (wpAny_holding (wpAny_comp_letGo (cenv := { cenv with scope := relabel scope env }) isFun _ s' m (loc cenv) hn fun h' _ _ sb => wpAny_mono (q h' { cenv with scope := relabel scope env } sb rfl) (fun _ _ f => f.elim) fun _ _ z => z))
end
/-- name = [elt for target in iter if ..] on one row, where the element may raise -/
theorem ps_setLcX {X : Cx} {i : Nat} {y : Str} {py : Pos} {elt tg iter : Expr} {ifs : List Expr} {scope : Scope} {own : List (Str × Nat)} {pos spos : Pos} {wi : TI} {g : TG} {tt : TT} {te : XK → TE} {W : WX}
    (hst : X.stack = X.env :: X.outer) (hfr : X.env.frame = some X.env.locals) (tk : Takes X W) (hc : X.calm = true) (nodup : X.N.Nodup) (hy : X.N[i]? = some y) (hyl : X.env.scope.names.lookup y = some .local)
    (swp : swapsWith (.ListComp elt [⟨tg, iter, ifs, 0⟩] scope pos) (some (.Name y py)) spos.line X.env = pure true) (hi : PI X tg iter wi) (ok : BlkOk X.N X.env.scope scope own)
    (hg : ∀ (s : Shared) (H : Hp) (C : Addr) (cl : List (Str × Addr)) (fp : List Addr), PG (X.blk s H scope (compEnvC scope cl C X.env) fp) tg g)
    (ht : ∀ (s : Shared) (H : Hp) (C : Addr) (cl : List (Str × Addr)) (fp : List Addr), PTs (X.blk s H scope (compEnvC scope cl C X.env) fp) ifs tt)
    (he : ∀ (EX : XK) (s : Shared) (H : Hp) (C : Addr) (cl : List (Str × Addr)) (fp : List Addr), PE (blkE X s H scope (compEnvC scope cl C X.env) fp EX) elt (te EX)) (hs : ∀ x, foldedSetIterable iter X.env x = pure x := by intro _; rfl) :
    PS X (.Assign [.Name y py] (.ListComp elt [⟨tg, iter, ifs, 0⟩] scope pos) spos) (tAsg (fun σ H Q => tLc wi g tt (te fun cls d H' => W cls d σ H') (own.map (·.2)) σ H Q) (gName i)) := by
  refine ⟨fun pins s σ H D0 I h => ?_⟩
  have h : tLc wi g tt (te fun cls d H' => W cls d σ H') (own.map (·.2)) σ H (fun x H1 => gName i x σ H1 D0.nx) := h
  rw [exec_Assign_Name_used _ _ _ _ swp]
  refine wpAny_bind (wpAny_standAt ?_)
  refine wpAny_bind ?_
  show wpAny _ X.A (do let _z ← comprehension (.ListComp elt [⟨tg, iter, ifs, 0⟩] scope pos) scope X.env (firstIterPos [⟨tg, iter, ifs, 0⟩] pos) (newList []) false (eval iter X.env) (some (assign (.Name y py) X.env))) _ _ s
  have cells : ∀ y ∈ scope.names, y.2 = .free → ∃ c, X.env.cells.lookup y.1 = some c := fun y hy e => I.ok.has _ (ok.free y hy e)
  refine wpAny_bind (wpAny_mono (comp_errU (Q := fun _ s' => SP X pins D0 .next s') rfl hs (closure_ok cells) ok.kind (fun y hy e => by rw [ok.uniq y hy, e]) (thn (hi.run pins s σ H _ I h) fun xv s1 hx => thn hx fun itv sA h2 => ?_)) (fun _ s' hq => wpAny_pure (wpAny_pure hq)) fun _ _ z => z)
  obtain ⟨it, fp, tn, J, HA, rfl, J2, T, trA, ftA, q⟩ := h2
  refine wpAny_newObj_type (newEnv_comp ?_) (show 0 ≤ sizeLine by decide)
  obtain ⟨D, hD⟩ : ∃ D, D = sA.heap.objs.size := ⟨_, rfl⟩
  rw [← hD]
  obtain ⟨Wi, ⟨m0, w0⟩, step⟩ := q D (J2.hok.fresh (Nat.le_of_eq hD.symm))
  obtain ⟨sB, hs3⟩ : ∃ sB : Shared, sB = { sA with heap := sA.heap.push { cls := .type "list", data := .seq ([] : List Value).toArray } } := ⟨_, rfl⟩
  have e3 : sB.heap = sA.heap.push { cls := .type "list", data := .seq ([] : List Value).toArray } := by rw [hs3]
  have J3 : Inv X pins σ (upd HA D (.lst [])) sB := by
    rw [hs3]
    refine J2.laid (t' := sA.toks) (fun b o e => Heap.get?_push_of_some _ e) (Nat.le_of_eq hD.symm) ⟨Nat.zero_le _, [], 0, .nil, ?_⟩
    rw [hD]
    exact (Heap.get?_push_size _ rfl)
  have old : ∀ b ∈ fp, b < sA.heap.objs.size := fun b hb => by
    obtain ⟨o, e, _⟩ := T.obj _ _ trA b hb
    exact Heap.lt_size e
  have ftB : ∀ b ∈ fp, FpOk X pins (upd HA D (.lst [])) b ∧ b < sB.heap.objs.size := fun b hb => by
    have isOld := old b hb
    refine ⟨⟨?_, (ftA b hb).2⟩, by rw [e3, Heap.size_push]; exact Nat.lt_succ_of_lt isOld⟩
    rw [upd_ne (by rw [hD]; exact Nat.ne_of_lt isOld)]
    exact (ftA b hb).1
  have J4 := block_start J3 ok nodup ftB
  have trC : tn 0 (pushCells (sB.heap.push { cls := .type "dict", data := .dict #[] }) scope.names) := T.keep _ _ _ trA fun b _ o e => pushCells_keeps _ _ _ _ (Heap.get?_push_of_some _ (by rw [e3]; exact Heap.get?_push_of_some _ e))
  have gPg := hg sB (upd HA D (.lst [])) sB.heap.objs.size (cellsFrom (sB.heap.objs.size + 1) scope.names (cloFrom X.env.cells scope.names [])) fp
  have gPt := ht sB (upd HA D (.lst [])) sB.heap.objs.size (cellsFrom (sB.heap.objs.size + 1) scope.names (cloFrom X.env.cells scope.names [])) fp
  have gPe := he (fun cls d H' => W cls d σ H') sB (upd HA D (.lst [])) sB.heap.objs.size (cellsFrom (sB.heap.objs.size + 1) scope.names (cloFrom X.env.cells scope.names [])) fp
  rw [← hs3]
  show codeAny _ _ (.compStart (.ListComp elt [⟨tg, iter, ifs, 0⟩] scope pos) 0 (.ref it) (.ref D) (compEnvC scope (cellsFrom (sB.heap.objs.size + 1) scope.names (cloFrom X.env.cells scope.names [])) sB.heap.objs.size X.env)) (OutU (model X.prog X.w) X.A X.xe _ (assign (.Name y py) X.env) (.ref D) _) { sB with heap := pushCells (sB.heap.push { cls := .type "dict", data := .dict #[] }) scope.names }
  have nC : ∀ {σ' : L2.St} {H' : Hp} {s' : Shared}, Inv (X.blk sB (upd HA D (.lst [])) scope (compEnvC scope (cellsFrom (sB.heap.objs.size + 1) scope.names (cloFrom X.env.cells scope.names [])) sB.heap.objs.size X.env) fp) [] σ' H' s' → H' sB.heap.objs.size = none := fun I' => I'.free
  have loop : codeAny (model X.prog X.w) X.A (.compLoop (.ListComp elt [⟨tg, iter, ifs, 0⟩] scope pos) 0 (.ref it) (.ref D) (compEnvC scope (cellsFrom (sB.heap.objs.size + 1) scope.names (cloFrom X.env.cells scope.names [])) sB.heap.objs.size X.env)) (OutU (model X.prog X.w) X.A X.xe (fun _ s' => SP X pins D0 .next s') (assign (.Name y py) X.env) (.ref D) (compEnvC scope (cellsFrom (sB.heap.objs.size + 1) scope.names (cloFrom X.env.cells scope.names [])) sB.heap.objs.size X.env)) { sB with heap := pushCells (sB.heap.push { cls := .type "dict", data := .dict #[] }) scope.names } := by
    refine loopX (D := D) (sB := sB) (HB := upd HA D (.lst [])) (fp := fp) (vs := own.map (·.2)) (EX := fun cls d H' => W cls d σ H') (QD := fun H' => gName i (.ref D) σ H' D0.nx) hc T (fun b hb => ?_) gPg gPt gPe J4 trC (fun b hb => (ftB b hb).1.1) w0 step ?_ ?_
    · obtain ⟨k1, k2⟩ := J4.ok.exf b hb
      exact ⟨k1, k2, J4.ok.exfs b hb⟩
    · intro H' s' I' qq
      have J7 : Inv X pins σ H' s' := J3.call' (ch := fp) I'.os I'.base I'.hok I'.bare fun b hb => ⟨(ftB b hb).1.2.2.2.1, (ftB b hb).1.2.1, (ftB b hb).1.2.2.2.2.1, (ftB b hb).1.2.2.2.2.2⟩
      obtain ⟨m, hn, _⟩ := I'.loc
      have hn : s'.heap.Ns sB.heap.objs.size m := hn
      obtain ⟨k0, k1, k2, k3, k4, k5⟩ := J3.fpOk (Nat.le_refl _) (nC I')
      show wpAny _ _ (assign (.Name y py) X.env (.ref D)) _ _ _
      refine wpAny_assign_Name (store_ok2 (v := V.ref D) J7 nodup hy (.inl hyl) rfl (fun sA J8 ⟨a, sb, ha⟩ => ?_) (.inr hyl))
      have neC : sB.heap.objs.size ≠ a := by
        rcases ha with z | z
        · rw [z]
          exact k1
        · exact fun e => k4 y a z e.symm
      refine ⟨m, hn.sameBut sb neC, fun h3 sb3 => ?_⟩
      exact ⟨_, H', J8.turned (t' := sA.toks) (fun b o hb e => (sb3.2 b hb).trans e) k0 k1 k3 k4 k5, qq⟩
    · intro u s' x
      exact block_out (ce := compEnvC scope (cellsFrom (sB.heap.objs.size + 1) scope.names (cloFrom X.env.cells scope.names [])) sB.heap.objs.size X.env) (scope := scope) (Wb := fun cls d _ H' => W cls d σ H') J3 hst hfr rfl rfl (fun b hb => (ftB b hb).1) tk (fun _ _ _ _ z => z) x
  exact codeAny_compStart_list loop (T.self X.A 0 { sB with heap := pushCells (sB.heap.push { cls := .type "dict", data := .dict #[] }) scope.names } _ _ trC loop)
end L2X

set_option maxRecDepth 100000
set_option maxHeartbeats 400000
/-! ### words that tell whole numbers -/
namespace LW
open PySem
def figs : List Nat → List Nat
  | 45 :: r => r
  | l => l
def ws (w : Str) : List Nat := w.cps.toList
structure FigOk (w : Str) : Prop where
  ne : figs (ws w) ≠ []
  dg : NumText.AllDigits (figs (ws w))
  le : (figs (ws w)).length ≤ 60
def valW (w : Str) : Int := if (ws w).head? = some 45 then -((NumText.digitsVal (figs (ws w)) : Nat) : Int) else ((NumText.digitsVal (figs (ws w)) : Nat) : Int)
structure Canon (w : Str) : Prop where
  f : FigOk w
  h : (figs (ws w)).head? ≠ some 48 ∨ figs (ws w) = [48]
  z : ws w ≠ [45, 48]
theorem figs_neg (r : List Nat) : figs (45 :: r) = r := rfl
theorem figs_pos {l : List Nat} (h : l.head? ≠ some 45) : figs l = l := by
  match l, h with
  | [], _ => rfl
  | c :: r, h =>
    have h : c ≠ 45 := fun z => h (by rw [z]; rfl)
    unfold figs
    split
    · rename_i r' e
      cases e
      exact absurd rfl h
    · rfl
theorem ws_len (w : Str) : (ws w).length = w.length := Array.length_toList
theorem figs_len (l : List Nat) : l.length ≤ (figs l).length + 1 := by
  unfold figs
  split <;> simp
theorem int_val {w : Str} (h : FigOk w) : intText? w = some (valW w) := by
  have hl : w.length ≤ 4300 := by
    have h1 := figs_len (ws w)
    have h2 := h.le
    rw [ws_len] at h1
    omega
  unfold valW
  by_cases e : (ws w).head? = some 45
  · rw [if_pos e]
    obtain ⟨r, hr⟩ : ∃ r, ws w = 45 :: r := by
      match q : ws w, e with
      | c :: r, e => cases e; exact ⟨r, rfl⟩
    have hd := h.dg
    have hn := h.ne
    rw [hr, figs_neg] at hd hn ⊢
    exact intText_neg hr hd hn hl
  · rw [if_neg e, figs_pos e]
    have hd := h.dg
    have hn := h.ne
    rw [figs_pos e] at hd hn
    exact intText_digits hd hn hl
/-! ### figures -/
abbrev dF (acc c : Nat) : Nat := acc * 10 + (c - 48)
theorem dv_def (cs : List Nat) : NumText.digitsVal cs = List.foldl dF 0 cs := by
  unfold NumText.digitsVal
  rfl
theorem dv_zero (r : List Nat) : NumText.digitsVal (48 :: r) = NumText.digitsVal r := by
  rw [dv_def, dv_def, List.foldl_cons]
theorem dv_ge (r : List Nat) : ∀ a : Nat, a ≤ List.foldl dF a r := by
  induction r with
  | nil => exact fun a => Nat.le_refl _
  | cons c r ih =>
    intro a
    rw [List.foldl_cons]
    exact Nat.le_trans (by show a ≤ a * 10 + (c - 48); omega) (ih _)
theorem dv_pos {c : Nat} {r : List Nat} (h : 49 ≤ c) : 0 < NumText.digitsVal (c :: r) := by
  rw [dv_def, List.foldl_cons]
  exact Nat.lt_of_lt_of_le (by show 0 < 0 * 10 + (c - 48); omega) (dv_ge r _)
/-- without the noughts ahead -/
theorem bare : ∀ {cs : List Nat}, NumText.AllDigits cs → cs ≠ [] → ∃ ds : List Nat, NumText.AllDigits ds ∧ (∃ n, ds.length = n + 1 ∧ (n = 0 ∨ ∃ c r, ds = c :: r ∧ 49 ≤ c)) ∧ NumText.digitsVal ds = NumText.digitsVal cs ∧ (cs.head? = some 48 ∧ 1 < cs.length → ds.length < cs.length) ∧ (cs.head? ≠ some 48 ∨ cs.length = 1 → ds = cs)
  | [], _, h => absurd rfl h
  | [c], hd, _ => ⟨[c], hd, ⟨0, rfl, .inl rfl⟩, rfl, fun h => absurd h.2 (by simp), fun _ => rfl⟩
  | c :: b :: r, hd, _ => by
    by_cases e : c = 48
    · subst e
      obtain ⟨ds, k1, k2, k3, k4, k5⟩ := bare (cs := b :: r) (fun x hx => hd x (List.mem_cons_of_mem _ hx)) (by simp)
      refine ⟨ds, k1, k2, by rw [k3, dv_zero], fun _ => ?_, fun h => ?_⟩
      · have : ds.length ≤ (b :: r).length := by
          by_cases q : (b :: r).head? = some 48 ∧ 1 < (b :: r).length
          · exact Nat.le_of_lt (k4 q)
          · rw [k5 (by
              by_cases q1 : (b :: r).head? = some 48
              · refine .inr ?_
                have : ¬ 1 < (b :: r).length := fun z => q ⟨q1, z⟩
                simp only [List.length_cons] at this ⊢
                omega
              · exact .inl q1)]
            exact Nat.le_refl _
        simp only [List.length_cons] at this ⊢
        omega
      · rcases h with h | h
        · exact absurd rfl h
        · simp at h
    · have h1 := hd c (List.mem_cons_self ..)
      exact ⟨c :: b :: r, hd, ⟨(b :: r).length, rfl, .inr ⟨c, b :: r, rfl, by omega⟩⟩, rfl, fun h => absurd (Option.some.inj h.1) e, fun _ => rfl⟩
theorem nat_of_char : ∀ {cs : List Nat}, NumText.AllDigits cs → (cs.map Char.ofNat).map Char.toNat = cs
  | [], _ => rfl
  | c :: r, h => by
    have h1 := h c (List.mem_cons_self ..)
    rw [List.map_cons, List.map_cons, nat_of_char fun x hx => h x (List.mem_cons_of_mem _ hx)]
    congr 1
    obtain ⟨h2, h3⟩ := h1
    rcases (by omega : c = 48 ∨ c = 49 ∨ c = 50 ∨ c = 51 ∨ c = 52 ∨ c = 53 ∨ c = 54 ∨ c = 55 ∨ c = 56 ∨ c = 57) with e | e | e | e | e | e | e | e | e | e <;> subst e <;> rfl
theorem ws_of (s : String) : ws (Str.ofString s) = s.toList.map Char.toNat := by
  show (cpsOfBytes 0 0 s.toByteArray.data.toList).toArray.toList = _
  rw [cpsOfBytes_string]
theorem nat_text (n : Nat) : ws (Str.ofString (toString ((n : Nat) : Int))) = (Nat.toDigits 10 n).map Char.toNat := by
  rw [ws_of]
  show (Nat.repr n).toList.map Char.toNat = _
  unfold Nat.repr
  rw [String.toList_ofList]
theorem neg_text (n : Nat) : ws (Str.ofString (toString (-((n + 1 : Nat) : Int)))) = 45 :: (Nat.toDigits 10 (n + 1)).map Char.toNat := by
  rw [ws_of]
  show ("-" ++ Nat.repr (n + 1)).toList.map Char.toNat = _
  rw [String.toList_append]
  unfold Nat.repr
  rw [show (String.ofList (Nat.toDigits 10 (n + 1))).toList = Nat.toDigits 10 (n + 1) from String.toList_ofList]
  rfl
theorem str_eq {v w : Str} (h : ws v = ws w) : v = w := by
  obtain ⟨a⟩ := v
  obtain ⟨b⟩ := w
  have h : a.toList = b.toList := h
  rw [Array.toList_inj.mp h]
/-- the figures that a number is told by -/
theorem digits_text {ds : List Nat} (h : NumText.AllDigits ds) (k : ∃ n, ds.length = n + 1 ∧ (n = 0 ∨ ∃ c r, ds = c :: r ∧ 49 ≤ c)) : (Nat.toDigits 10 (NumText.digitsVal ds)).map Char.toNat = ds := by
  obtain ⟨n, k1, k2⟩ := k
  rw [NumText.toDigits_digitsVal n ds k1 h k2, nat_of_char h]
theorem bare_eq {cs ds : List Nat} (ne : cs ≠ []) (k4 : cs.head? = some 48 ∧ 1 < cs.length → ds.length < cs.length) (k5 : cs.head? ≠ some 48 ∨ cs.length = 1 → ds = cs) : ds = cs ↔ (cs.head? ≠ some 48 ∨ cs = [48]) := by
  constructor
  · intro e
    by_cases q : cs.head? = some 48
    · refine .inr ?_
      match cs, ne, q with
      | c :: r, _, q =>
        cases q
        cases r with
        | nil => rfl
        | cons b r =>
          have := k4 ⟨rfl, by simp⟩
          rw [e] at this
          exact absurd this (Nat.lt_irrefl _)
    · exact .inl q
  · rintro (h | h)
    · exact k5 (.inl h)
    · exact k5 (.inr (by rw [h]; rfl))
/-- a word is told as it stands just where it is written as the law has it -/
theorem num_canon {w : Str} (h : FigOk w) : Str.ofString (toString (valW w)) = w ↔ Canon w := by
  obtain ⟨ds, k1, k2, k3, k4, k5⟩ := bare h.dg h.ne
  have be := bare_eq h.ne k4 k5
  have tx := digits_text k1 k2
  rw [k3] at tx
  by_cases e : (ws w).head? = some 45
  · obtain ⟨cs, hr⟩ : ∃ r, ws w = 45 :: r := by
      match q : ws w, e with
      | c :: r, e => cases e; exact ⟨r, rfl⟩
    have hf : figs (ws w) = cs := by rw [hr]; rfl
    have hv : valW w = -((NumText.digitsVal cs : Nat) : Int) := by
      unfold valW
      rw [if_pos e, hf]
    rw [hf] at be k3 tx
    rw [hv]
    cases q : NumText.digitsVal cs with
    | zero =>
      have no : ¬ Canon w := fun ca => by
        have hh := ca.h
        rw [hf] at hh
        have := be.mpr hh
        obtain ⟨n, n1, n2⟩ := k2
        rw [q] at k3
        have hs : ds = [48] := by
          rcases n2 with n2 | ⟨c, r, e1, e2⟩
          · match ds, n1, k1, k3 with
            | [c], _, k1, k3 =>
              have h1 := k1 c (List.mem_cons_self ..)
              have h2 : 0 * 10 + (c - 48) = 0 := by
                rw [dv_def] at k3
                exact k3
              rw [show c = 48 by omega]
            | _ :: _ :: _, n1, _, _ => simp at n1; omega
          · rw [e1] at k3
            have := dv_pos (r := r) e2
            omega
        refine ca.z ?_
        rw [hr, ← this, hs]
      refine ⟨fun z => ?_, fun z => absurd z no⟩
      have z2 := congrArg ws z
      rw [hr] at z2
      have z3 : ws (Str.ofString (toString (-((0 : Nat) : Int)))) = [48] := by decide +kernel
      rw [z3] at z2
      cases z2
    | succ m =>
      rw [q] at tx
      have ht : ws (Str.ofString (toString (-((m + 1 : Nat) : Int)))) = 45 :: ds := by rw [neg_text, tx]
      constructor
      · intro z
        have z2 := congrArg ws z
        rw [ht, hr] at z2
        injection z2 with _ z2
        refine ⟨h, by rw [hf]; exact be.mp z2, fun z => ?_⟩
        rw [hr] at z
        injection z with _ z
        rw [z, dv_zero] at q
        cases q
      · intro ca
        have hh := ca.h
        rw [hf] at hh
        refine str_eq ?_
        rw [ht, hr, be.mpr hh]
  · have hf : figs (ws w) = ws w := figs_pos e
    have hv : valW w = ((NumText.digitsVal (ws w) : Nat) : Int) := by
      unfold valW
      rw [if_neg e, hf]
    rw [hf] at be tx
    have ht : ws (Str.ofString (toString (valW w))) = ds := by rw [hv, nat_text, tx]
    constructor
    · intro z
      have z2 := congrArg ws z
      rw [ht] at z2
      exact ⟨h, by rw [hf]; exact be.mp z2, fun z => e (by rw [z]; rfl)⟩
    · intro ca
      have hh := ca.h
      rw [hf] at hh
      refine str_eq ?_
      rw [ht, be.mpr hh]
end LW

set_option maxRecDepth 100000
set_option maxHeartbeats 400000
/-! ### texts of words -/
namespace LW
open PySem
theorem blankS : (" " : Str) = { cps := #[32] } := by decide +kernel
theorem blank_tl : TL.tl (" " : Str) = [32] := by decide +kernel
theorem blank_cps : ((" " : Str)).cps.all (· < 256) = true := by decide +kernel
theorem words_free {t p : Str} (h : p ∈ Txt.split t " ") : 32 ∉ ws p := by
  rw [blankS] at h
  exact StrLaws.split_free t 32 p h
theorem words_join (t : Str) : Txt.join " " (Txt.split t " ") = t := by
  rw [TL.join_eq]
  exact StrLaws.join_split t " "
theorem words_ne (t : Str) : Txt.split t " " ≠ [] := fun e => by
  by_cases h : t = ""
  · subst h
    have : Txt.split "" " " ≠ [] := by decide +kernel
    exact this e
  · have := words_join t
    rw [e] at this
    exact h (this.symm.trans (by decide +kernel))
theorem num_free (z : Int) : 32 ∉ ws (Str.ofString (toString z)) := by
  have k : ∀ n : Nat, 32 ∉ (Nat.toDigits 10 n).map Char.toNat := fun n h => by
    have := (TL.numL_digits n 32 h).1
    omega
  cases z with
  | ofNat n =>
    intro h
    have h : 32 ∈ ws (Str.ofString (toString ((n : Nat) : Int))) := h
    rw [nat_text] at h
    exact k n h
  | negSucc n =>
    intro h
    have h : 32 ∈ ws (Str.ofString (toString (-((n + 1 : Nat) : Int)))) := h
    rw [neg_text] at h
    rcases List.mem_cons.mp h with h | h
    · cases h
    · exact k _ h
/-- told word by word -/
theorem text_iff {t : Str} {us : List Str} (hl : us.length = (Txt.split t " ").length) (hu : ∀ u ∈ us, 32 ∉ ws u) : Txt.join " " us = t ↔ us = Txt.split t " " := by
  constructor
  · intro h
    have ne : us ≠ [] := fun e => by
      rw [e] at hl
      exact words_ne t (List.length_eq_zero_iff.mp hl.symm)
    have := TL.split_join blank_tl blank_cps ne fun p hp => hu p hp
    rw [h] at this
    exact this.symm
  · intro h
    rw [h, words_join]
/-- the program's look at a word -/
theorem dig_at : ∀ c, c < 128 → (Unicode.isDigit c = true ↔ 48 ≤ c ∧ c ≤ 57) := by decide +kernel
theorem look_iff (f : Str) : (Txt.isascii f = true ∧ Txt.isdigit f = true) ↔ (ws f ≠ [] ∧ NumText.AllDigits (ws f)) := by
  unfold Txt.isascii Txt.isdigit
  rw [Bool.and_eq_true, decide_eq_true_iff, ← Array.all_toList, ← Array.all_toList, List.all_eq_true, List.all_eq_true]
  have hl : f.length = (ws f).length := (ws_len f).symm
  constructor
  · rintro ⟨h1, h2, h3⟩
    refine ⟨fun e => ?_, fun c hc => ?_⟩
    · rw [hl, e] at h2
      exact absurd h2 (by simp)
    · exact (dig_at c (of_decide_eq_true (h1 c hc))).mp (h3 c hc)
  · rintro ⟨h1, h2⟩
    refine ⟨fun c hc => decide_eq_true (by have := (h2 c hc).2; omega), ?_, fun c hc => ?_⟩
    · rw [hl]
      exact List.length_pos_iff.mpr h1
    · have := h2 c hc
      exact (dig_at c (by omega)).mpr this
/-- a text of words is told as it stands just where each word is written as the law has it -/
theorem lags_iff {t : Str} (h : ∀ w ∈ Txt.split t " ", FigOk w) : Txt.join " " ((Txt.split t " ").map fun w => Str.ofString (toString (valW w))) = t ↔ ∀ w ∈ Txt.split t " ", Canon w := by
  rw [text_iff (List.length_map _) fun u hu => by
    obtain ⟨w, _, rfl⟩ := List.mem_map.mp hu
    exact num_free _]
  constructor
  · intro e w hw
    obtain ⟨i, hi⟩ := List.getElem?_of_mem hw
    have h2 : ((Txt.split t " ").map fun w => Str.ofString (toString (valW w)))[i]? = some w := by rw [e]; exact hi
    rw [List.getElem?_map, hi] at h2
    exact (num_canon (h w hw)).mp (Option.some.inj h2)
  · intro c
    conv => rhs; rw [← List.map_id (Txt.split t " ")]
    exact List.map_congr_left fun w hw => (num_canon (h w hw)).mpr (c w hw)
end LW

set_option maxRecDepth 100000
set_option maxHeartbeats 400000
namespace LW
open PySem
theorem dash : ("-" : Str) = ⟨#[45]⟩ := by decide +kernel
theorem starts_iff (w : Str) : Txt.startswith w "-" = decide ((ws w).head? = some 45) := by
  unfold Txt.startswith
  rw [dash]
  simp only [Builtin.Str.subAt]
  obtain ⟨a⟩ := w
  show (decide (0 + 1 ≤ a.size) && (a.extract 0 (0 + 1) == #[45])) = decide (a.toList.head? = some 45)
  obtain ⟨l⟩ := a
  cases l with
  | nil => rfl
  | cons c r =>
    have e : (⟨c :: r⟩ : Array Nat).extract 0 (0 + 1) = #[c] := by simp
    rw [e]
    by_cases h : c = 45
    · subst h
      simp
    · have h1 : ¬ (#[c] = #[45]) := fun z => h (by simpa using z)
      have h2 : ¬ ((c :: r).head? = some 45) := fun z => h (Option.some.inj z)
      simp [h]
theorem cut1 (w : Str) : ws (L2.cutS w (some 1) none) = (ws w).drop 1 := by
  have hl : (ws w).length = w.length := ws_len w
  unfold L2.cutS
  show ((((ws w).drop _).take _).toArray).toList = _
  have e : HT.sIx w.length 0 (some 1) = min 1 w.length := HT.sIx_nat w.length 0 1
  rw [e, HT.sIx_none, List.toList_toArray]
  by_cases h : 1 ≤ w.length
  · rw [Nat.min_eq_left h]
    exact List.take_of_length_le (by rw [List.length_drop]; omega)
  · have h0 : ws w = [] := List.length_eq_zero_iff.mp (by omega)
    rw [h0]
    simp
/-- the figures as the program takes them -/
def figS (w : Str) : Str := if Txt.startswith w "-" = true then L2.cutS w (some 1) none else w
theorem figS_ws (w : Str) : ws (figS w) = figs (ws w) := by
  unfold figS
  rw [starts_iff]
  by_cases h : (ws w).head? = some 45
  · rw [decide_eq_true h, if_pos rfl, cut1]
    match q : ws w, h with
    | c :: r, h =>
      cases h
      rfl
  · rw [decide_eq_false h, if_neg (by decide), figs_pos h]
theorem figOk_iff (w : Str) : FigOk w ↔ (Txt.isascii (figS w) = true ∧ Txt.isdigit (figS w) = true ∧ (figS w).length ≤ 60) := by
  have hl : (figS w).length = (figs (ws w)).length := by rw [← figS_ws, ws_len]
  have k := look_iff (figS w)
  rw [figS_ws] at k
  constructor
  · intro h
    obtain ⟨k1, k2⟩ := k.mpr ⟨h.ne, h.dg⟩
    exact ⟨k1, k2, by rw [hl]; exact h.le⟩
  · rintro ⟨h1, h2, h3⟩
    obtain ⟨k1, k2⟩ := k.mp ⟨h1, h2⟩
    exact ⟨k1, k2, by rw [← hl]; exact h3⟩
theorem figS_len (w : Str) : w.length ≤ (figS w).length + 1 := by
  rw [← ws_len, ← ws_len, figS_ws]
  exact figs_len (ws w)
end LW
namespace Lag
open PySem PySem.Spec PyProof.Rows L2
def spReadNumX (CT : Addr) : Sp := fun vs H Q E => ∃ w : Str, vs = [.str w] ∧ w.length ≤ 20000 ∧ (LW.FigOk w → Q (.int (LW.valW w)) H) ∧ (¬ LW.FigOk w → E (.ref CT) none H)
section
variable {P : Program} {w : World} {K : PySem.W.Frag} {mg : Str → Option Value} {base : Heap}
theorem ok_readNumX {f CT : Addr} {fd : FuncData} (F : Fun K "read_number" "read_number" sReadNum f fd) (B : Bt mg) (hf : ∃ t, mg "MOST_FIGURES" = some (.int 60 t)) (NX : PEx K mg "NoText" CT) : FnOk P w K mg base (L2.CX P w) 1 f fd ["word"] (spReadNumX CT) := by
  obtain ⟨tf, hf⟩ := hf
  refine F.okX scReadNum (fun vs H Q E h => ?_) (fun cdv A outer s H vs Q E hr h => ?_)
  · obtain ⟨t, rfl, _⟩ := h
    rfl
  · obtain ⟨t, rfl, hlen, q, qn⟩ := h
    have nd := scReadNum.nd
    refine ⟨_, Evl.pss_cut (ps_set (i := 1) nd rfl (.inl rfl) (pe_ifExp (pt_val (pe_m1 PySem.F.slot_str_startswith PySem.F.type_str_startswith mt_startswith (pv 0) pe_str)) (pe_slice sl_str (pv 0) (po_some pe_int) po_none) (pv 0))) <|
      pss_cons (ps_if (PW.pt (pw_or (pt_not (pt_val (pe_m0 PySem.F.slot_str_isascii PySem.F.type_str_isascii mt_isascii (pv 1)))) (pw_or (pt_not (pt_val (pe_m0 PySem.F.slot_str_isdigit PySem.F.type_str_isdigit mt_isdigit (pv 1)))) (pw_or1 (pt_cmpR op_gt (pe_callB call_len_str (by rfl) B.len PySem.boot_len (pa_cons (pv 1) pa_nil)) (pe_glob (v := .int 60) (by rfl) hf ⟨_, rfl⟩) (nomark _)))))) (pss_one (ps_raise rfl (takes_of rfl rfl rfl rfl) (pmk_own PySem.F.excBase_ValueError NX.q NX.g NX.k (raises_own NX.e NX.t) (by rfl)))) pss_nil) <|
      pss_one <| ps_ret (pe_callTy call_int_str (by rfl) B.int (by decide +kernel) (pa_cons (pv 0) pa_nil)), ?_⟩
    have fl := LW.figS_len t
    have fk := LW.figOk_iff t
    refine ⟨fun σ H' => σ = [some (.str t), some (.str (LW.figS t))] ∧ H' = H, ?_, ?_⟩
    · refine ⟨_, rfl, ⟨_, rfl⟩, _, _, rfl, rfl, _, rfl, ite2 (fun e => ?_) (fun e => ?_)⟩
      · refine ⟨_, rfl, _, rfl, _, rfl, Nat.le_trans hlen (by decide), ?_⟩
        refine gn_norm (σ' := [some (.str t), some (.str (LW.figS t))]) ?_ ⟨rfl, rfl⟩
        unfold LW.figS
        rw [if_pos e]
        rfl
      · refine ⟨_, rfl, ?_⟩
        refine gn_norm (σ' := [some (.str t), some (.str (LW.figS t))]) ?_ ⟨rfl, rfl⟩
        unfold LW.figS
        rw [if_neg e]
        rfl
    rintro σ H' ⟨rfl, rfl⟩
    have fS : (LW.figS t).length ≤ 20000 := by
      unfold LW.figS
      split
      · exact Nat.le_trans (cutS_length _ _ _) hlen
      · exact hlen
    refine ⟨_, rfl, ⟨_, rfl⟩, _, rfl, rfl, trivial, Txt.isascii (LW.figS t), rfl, ?_⟩
    cases h1 : Txt.isascii (LW.figS t) with
    | false => exact iteT (qn fun z => by have := (fk.mp z).1; rw [h1] at this; cases this)
    | true =>
    refine iteF ?_
    refine ⟨_, rfl, ⟨_, rfl⟩, _, rfl, rfl, trivial, Txt.isdigit (LW.figS t), rfl, ?_⟩
    cases h2 : Txt.isdigit (LW.figS t) with
    | false => exact iteT (qn fun z => by have := (fk.mp z).2.1; rw [h2] at this; cases this)
    | true =>
    refine iteF ?_
    refine ⟨_, rfl, _, rfl, Nat.le_trans fS (by decide), _, _, rfl, rfl, _, rfl, ite2 (fun e => ?_) (fun e => ?_)⟩
    · have e := of_decide_eq_true e
      exact qn fun z => by
        have := (fk.mp z).2.2
        omega
    · have e : ¬ ((60 : Int) < (((LW.figS t).length : Nat) : Int)) := fun z => e (decide_eq_true z)
      have ok : LW.FigOk t := fk.mpr ⟨h1, h2, by omega⟩
      exact ⟨_, rfl, _, _, rfl, LW.int_val ok, by have := ok.le; have := LW.figS_ws t; have := LW.ws_len (LW.figS t); have := fk.mp ok; omega, q ok⟩
end
end Lag

set_option maxRecDepth 100000
set_option maxHeartbeats 4000000
/-! ### refusals whose context is None -/
namespace L2
open PySem PySem.Spec PyProof.Rows
section
variable {P : Program} {w : World} {K : PySem.W.Frag} {mg : Str → Option Value} {base : Heap}
theorem Fun.okXN {x qual : Str} {st : Stmt} {f : Addr} {fd : FuncData} {N ps : List Str} {k : Nat} {sp : Sp} (F : Fun K x qual st f fd) (S : FnScope N ps (defScope st))
    (len : ∀ vs H Q E, sp vs H Q E → vs.length = ps.length)
    (hbody : ∀ (cdv : Value) (A : Around) (outer : List Env) (s : Shared) (H : Hp) (vs : List V) (Q : VK) (E : XK), Room k (A.deeper (envOfC qual (defScope st) s.heap.objs.size f cdv)) →
      sp vs H Q E → ∃ t, PSs (cxOf (L2N.CX P w) P w K mg base N qual (defScope st) f cdv A outer s H E) (defBody st) t ∧
        t { nx := fun _ H' => Q .non H', rt := Q } (start N vs) H) : FnOk P w K mg base (L2N.CX P w) (k + 1) f fd ps sp := by
  obtain ⟨oc, od, kV, doc, pm, an, cdv, ct, osl, rfl, lk, hcd⟩ := F.ex
  refine fn_of lk hcd S len ?_
  intro A outer s H vs Q E hr hsp
  exact hbody cdv A outer s H vs Q E hr hsp
end
section
variable {X : Cx} {e : Expr} {es : List Expr} {ta : TA} {p pos : Pos}
/-- C(e) of a class with an __init__ of its own, as what is raised: its context is None -/
theorem pmk_oexN {x : Str} {C fI : Addr} {k : Nat} {fd : FuncData} {ps : List Str} {sp : Sp} (T : OexC X.K C) (iC : PySem.W.findIn X.K (.ref C) "__init__" = some (some (.ref fI)))
    (tI : PySem.W.typeIn X.K (.ref fI) = some (.type "function")) (F1 : FnOk X.prog X.w X.K X.mg X.base CX0 k fI fd ps sp) (hr : Room (k + 1) X.A) (hb : Binds X.K fd ps []) (hg : Gl X x) (hm : X.mg x = some (.ref C))
    (ha : PA X (e :: es) ta) (hdb : (x == ("__debug__" : Str)) = false := by decide) (he : starEach (e :: es) X.env = (false, eval e X.env) :: starEach es X.env := by rfl)
    (hpl : (backTo pos (starEach es X.env)).any (·.1) = false := by rfl) : L2N.PMk X (.Call (.Name x p) (e :: es) [] pos) (tMkO C sp [] ta) := by
  intro pins s σ H Q I h
  obtain ⟨nm, q, N, bs, bm, sn, sub, ab, col, dd, k0, k1, k2, k3, k5, hC, hbm⟩ := T.cls
  refine wpAny_Call_Name_kw (ld_glob I hg hm ?_ hdb)
  refine PySem.W.callWith_K (h₀ := X.base) I.ok.mod.kin T.kC ?_ he hpl
  refine thn (ha.run pos pins s σ H _ I h) fun us s1 ⟨vs, H1, I1, r1, hz, q1⟩ => ⟨I1.kIn, ?_⟩
  show wpAny _ _ (call (.ref C) us) _ _ _
  obtain ⟨hp, g, dr, tk, os⟩ := s1
  have hsz : hp.objs.size ≤ hp.objs.size + 1 := Nat.le_succ _
  have hn : H1 (hp.objs.size + 1) = none := I1.hok.fresh hsz
  have hq := q1 _ hn
  rw [List.append_nil] at hq
  have up : ∀ b o, hp.get? b = some o → ((hp.push (PySem.W.kdv_tup us)).push (PySem.HandSPX.excO C hp.objs.size)).get? b = some o := fun b o z =>
    Heap.get?_push_of_some _ (Heap.get?_push_of_some _ z)
  have here : ((hp.push (PySem.W.kdv_tup us)).push (PySem.HandSPX.excO C hp.objs.size)).get? (hp.objs.size + 1) = some (PySem.HandSPX.excO C hp.objs.size) := by
    heap_get
  have I2 := I1.laid (t' := tk) (a := hp.objs.size + 1) (o := exo (hp.objs.size + 1) C none) (h' := (hp.push (PySem.W.kdv_tup us)).push (PySem.HandSPX.excO C hp.objs.size)) up hsz (exo_ok here)
  have r2 : Vals (V.ref (hp.objs.size + 1) :: vs) (Value.ref (hp.objs.size + 1) :: us) := .cons rfl r1
  have hl : (Value.ref (hp.objs.size + 1) :: us).length = ps.length := by
    rw [← F1.len _ _ _ _ hq]
    exact r2.length.symm
  have hus : us.length ≤ sizeLine := by
    rw [← Paired.length r1, sizeLine_eq]
    omega
  refine wpAny_call (PySem.HandSPX.call_own F.excBase_ValueError (fun Y => PySem.HandSPX.refsVE_contains Y bm hbm) (I1.kIn _ _ hC) (PySem.W.looks_findIn I1.kIn iC) (fun me => PySem.W.bind_fn I1.kIn me tI) hus ?_)
  refine codeAny_mono (F1.run _ X.stack _ _ ⟨Value.ref (hp.objs.size + 1) :: us, []⟩ (Value.ref (hp.objs.size + 1) :: us) _ _ E0 (hr.make C us []) (I2.env0.make C us []) ?_ r2 hq) fun r s' hq' => ?_
  · have := hb _ (Value.ref (hp.objs.size + 1) :: us) I2.kIn (by rw [List.append_nil]; exact hl)
    rw [List.append_nil] at this
    exact this
  cases r with
  | error er => exact False.elim hq'
  | ok fl =>
    cases fl with
    | ret u =>
      obtain ⟨v, H2, os2, bare2, un2, hok2, rv, ev, d, fs, ea, ed, hd1, q2⟩ := hq'
      subst ev
      obtain ⟨h2, g2, d2, t2, os'⟩ := s'
      obtain ⟨t0, G, J, kG, ge, hoe, na⟩ := mk_end0 (d2 := d2) (t2 := t2) I1 hsz up un2 hok2 os2 bare2 ea ed hd1
      refine ⟨rv, hp.objs.size + 1, _, _, ⟨G, g2, d2, t2, os'⟩, _, .ref C, some d, rfl, J, kG, ge, hoe, ⟨rfl, rfl, ?_⟩, rfl, rfl, na, rfl, bare2, raises_own T.exC T.tyC, q2⟩
      intro vs' hv
      cases hv
      rfl
    | next => exact False.elim hq'
    | brk => exact False.elim hq'
    | cont => exact False.elim hq'
end
end L2

set_option maxRecDepth 100000
set_option maxHeartbeats 4000000
/-! ### try: .. except (A, B, C): raise .. -/
namespace L2
open PySem PySem.Spec PyProof.Rows L2H
/-- the error is of one of the three; then what the suite does -/
def wAny3 (K : PySem.W.Frag) (c1 c2 c3 : Value) (ts : Addr → Value → Option Addr → TS) (D : Ends) : WX := fun cls d σ H => PySem.W.exmAny K cls [c1, c2, c3] = some true ∧ ∀ a, H a = none → ts a cls d D σ H
theorem flying_keeps {base h h' : Heap} {l : List Env} {e : Addr} {Z : Obj → Prop} (k : ∀ b o, h.get? b = some o → h'.get? b = some o) (f : HandSPX.FlyingZ base l e Z h) : HandSPX.FlyingZ base l e Z h' := by
  obtain ⟨f1, f2, f3, oe, vs, T, oT, ts, g1, g2, g3, g4, g5, g6, g7, g8, g9⟩ := f
  exact ⟨fun b o hb => k _ _ (f1 b o hb), f2, f3.of_keeps fun b o hb _ => ⟨o, k _ _ hb, rfl⟩, oe, vs, T, oT, ts, k _ _ g1, g2, g3, g4, g5, g6, k _ _ g7, g8, g9⟩
section
variable {X : Cx} {body : List Stmt} {x1 x2 x3 : Str} {c1 c2 c3 : Value} {ts : Addr → Value → Option Addr → TS} {b1 : Stmt} {ss : List Stmt} {kk : Nat} {p1 p2 p3 tp hp pos : Pos} {tb : WX → TS} {Wo : WX}
theorem ps_try_any3X (hst : X.stack = X.env :: X.outer) (hfr : X.env.frame = some X.env.locals) (hpa : ∀ hd : Option Value, PassesOwnAt (model X.prog X.w) (X.A.mark hd) X.A X.env X.xe) (tk : L2.Takes X Wo)
    (hb : ∀ (W : WX) (pn : List (Addr × Obj)) (xe : Value → Shared → Prop), L2N.Takes (X.tr pn xe) W → PassesOwn (model X.prog X.w) X.A X.env xe → PSs (X.tr pn xe) body (tb W))
    (n1 : Names X x1 c1) (n2 : Names X x2 c2) (n3 : Names X x3 c3)
    (su : ∀ (a : Addr) (oe : Obj) (cls : Value) (d : Option Addr) (pn : List (Addr × Obj)), L2N.Zn cls d oe → (∃ vs, oe.data = .fields vs) → L2.Takes (suiteX X a ((a, oe) :: pn)) Wo → HotC (suiteX X a ((a, oe) :: pn)) →
      PSs (suiteX X a ((a, oe) :: pn)) (b1 :: ss) (ts a cls d)) :
    PS X (.Try body [.ExceptHandler (some (.Tuple [.Name x1 p1, .Name x2 p2, .Name x3 p3] kk tp)) none (b1 :: ss) hp] [] [] pos) (fun D σ H => tb (wAny3 X.K c1 c2 c3 ts D) D σ H) := by
  constructor
  intro pins s σ H D I h
  have ok := I.ok
  have frs0 : X.A.frames = some (X.env :: X.outer) := hst ▸ ok.frames
  refine wpAny_Try_except (wpAny_mono ((hb (wAny3 X.K c1 c2 c3 ts D) (X.pn ++ pins)
    (fun e t1 => wpAny (model X.prog X.w) X.A (noteFrame e X.env)
      (fun _ t2 => wpAny (model X.prog X.w) X.A (setFlight e none)
        (fun _ t3 => wpAny (model X.prog X.w) X.A (handleBy e X.env [.ExceptHandler (some (.Tuple [.Name x1 p1, .Name x2 p2, .Name x3 p3] kk tp)) none (b1 :: ss) hp]) (SP X pins D) X.xe t3) X.xe t2) X.xe t1)
    ?_ PassesOwn.looking).run [] s σ H D (I.toTry _) h) ?_ fun e t1 he => he)
  · intro u t xx
    have goal : wpAny (model X.prog X.w) X.A (noteFrame u X.env) (fun _ t2 => wpAny (model X.prog X.w) X.A (setFlight u none) (fun _ t3 => wpAny (model X.prog X.w) X.A (handleBy u X.env [.ExceptHandler (some (.Tuple [.Name x1 p1, .Name x2 p2, .Name x3 p3] kk tp)) none (b1 :: ss) hp]) (SP X pins D) X.xe t3) X.xe t2) X.xe t := by
      obtain ⟨a, B, sI, pins', σ', H', cls, d, rfl, J0, nb, up, sky0, na, os, ag, w⟩ := xx
      have J : Inv X pins σ' H' sI := J0.ofTry ok
      have sky : Sky B (X.env :: X.outer) a (L2N.Zn cls d) X.env.locals t.heap := hst ▸ sky0
      refine L2N.Sky.land L2N.Zn.steady frs0 hfr sky fun h3 fl3 up3 => ?_
      have J3 : Inv X pins σ' H' { t with heap := h3 } := J.landed nb fl3.1 (up.trans up3) os ag
      obtain ⟨oe, vs, he, hz, hd⟩ := fl3.there
      have off : a ∉ frs (X.env :: X.outer) := fun hm => by
        obtain ⟨_, o', e', no⟩ := fl3.2.2.1.mem hm
        rw [he] at e'
        cases e'
        exact no _ hd
      have offL : a ≠ X.env.locals := fun z => off (List.mem_filterMap.mpr ⟨X.env, by simp, by rw [hfr, z]⟩)
      have offF : a ∉ X.fs := fun hm => by
        obtain ⟨e, hm2, q⟩ := List.mem_filterMap.mp hm
        exact off (List.mem_filterMap.mpr ⟨e, List.mem_cons_of_mem _ hm2, q⟩)
      have S3 := J3.suite he hd na offL offF
      have typ : PySem.W.Looks (model X.prog X.w) h3 (typeOf (.ref a)) cls := by
        intro A Q E s k q
        exact wpAny_typeOf_ref (k _ _ he) (by rw [hz.1]; exact q)
      have nm : ∀ {x : Str} {c : Value} {p1 : Pos} {Q E : Value → Shared → Prop}, Names X x c → Q c { t with heap := h3 } → wpAny (model X.prog X.w) (X.A.mark (some (.ref a))) (eval (.Name x p1) X.env) Q E { t with heap := h3 } := by
        intro x c p1 Q E hc q
        rcases hc with ⟨g1, g2, g3 | ⟨g3, g4, g5⟩⟩
        · exact ld_glob (X := X.suite a ((a, oe) :: (X.pn ++ pins))) S3 g1 g3 q g2
        · exact ld_blt (X := X.suite a ((a, oe) :: (X.pn ++ pins))) S3 g1 g3 g4 q g5 g2
      obtain ⟨em, yes⟩ := w
      refine wpAny_handleBy_cons (codeAny_handlers_test (wpAny_Tuple_spliced (args_cons (nm n1 (args_cons (nm n2 (args_cons (nm n3 (spliced_none ⟨(by show 3 ≤ sizeLine; decide), ?_⟩))))))))) (by intro q; cases q)
      have kp : ∀ b o, h3.get? b = some o → (h3.push { cls := .type "tuple", data := .seq #[c1, c2, c3] }).get? b = some o := fun b u e => Heap.get?_push_of_some _ e
      have hpt : (h3.push { cls := .type "tuple", data := .seq #[c1, c2, c3] }).get? h3.objs.size = some { cls := .type "tuple", data := .seq #[c1, c2, c3] } := Heap.get?_push_size _ rfl
      have J4 : Inv X pins σ' H' { t with heap := h3.push { cls := .type "tuple", data := .seq #[c1, c2, c3] } } := J3.kept (t' := t.toks) kp
      have fl4 := flying_keeps kp fl3
      refine (PySem.W.exm_tup3 (M := model X.prog X.w) J4.kIn (typ.keeps kp) hpt em).here ?_
      refine codeAny_handlers_suite (HandSPX.lands_againZ fl4 fun h4 fl5 up5 => ?_)
      have upk : h3.UpToSlots (h3.push { cls := .type "tuple", data := .seq #[c1, c2, c3] }) := fun b o hb _ => ⟨o.slots, kp _ _ hb⟩
      have J5 : Inv X pins σ' H' { t with heap := h4 } := J.landed nb fl5.1 (((up.trans up3).trans upk).trans up5) os ag
      obtain ⟨o4, v4, he4, hz4, hd4⟩ := fl5.there
      have S4 := J5.suite he4 hd4 na offL offF
      have tkS : L2.Takes (suiteX X a ((a, o4) :: (X.pn ++ pins))) Wo := by
        intro u2 s2 y
        obtain ⟨a2, B2, sI2, pn2, σ2, H2, cls2, d2, e2, I2, y1, y2, y3, y4, y5, y6, y7⟩ := y
        exact tk u2 s2 ⟨a2, B2, sI2, pins, σ2, H2, cls2, d2, e2, unsuiteX I2 ok, y1, y2, y3, y4, y5, y6, y7⟩
      have hot : HotC (suiteX X a ((a, o4) :: (X.pn ++ pins))) := ⟨(a, o4), ⟨rfl, v4, hd4, hz4.2.2 v4 hd4⟩, List.mem_cons_self⟩
      refine wpAny_mono ((su a o4 cls d (X.pn ++ pins) hz4 ⟨_, hd4⟩ tkS hot).run [] _ _ H' _ (suiteX_of S4) (yes a na)) (fun f t6 hp => ?_) (fun e6 t6 z => hpa (some (.ref a)) e6 t6 z)
      cases f
      case next =>
        obtain ⟨σ6, H6, S6, q6⟩ := hp
        exact ⟨_, _, unsuiteX S6 ok, q6⟩
      case brk =>
        obtain ⟨σ6, H6, S6, q6⟩ := hp
        exact ⟨_, _, unsuiteX S6 ok, q6⟩
      case cont =>
        obtain ⟨σ6, H6, S6, q6⟩ := hp
        exact ⟨_, _, unsuiteX S6 ok, q6⟩
      case ret u =>
        obtain ⟨v6, σ6, H6, S6, r6, q6⟩ := hp
        exact ⟨_, _, _, unsuiteX S6 ok, r6, q6⟩
    exact goal
  · intro f t1 hp
    cases f
    case next =>
      obtain ⟨σ', H', J', q⟩ := hp
      exact wpAny_execs_nil ⟨σ', H', J'.ofTry ok, q⟩
    case brk =>
      obtain ⟨σ', H', J', q⟩ := hp
      exact ⟨σ', H', J'.ofTry ok, q⟩
    case cont =>
      obtain ⟨σ', H', J', q⟩ := hp
      exact ⟨σ', H', J'.ofTry ok, q⟩
    case ret u =>
      obtain ⟨v, σ', H', J', r, q⟩ := hp
      exact ⟨v, σ', H', J'.ofTry ok, r, q⟩
end
end L2

set_option maxRecDepth 100000
set_option maxHeartbeats 8000000
namespace Lag
open PySem PySem.Spec PyProof.Rows L2
section
variable {P : Program} {w : World} {K : PySem.W.Frag} {mg : Str → Option Value} {base : Heap}
theorem ok_chkGatesXN {f fG CG : Addr} {fd fdG : FuncData} (F : Fun K "check_gates" "check_gates" sChkGates f fd) (B : Bt mg) (DG : DIsGate P w K mg base fG fdG) (DX : FnOk P w K mg base CX0 3 fG fdG ["thing"] (spIsGateD K)) (NG : PEx K mg "NoGates" CG) : FnOk P w K mg base (L2N.CX P w) 4 f fd ["gates"] (spChkGatesX K CG) := by
  refine F.okXN scChkGates (fun vs H Q E h => ?_) (fun cdv A outer s H vs Q E hr h => ?_)
  · obtain ⟨v, d, rfl, _⟩ := h
    rfl
  · obtain ⟨v, d, rfl, hd, bad, q⟩ := h
    have nd := scChkGates.nd
    refine ⟨_, pss_cons (ps_if (PW.pt (pw_or (pt_not (pt_val (pe_callB call_isi (by rfl) B.isi (by decide +kernel) (pa_cons (pv 0) (pa_cons (pe_bltn (v := .ty "list") (by rfl) B.list (by decide +kernel) rfl) pa_nil)))))
          (pw_or1 (pt_cmpR op_eq (pe_callB call_len_seq (by rfl) B.len PySem.boot_len (pa_cons (pv 0) pa_nil)) pe_int (nomark _))))) (pss_one (L2N.ps_raise rfl (L2N.takes_of rfl rfl rfl rfl) (L2N.pmk_own PySem.F.excBase_ValueError NG.q NG.g NG.k (raises_own NG.e NG.t) (by rfl)))) pss_nil) <|
      pss_one <| ps_for (passes_of rfl) rfl (pi_list (pv 0)) (pg_name (i := 1) nd rfl (.inl rfl)) <|
        pss_one <| ps_if (pt_not (pt_val (pe_call DX hr (by rfl) DG.mg DG.kp DG.bd .nil pass0 (pa_cons (pv 1) pa_nil)))) (pss_one (L2N.ps_raise rfl (L2N.takes_of rfl rfl rfl rfl) (L2N.pmk_own PySem.F.excBase_ValueError NG.q NG.g NG.k (raises_own NG.e NG.t) (by rfl)))) pss_nil, ?_⟩
    obtain ⟨t, ty, _, _, _, k4⟩ := hd.ty
    refine ⟨_, rfl, _, _, _, _, dL d, rfl, .ty "list", ty, kit_ty k4, dL d, rfl, ?_⟩
    have no : dL d = false → (if dL d = false then True else True) → E (.ref CG) none H := fun _ _ => q H (Same.refl H)
    cases hd with
    | @lst a xs ds e n al =>
      have a2 := al.all2
      have hlx : xs.length = ds.length := a2.1
      refine iteF ?_
      refine ⟨_, rfl, a, _, rfl, .inl (SqL.of e), rfl, decide (ds.length = 0), (by rw [vint_eq, hlx]; exact congrArg V.bl (decide_eq_decide.mpr (by omega))), ?_⟩
      by_cases hl : ds.length = 0
      · rw [decide_eq_true hl]
        exact iteT (q H (Same.refl H))
      · rw [decide_eq_false hl]
        refine iteF ?_
        have hbad : ∃ (n : Nat) (d0 : PyData), ds[n]? = some d0 ∧ isGateD d0 = false := by
          have bad : (!ds.isEmpty && ds.all isGateD) = false := bad
          have he : (!ds.isEmpty) = true := by
            cases ds with
            | nil => exact absurd rfl hl
            | cons x l => rfl
          rw [he, Bool.true_and, List.all_eq_false] at bad
          obtain ⟨d0, h0, h1⟩ := bad
          obtain ⟨n, hn⟩ := List.getElem?_of_mem h0
          exact ⟨n, d0, hn, by simpa using h1⟩
        obtain ⟨nb, d0, hnb, hb⟩ := hbad
        have hnl : nb < ds.length := (List.getElem?_eq_some_iff.mp hnb).1
        refine ⟨_, rfl, a, rfl, ⟨_, SqL.of e⟩, for_list (K := K) (a := a) (xs := xs) (fun i σ H2 => i ≤ nb ∧ ∃ y, σ = [some (.ref a), y] ∧ H2 = H) ⟨Nat.zero_le _, _, rfl, rfl⟩ (fun i σ H2 _ ⟨_, _, _, e2⟩ => by rw [e2]; exact SqL.of e) ?_ ?_⟩
        · rintro i x σ H2 hx ⟨hi, y, rfl, rfl⟩
          obtain ⟨d1, hd1, dx1⟩ := a2.get hx
          refine ⟨_, rfl, x, d1, rfl, dx1, isGateD d1, rfl, ?_⟩
          cases hg : isGateD d1 with
          | false => exact iteT (q H2 (Same.refl H2))
          | true =>
            refine iteF ⟨?_, _, rfl, rfl⟩
            by_cases z : i = nb
            · rw [z, hnb] at hd1
              rw [← Option.some.inj hd1, hb] at hg
              cases hg
            · omega
        · rintro σ H2 ⟨hi, _⟩
          exfalso
          omega
    | non => exact iteT (q H (Same.refl H))
    | bl b => exact iteT (q H (Same.refl H))
    | int i => exact iteT (q H (Same.refl H))
    | str x => exact iteT (q H (Same.refl H))
    | tup s a => exact iteT (q H (Same.refl H))
    | dic e => exact iteT (q H (Same.refl H))
theorem ok_chkWiresXN {f fW fT aK aW aF CW fN : Addr} {fd fdW fdT fdN : FuncData} (F : Fun K "check_wires" "check_wires" sChkWires f fd) (B : Bt mg) (C : Cns K mg aK aW aF) (DW : DIsWire P w K mg base fW fdW) (DWX : FnOk P w K mg base CX0 4 fW fdW ["thing", "many_gates"] (spIsWireD K)) (DT : DTaken P w K mg base fT fdT) (DTX : FnOk P w K mg base CX0 1 fT fdT ["wire", "gates", "come"] (spTakenB K))
    (TE : TEx K mg "NoWires" "place" CW fN) (nwI : FnOk P w K mg base CX0 1 fN fdN ["self", "place"] (spXI "place" CW)) (bT : Binds K fdN ["self", "place"] []) : FnOk P w K mg base (L2N.CX P w) 5 f fd ["gates", "wires"] (spChkWiresX K CW) := by
  refine F.okXN scChkWires (fun vs H Q E h => ?_) (fun cdv A outer s H vs Q E hr h => ?_)
  · obtain ⟨lg, v, gs, d, p, rfl, _⟩ := h
    rfl
  · obtain ⟨lg, v, gs, d, p, rfl, RGs, hgl, hd, hsh, hwf, q⟩ := h
    have nd := scChkWires.nd
    have hr1 : Room 1 _ := hr.mono (by decide)
    refine ⟨_, pss_cons (ps_if (pt_not (pt_val (pe_callB call_isi (by rfl) B.isi (by decide +kernel) (pa_cons (pv 1) (pa_cons (pe_bltn (v := .ty "list") (by rfl) B.list (by decide +kernel) rfl) pa_nil))))) (pss_one (L2N.ps_raise rfl (L2N.takes_of rfl rfl rfl rfl) (pmk_oexN TE.T TE.iC TE.tI nwI (hr.mono (by decide)) bT (by rfl) TE.g (pa_cons (pe_un un_neg pe_int) pa_nil)))) pss_nil) <|
      pss_cons (ps_set (i := 2) nd rfl (Or.inl rfl) (pe_op op_rep (pe_lst (pa_cons pe_int pa_nil)) (pe_callB call_len_seq (by rfl) B.len PySem.boot_len (pa_cons (pv 0) pa_nil)))) <|
      pss_cons (ps_for (passes_of rfl) rfl (pi_enum (by rfl) B.enum (pa_cons (pv 1) pa_nil)) (pg_tup rfl (pgs_cons (pg_name (i := 3) nd rfl (Or.inl rfl)) (pgs_cons (pg_name (i := 4) nd rfl (Or.inl rfl)) pgs_nil))) <|
        pss_cons (ps_if (PW.pt (pw_or (pt_not (pt_val (pe_call DWX (hr.mono (by decide)) (by rfl) DW.mg DW.kp DW.bd .nil pass0 (pa_cons (pv 4) (pa_cons (pe_callB call_len_seq (by rfl) B.len PySem.boot_len (pa_cons (pv 0) pa_nil)) pa_nil)))))
            (pw_or1 (pt_not (pt_val (pe_call DTX hr1 (by rfl) DT.mg DT.kp DT.bd .nil pass0 (pa_cons (pv 4) (pa_cons (pv 0) (pa_cons (pv 2) pa_nil))))))))) (pss_one (L2N.ps_raise rfl (L2N.takes_of rfl rfl rfl rfl) (pmk_oexN TE.T TE.iC TE.tI nwI (hr.mono (by decide)) bT (by rfl) TE.g (pa_cons (pv 3) pa_nil)))) pss_nil) <|
        pss_one <| ps_augS (pv 2) (pe_ix ix_tup (pv 4) pe_int (fun _ _ => rfl)) get_list pe_int ip_add set_list) <|
      pss_one <| ps_for (passes_of rfl) rfl (pi_zip (by rfl) B.zip (pa_cons (pv 0) (pa_cons (pv 2) pa_nil))) (pg_tup rfl (pgs_cons (pg_name (i := 5) nd rfl (Or.inl rfl)) (pgs_cons (pg_name (i := 6) nd rfl (Or.inl rfl)) pgs_nil))) <|
        pss_one <| ps_if (PW.pt (pw_and (pt_cmpR op_in_seq (pe_ix ix_tup (pv 5) pe_int (fun _ _ => rfl)) (pe_glob (v := .ref aF) (by rfl) C.mF rfl) (by rfl)) (pw_and1 (pt_cmpR op_eq (pv 6) pe_int (nomark _))))) (pss_one (L2N.ps_raise rfl (L2N.takes_of rfl rfl rfl rfl) (pmk_oexN TE.T TE.iC TE.tI nwI (hr.mono (by decide)) bT (by rfl) TE.g (pa_cons (pe_callB call_len_seq (by rfl) B.len PySem.boot_len (pa_cons (pv 1) pa_nil)) pa_nil)))) pss_nil, ?_⟩
    obtain ⟨gv, sg, ga⟩ := id RGs
    have hlg : gv.length = gs.length := ga.1
    obtain ⟨t, ty, _, _, _, k4⟩ := hd.ty
    refine ⟨_, rfl, _, _, _, _, dL d, rfl, .ty "list", ty, kit_ty k4, dL d, rfl, ?_⟩
    have bad : dL d = false → p = -1 := fun e => by
      cases d with
      | list ds => cases e
      | _ => exact (Option.some.inj hwf).symm
    cases hb : dL d with
    | false =>
      have hp := bad hb
      subst hp
      refine iteT ?_
      refine ⟨_, rfl, (by show 1 ≤ 1000; decide), fun a ha => ⟨a, _, rfl, upd_same, fun dx hdx ne => ⟨rfl, dx, _, upd_same, by rw [upd_ne ne, upd_same], ?_, ?_⟩⟩⟩
      · rw [upd_ne ne] at hdx
        exact hdx
      · rw [mk_heap ha ne]
        refine q dx _ (Same.refl H) ?_
        rw [upd_ne ne] at hdx
        exact hdx
    | true =>
    obtain ⟨ds, rfl⟩ : ∃ ds, d = .list ds := by
      cases d with
      | list ds => exact ⟨ds, rfl⟩
      | _ => cases hb
    cases hd with
    | @lst lw wv _ ew _ al =>
    have wa := al.all2
    have hlw : wv.length = ds.length := wa.1
    have hwf : wfL gs [] ds = some p := hwf
    obtain ⟨hdl, hsh⟩ := hsh ds rfl
    refine iteF ?_
    refine ⟨(by show 1 ≤ sizeLine; decide), fun l0 hl0 => ?_⟩
    refine ⟨_, rfl, lg, gv, rfl, .inl ((same_new hl0).seq sg), ?_⟩
    refine ⟨l0, _, _, rfl, rfl, upd_same, by omega, by omega, ?_, fun lc hlc => ?_⟩
    · show 1 * _ ≤ sizeLine
      have : 1 * ((gv.length : Int)).toNat ≤ 1000 := by omega
      exact Nat.le_of_lt (small1000 this)
    have sm0 : Same H (upd H l0 (.lst [.int 0])) := same_new hl0
    have hlc0 : H lc = none := sm0.free hlc
    have e0 : (List.replicate ((gv.length : Int)).toNat [V.int 0]).flatten = (cntL gs.length []).map fun i => V.int (i : Nat) := by
      rw [cntL_nil, List.map_replicate, ← hlg, Int.toNat_natCast]
      generalize gv.length = n
      induction n with
      | zero => rfl
      | succ n ih =>
        rw [List.replicate_succ, List.flatten_cons, ih, List.replicate_succ]
        rfl
    rw [e0]
    refine ⟨_, rfl, lw, wv, rfl, SqL.of ((sm0.trans (same_new hlc)) _ _ ew), for_it (walk_enum (K := K) (a := lw) (xs := wv)) (fun i σ H2 => ∃ (s3 s4 : Option V) (seen : List Wr), σ = [some (.ref lg), some (.ref lw), some (.ref lc), s3, s4, none, none] ∧ seen.length = i ∧ wfL gs seen (ds.drop i) = some p ∧
        H2 lc = some (.lst ((cntL gs.length seen).map fun i => V.int (i : Nat))) ∧ Same H H2)
      ⟨_, _, [], rfl, rfl, hwf, upd_same, sm0.trans (same_new hlc)⟩ (fun i σ H2 _ ⟨_, _, _, _, _, _, _, sm⟩ => SqL.of (sm _ _ ew)) ?_ ?_⟩
    · rintro i v σ H2 H2' hi ⟨s3, s4, seen, rfl, hsl, hf, hc, sm⟩ ⟨T, x1, y, rfl, hT, rfl, ex, ey⟩
      cases ex
      obtain ⟨d1, hd1, dx1⟩ := wa.get ey
      have hxi : i < ds.length := (List.getElem?_eq_some_iff.mp hd1).1
      have hdr : ds.drop i = d1 :: ds.drop (i + 1) := by
        obtain ⟨h1, h2⟩ := List.getElem?_eq_some_iff.mp hd1
        rw [← h2]
        exact List.drop_eq_getElem_cons h1
      rw [hdr] at hf
      unfold wfL at hf
      have smT : Same H2 (upd H2 T (.tup [.int (i : Nat), y])) := same_new hT
      have sm2 := sm.trans smT
      refine ⟨T, _, rfl, .inl (.inl upd_same), rfl, _, _, rfl, _, _, rfl, rfl, ?_⟩
      have raise : ((i : Nat) : Int) = p → ∀ {H3 : Hp}, Same H H3 → ∀ {a dx : Addr}, H3 a = none → dx ≠ a → H3 dx = none → E (.ref CW) (some dx) (upd H3 dx (.xd [(("place" : Str), .int (i : Nat))])) := fun e H3 s3 a dx _ _ hdx => by
        have := q dx H3 s3 hdx
        rw [← e] at this
        exact this
      refine ⟨_, rfl, _, rfl, lg, gv, rfl, .inl (sm2.seq sg), y, d1, gv.length, rfl, (dx1.same sm2), (fun es e => hsh d1 (List.mem_of_getElem? hd1) es e), fun H3 sm3 => ?_⟩
      have sm4 := sm2.trans sm3
      have hc3 := sm3 _ _ (smT _ _ hc)
      rw [hlg]
      refine ⟨isWireD gs.length d1, rfl, ?_⟩
      cases hw1 : isWireD gs.length d1 with
      | false =>
        rw [hw1, if_neg (by decide), hsl] at hf
        refine iteT ?_
        refine ⟨_, rfl, (by show 1 ≤ 1000; decide), fun a ha => ⟨a, _, rfl, upd_same, fun dx hdx ne => ⟨rfl, dx, _, upd_same, by rw [upd_ne ne, upd_same], ?_, ?_⟩⟩⟩
        · rw [upd_ne ne] at hdx
          exact hdx
        · rw [mk_heap ha ne]
          rw [upd_ne ne] at hdx
          exact raise (Option.some.inj hf) sm4 ha ne hdx
      | true =>
        rw [hw1, if_pos rfl] at hf
        refine iteF ?_
        obtain ⟨wx, x1, x2, x3⟩ := wire_of (dx1.same sm4) hw1
        refine ⟨_, rfl, _, rfl, _, rfl, y, asWr d1, lg, lc, gs, seen, rfl, wx, RGs.same sm4, SqL.of hc3, x1, x2, takenB gs seen (asWr d1), rfl, ?_⟩
        cases ht : takenB gs seen (asWr d1) with
        | false =>
          rw [ht, if_neg (by decide), hsl] at hf
          refine iteT ?_
          refine ⟨_, rfl, (by show 1 ≤ 1000; decide), fun a ha => ⟨a, _, rfl, upd_same, fun dx hdx ne => ⟨rfl, dx, _, upd_same, by rw [upd_ne ne, upd_same], ?_, ?_⟩⟩⟩
          · rw [upd_ne ne] at hdx
            exact hdx
          · rw [mk_heap ha ne]
            rw [upd_ne ne] at hdx
            exact raise (Option.some.inj hf) sm4 ha ne hdx
        | true =>
          rw [ht, if_pos rfl] at hf
          refine iteF ?_
          obtain ⟨a, b, rfl, sq1, sq2⟩ := wx
          have hlen : (asWr d1).2.1 < (cntL gs.length seen).length := by rw [cntL_len]; exact x2
          refine ⟨_, rfl, _, rfl, a, _, 1, _, rfl, rfl, sq1, atI_nat (j := 1) rfl, lc, _, (asWr d1).2.1, .int (cnt seen (asWr d1).2.1 : Nat), rfl, rfl, SqL.of hc3, by rw [List.getElem?_map, cntL_get x2]; rfl, _, _, rfl, rfl, lc, _, _, (asWr d1).2.1, rfl, rfl, hc3, Evl.ixN_nat (by rw [List.length_map]; exact hlen), ?_⟩
          refine ⟨_, _, seen ++ [asWr d1], rfl, by rw [List.length_append, hsl]; rfl, hf, ?_, same_mut sm4 hlc0⟩
          rw [upd_same, ← cntL_app x2, ← map_set']
          rfl
    · rintro σ H2 ⟨s3, s4, seen, rfl, hsl, hf, hc, sm⟩
      rw [hlw, List.drop_length] at hf
      unfold wfL at hf
      have hlk : lacksB gs seen = true := by
        cases hz : lacksB gs seen with
        | true => rfl
        | false =>
          rw [hz, if_neg (by decide)] at hf
          cases hf
      rw [hlk, if_pos rfl, hsl, hlw] at hf
      have hp : ((ds.length : Nat) : Int) = p := Option.some.inj hf
      obtain ⟨e0, he0, hk0, hc0⟩ : ∃ e, e < gs.length ∧ (kindAt gs e = "out" ∨ kindAt gs e = "first") ∧ cnt seen e = 0 := by
        unfold lacksB at hlk
        rw [List.any_eq_true] at hlk
        obtain ⟨e, h1, h2⟩ := hlk
        rw [Bool.and_eq_true, Bool.or_eq_true] at h2
        exact ⟨e, List.mem_range.mp h1, h2.1.imp of_decide_eq_true of_decide_eq_true, of_decide_eq_true h2.2⟩
      refine ⟨_, rfl, _, rfl, lg, lc, gv, _, rfl, sm.seq sg, SqL.of hc, RZ.for_zipL (K := K) (a := lg) (b := lc) (xs := gv) (by rw [List.length_map, cntL_len]; exact hlg) (fun i σ H3 => i ≤ e0 ∧ ∃ s5 s6 : Option V, σ = [some (.ref lg), some (.ref lw), some (.ref lc), s3, s4, s5, s6] ∧ Same H2 H3)
        ⟨Nat.zero_le _, _, _, rfl, Same.refl H2⟩ (fun i σ H3 ⟨_, _, _, _, sm3⟩ => ⟨(sm.trans sm3).seq sg, SqL.of (sm3 _ _ hc)⟩) ?_ ?_⟩
      · rintro i x y T σ H3 hx hy ⟨hie, s5, s6, rfl, sm3⟩ hT
        obtain ⟨g, hg, a, rfl, sq⟩ := ga.get hx
        have hgi : i < gs.length := (List.getElem?_eq_some_iff.mp hg).1
        rw [List.getElem?_map, cntL_get hgi] at hy
        cases hy
        have sm4 : Same H (upd H3 T (.tup [.ref a, .int (cnt seen i : Nat)])) := (sm.trans sm3).trans (same_new hT)
        have sm5 : Same H2 (upd H3 T (.tup [.ref a, .int (cnt seen i : Nat)])) := sm3.trans (same_new hT)
        refine ⟨T, _, rfl, .inl (.inl upd_same), rfl, _, _, rfl, _, _, rfl, rfl, ?_⟩
        generalize upd H3 T (.tup [.ref a, .int (cnt seen i : Nat)]) = H4 at sm4 sm5
        have next : (i = e0 → False) → i + 1 ≤ e0 := fun h => by
          by_cases z : i = e0
          · exact absurd z (fun z => h z)
          · omega
        refine ⟨_, rfl, a, _, 0, _, rfl, rfl, (TK.same sm4).seq sq, atI_nat (j := 0) rfl, aF, _, rfl, .inr (C.sF _), rfl, rfl, _, rfl, ite2 (fun e => ?_) (fun e => ?_)⟩
        · refine ⟨_, rfl, rfl, decide (cnt seen i = 0), ?_, ?_⟩
          · show V.bl (decide (V.int ((cnt seen i : Nat) : Int) = V.int 0)) = _
            rw [vint_eq]
            exact congrArg V.bl (decide_eq_decide.mpr (by omega))
          · cases hz : decide (cnt seen i = 0) with
            | true =>
              refine iteT ?_
              refine ⟨_, rfl, lw, wv, rfl, .inl (SqL.of (sm4 _ _ ew)), (by show 1 ≤ 1000; decide), fun a ha => ⟨a, _, rfl, upd_same, fun dx hdx ne => ⟨rfl, dx, _, upd_same, by rw [upd_ne ne, upd_same], ?_, ?_⟩⟩⟩
              · rw [upd_ne ne] at hdx
                exact hdx
              · rw [mk_heap ha ne]
                rw [upd_ne ne] at hdx
                have := q dx H4 sm4 hdx
                rw [← hp, ← hlw] at this
                exact this
            | false =>
              refine iteF ⟨next fun z => ?_, _, _, rfl, sm5⟩
              rw [z, hc0] at hz
              cases hz
        · refine ⟨next fun z => e ?_, _, _, rfl, sm5⟩
          have hk := kindAt_get hg
          rw [z] at hk
          rw [hk] at hk0
          show inV (V.str g.1) [V.str "out", V.str "first"] = true
          rcases hk0 with h | h <;> rw [h] <;> decide +kernel
      · rintro σ H3 ⟨hie, _⟩
        exfalso
        omega
theorem ok_initXN {f fG fW C CG CW : Addr} {fd fdG fdW : FuncData} (F : Fun K "__init__" "Net.__init__" sInit f fd) (DG : DChkGates P w K mg base fG fdG) (DGX : FnOk P w K mg base (L2N.CX P w) 4 fG fdG ["gates"] (spChkGatesX K CG)) (DW : DChkWires P w K mg base fW fdW) (DWX : FnOk P w K mg base (L2N.CX P w) 5 fW fdW ["gates", "wires"] (spChkWiresX K CW)) :
    FnOk P w K mg base (L2N.CX P w) 6 f fd ["self", "gates", "wires"] (spInitX K C CG CW) := by
  refine F.okXN scInit (fun vs H Q E h => ?_) (fun cdv A outer s H vs Q E hr h => ?_)
  · obtain ⟨p, vg, vw, G, W, rfl, _⟩ := h
    rfl
  · obtain ⟨p, vg, vw, G, W, rfl, dg, dw, hgl, hsh, h⟩ := h
    have nd := scInit.nd
    refine ⟨_, pss_cons (ps_expr (pe_callS (fn_or (fn_cx0 DG.ok) DGX) (hr.mono (by decide)) (by rfl) DG.mg DG.kp DG.bd (fun σ => L2N.passAt (L2N.takes_of rfl rfl rfl rfl) σ) (pa_cons (pv 1) pa_nil))) <|
      pss_cons (ps_expr (pe_callS DWX (hr.mono (by decide)) (by rfl) DW.mg DW.kp DW.bd (fun σ => L2N.passAt (L2N.takes_of rfl rfl rfl rfl) σ) (pa_cons (pv 1) (pa_cons (pv 2) pa_nil)))) <|
      pss_cons ps_never <| pss_cons ps_never <| pss_one ps_never, ?_⟩
    rcases h with ⟨bad, q⟩ | ⟨good, pl, hwf, q⟩
    · exact ⟨_, rfl, .inr ⟨vg, G, rfl, dg, bad, fun H' s => q H' s⟩⟩
    · cases G with
      | list gds =>
        cases dg with
        | @lst lg gv _ eg _ al =>
        have good : (!gds.isEmpty && gds.all isGateD) = true := good
        rw [Bool.and_eq_true] at good
        obtain ⟨g1, g2⟩ := good
        obtain ⟨ga, gok⟩ := gates_of al g2
        have RGs : RG K H lg (gds.map asGt) := ⟨gv, SqL.of eg, ga⟩
        refine ⟨_, rfl, .inl ⟨lg, gds.map asGt, rfl, RGs, ?_, gok, fun H1 s1 => ?_⟩⟩
        · intro z
          have : gds = [] := List.map_eq_nil_iff.mp z
          rw [this] at g1
          cases g1
        exact ⟨_, rfl, _, rfl, lg, vw, gds.map asGt, W, pl, rfl, RGs.same s1, hgl, dw.same s1, hsh, hwf, fun dx H' s hd => q dx H' (s1.trans s) hd⟩
      | _ => cases good
theorem ok_chkRingsXN {f fO fB CR fN : Addr} {fd fdO fdB fdN : FuncData} (F : Fun K "check_rings" "check_rings" sChkRings f fd) (B : Bt mg) (DO : DOrder P w K mg base fO fdO) (DB : DBareRing P w K mg base fB fdB)
    (TE : TEx K mg "NoRing" "ring" CR fN) (nrI : FnOk P w K mg base CX0 1 fN fdN ["self", "ring"] (spXI "ring" CR)) (bT : Binds K fdN ["self", "ring"] []) : FnOk P w K mg base (L2N.CX P w) 3 f fd ["many_gates", "wires"] (spChkRingsX K CR) := by
  refine F.okXN scChkRings (fun vs H Q E h => ?_) (fun cdv A outer s H vs Q E hr h => ?_)
  · obtain ⟨n, lw, ws, rfl, _⟩ := h
    rfl
  · obtain ⟨n, lw, ws, rfl, R, hws, hn, hwl, nr, q⟩ := h
    have nd := scChkRings.nd
    refine ⟨_, pss_cons (ps_set (i := 2) nd rfl (Or.inl rfl) (pe_call DO.ok hr (by rfl) DO.mg DO.kp DO.bd .nil pass0 (pa_cons (pv 0) (pa_cons (pv 1) pa_nil)))) <|
      pss_one <| ps_if (pt_cmpR op_lt (pe_callB call_len_seq (by rfl) B.len PySem.boot_len (pa_cons (pv 2) pa_nil)) (pv 0) (nomark _)) (pss_one (L2N.ps_raise rfl (L2N.takes_of rfl rfl rfl rfl) (pmk_oexN TE.T TE.iC TE.tI nrI (hr.mono (by decide)) bT (by rfl) TE.g (pa_cons (pe_call DB.ok hr (by rfl) DB.mg DB.kp DB.bd .nil pass0 (pa_cons (pv 2) (pa_cons (pv 1) pa_nil))) pa_nil)))) pss_nil, ?_⟩
    refine ⟨_, rfl, _, rfl, n, lw, ws, rfl, R, hws, hn, hwl, fun ord p H1 ho sm hp h1 => ?_⟩
    obtain ⟨hlt, hex⟩ := ho.lacks hws nr
    refine ⟨_, rfl, p, _, rfl, .inl (SqL.of h1), _, rfl, _, _, rfl, rfl, true, ?_, iteT ?_⟩
    · show V.bl (decide (((ord.map fun i => V.int (i : Nat)).length : Int) < (n : Int))) = V.bl true
      rw [decide_eq_true]
      rw [List.length_map]
      omega
    refine ⟨_, rfl, _, rfl, n, p, lw, ws, ord, rfl, h1, R.same sm, hws, hn, hwl, ho, hex, fun r l H2 ring s2 hl2 e2 => ?_⟩
    refine ⟨(by show 1 ≤ 1000; decide), fun a ha => ⟨a, _, rfl, upd_same, fun dx hdx ne => ⟨rfl, dx, _, upd_same, by rw [upd_ne ne, upd_same], ?_, ?_⟩⟩⟩
    · rw [upd_ne ne] at hdx
      exact hdx
    · rw [mk_heap ha ne]
      rw [upd_ne ne] at hdx
      exact q r l dx H2 ring (sm.trans s2) (sm.free hl2) e2 hdx
theorem ok_initRN {f fG fW fR CR : Addr} {fd fdG fdW fdR : FuncData} (F : Fun K "__init__" "Net.__init__" sInit f fd) (B : Bt mg) (DG : DChkGates P w K mg base fG fdG) (DW : DChkWires P w K mg base fW fdW) (DWW : FnOk P w K mg base CX0 5 fW fdW ["gates", "wires"] (spChkWiresW K)) (DR : DChkRings P w K mg base fR fdR) (DRX : FnOk P w K mg base (L2N.CX P w) 3 fR fdR ["many_gates", "wires"] (spChkRingsX K CR)) :
    FnOk P w K mg base (L2N.CX P w) 6 f fd ["self", "gates", "wires"] (spInitR K CR) := by
  refine F.okXN scInit (fun vs H Q E h => ?_) (fun cdv A outer s H vs Q E hr h => ?_)
  · obtain ⟨p, lg, lw, gs, ws, rfl, _⟩ := h
    rfl
  · obtain ⟨p, lg, lw, gs, ws, rfl, RGs, RWs, N, nr, q⟩ := h
    have nd := scInit.nd
    refine ⟨_, pss_cons (ps_expr (pe_call DG.ok (hr.mono (by decide)) (by rfl) DG.mg DG.kp DG.bd .nil pass0 (pa_cons (pv 1) pa_nil))) <|
      pss_cons (ps_expr (pe_call DWW (hr.mono (by decide)) (by rfl) DW.mg DW.kp DW.bd .nil pass0 (pa_cons (pv 1) (pa_cons (pv 2) pa_nil)))) <|
      pss_cons (ps_expr (pe_callS DRX (hr.mono (by decide)) (by rfl) DR.mg DR.kp DR.bd (fun σ => L2N.passAt (L2N.takes_of rfl rfl rfl rfl) σ) (pa_cons (pe_callB call_len_seq (by rfl) B.len PySem.boot_len (pa_cons (pv 1) pa_nil)) (pa_cons (pv 2) pa_nil)))) <|
      pss_cons ps_never <| pss_one ps_never, ?_⟩
    refine ⟨_, rfl, lg, gs, rfl, RGs, N.ne, N.gok, fun H1 sm1 => ?_⟩
    refine ⟨_, rfl, _, rfl, lg, lw, gs, ws, rfl, RGs.same sm1, RWs.same sm1, N, fun H2 sm2 => ?_⟩
    have s2 := sm1.trans sm2
    obtain ⟨gv, sg, ga⟩ := RGs.same s2
    have hlg : gv.length = gs.length := ga.1
    refine ⟨_, rfl, lg, gv, rfl, .inl sg, _, rfl, gv.length, lw, ws, rfl, RWs.same s2, fun x hx => ?_, by have := N.gl; omega, by have := N.wl; omega, nr, fun r l dx H3 ring sm3 hl e3 hdx => q r l dx H3 ring (s2.trans sm3) (s2.free hl) e3 hdx⟩
    rw [hlg]
    exact ⟨(N.wok x hx).s, (N.wok x hx).e⟩
end
end Lag

set_option maxRecDepth 100000
set_option maxHeartbeats 8000000
namespace Lag
open PySem PySem.Spec PyProof.Rows L2
theorem strv_at {us : List Str} {i : Nat} {v : V} (h : (strV us)[i]? = some v) : ∃ u, us[i]? = some u ∧ v = .str u := by
  rw [List.getElem?_map] at h
  cases e : us[i]? with
  | none => rw [e] at h; cases h
  | some z => rw [e] at h; cases h; exact ⟨z, rfl, rfl⟩
/-- words of a row, few and short -/
def WordsB (us : List Str) : Prop := us.length ≤ 900 ∧ ∀ u ∈ us, u.length ≤ 20000
def spReadGateX (K : PySem.W.Frag) (CT : Addr) : Sp := fun vs H Q E => ∃ (l : Addr) (us : List Str), vs = [.ref l] ∧ SqL K H l (strV us) ∧ WordsB us ∧
  (∀ k w, us = [k, w] → LW.FigOk w → ∀ a H', Same H H' → GateV K H' (.ref a) (k, LW.valW w) → Q (.ref a) H') ∧ ((¬ ∃ k w, us = [k, w] ∧ LW.FigOk w) → ∀ H', Same H H' → E (.ref CT) none H')
/-- a wire with numbers of any kind at its ends -/
abbrev Wi := Int × Int × List Int
def WireI (K : PySem.W.Frag) (H : Hp) (v : V) (x : Wi) : Prop := ∃ p q, v = .ref p ∧ SqT K H p [.int x.1, .int x.2.1, .ref q] ∧ SqT K H q (x.2.2.map V.int)
theorem WireI.tk {K : PySem.W.Frag} {H H' : Hp} {v : V} {x : Wi} (t : TK H H') (h : WireI K H v x) : WireI K H' v x := by
  obtain ⟨p, q, e, a, b⟩ := h
  exact ⟨p, q, e, t.seq a, t.seq b⟩
def spReadWireX (K : PySem.W.Frag) (CT : Addr) : Sp := fun vs H Q E => ∃ (l : Addr) (us : List Str), vs = [.ref l] ∧ SqL K H l (strV us) ∧ WordsB us ∧
  (∀ a b r, us = a :: b :: r → (∀ u ∈ us, LW.FigOk u) → ∀ p H', Same H H' → WireI K H' (.ref p) (LW.valW a, LW.valW b, r.map LW.valW) → Q (.ref p) H') ∧ ((¬ ∃ a b r, us = a :: b :: r ∧ ∀ u ∈ us, LW.FigOk u) → ∀ H', Same H H' → E (.ref CT) none H')
section
variable {P : Program} {w : World} {K : PySem.W.Frag} {mg : Str → Option Value} {base : Heap}
theorem ok_readGateX {f fN CT : Addr} {fd fdN : FuncData} (F : Fun K "read_gate" "read_gate" sReadGate f fd) (B : Bt mg) (NX : PEx K mg "NoText" CT)
    (gN : mg "read_number" = some (.ref fN)) (kN : PySem.W.keepIn K (.ref fN) = true) (bN : Binds K fdN ["word"] []) (DN : FnOk P w K mg base (L2.CX P w) 1 fN fdN ["word"] (spReadNumX CT)) : FnOk P w K mg base (L2.CX P w) 2 f fd ["words"] (spReadGateX K CT) := by
  refine F.okX scReadGate (fun vs H Q E h => ?_) (fun cdv A outer s H vs Q E hr h => ?_)
  · obtain ⟨l, us, rfl, _⟩ := h
    rfl
  · obtain ⟨l, us, rfl, sq, ⟨hl, hw⟩, q, qn⟩ := h
    refine ⟨_, pss_cons (ps_if (pt_cmpR op_ne (pe_callB call_len_seq (by rfl) B.len PySem.boot_len (pa_cons (pv 0) pa_nil)) pe_int (nomark _)) (pss_one (ps_raise rfl (takes_of rfl rfl rfl rfl) (pmk_own PySem.F.excBase_ValueError NX.q NX.g NX.k (raises_own NX.e NX.t) (by rfl)))) pss_nil) <|
      pss_one <| ps_ret (pe_tup (pa_cons (pe_ix ix_list (pv 0) pe_int (fun _ _ => rfl)) (pa_cons (pe_call (E := E) DN hr (by rfl) gN kN bN .nil (passes_call (W := fun cls d _ H' => E cls d H') (takes_of rfl rfl rfl rfl) fun _ _ _ _ h => h) (pa_cons (pe_ix ix_list (pv 0) pe_int (fun _ _ => rfl)) pa_nil)) pa_nil))), ?_⟩
    refine ⟨_, rfl, l, _, rfl, .inl sq, rfl, _, rfl, ?_⟩
    by_cases h2 : us.length = 2
    rotate_left
    · rw [decide_eq_false (fun z => h2 (by have := V.int.inj z; rw [List.length_map] at this; omega))]
      exact iteT (qn (fun ⟨k, w, e, _⟩ => h2 (by rw [e]; rfl)) H (Same.refl H))
    obtain ⟨k, w, rfl⟩ : ∃ k w, us = [k, w] := by
      match us, h2 with
      | [a, b], _ => exact ⟨a, b, rfl⟩
    refine iteF ?_
    refine ⟨_, rfl, l, _, _, _, rfl, rfl, sq, atI_nat (j := 0) rfl, _, rfl, l, _, _, _, rfl, rfl, sq, atI_nat (j := 1) rfl, w, rfl, hw w (by simp), fun fo => ?_, fun nf => ?_⟩
    · refine ⟨(by show 2 ≤ sizeLine; decide), fun a ha => ?_⟩
      exact q k w rfl fo a _ (same_new ha) ⟨a, rfl, .inl (.inl upd_same)⟩
    · refine qn (fun ⟨k', w', e, fo⟩ => nf ?_) H (Same.refl H)
      injection e with _ e
      injection e with e _
      rw [e]
      exact fo
theorem ok_readWireX {f fN CT : Addr} {fd fdN : FuncData} (F : Fun K "read_wire" "read_wire" sReadWire f fd) (B : Bt mg) (NX : PEx K mg "NoText" CT)
    (gN : mg "read_number" = some (.ref fN)) (kN : PySem.W.keepIn K (.ref fN) = true) (bN : Binds K fdN ["word"] []) (DN : FnOk P w K mg base (L2.CX P w) 1 fN fdN ["word"] (spReadNumX CT)) : FnOk P w K mg base (L2.CX P w) 2 f fd ["words"] (spReadWireX K CT) := by
  refine F.okX scReadWire (fun vs H Q E h => ?_) (fun cdv A outer s H vs Q E hr h => ?_)
  · obtain ⟨l, us, rfl, _⟩ := h
    rfl
  · obtain ⟨l, us, rfl, sq, ⟨hl, hw⟩, q, qn⟩ := h
    have nd := scReadWire.nd
    refine ⟨_, pss_cons (ps_if (pt_cmpR op_lt (pe_callB call_len_seq (by rfl) B.len PySem.boot_len (pa_cons (pv 0) pa_nil)) pe_int (nomark _)) (pss_one (ps_raise rfl (takes_of rfl rfl rfl rfl) (pmk_own PySem.F.excBase_ValueError NX.q NX.g NX.k (raises_own NX.e NX.t) (by rfl)))) pss_nil) <|
      pss_cons (L2X.ps_setLcX (i := 2) (own := [("word", 1)]) (g := gName 1) (tt := tYes) (te := fun EX => tCall (spReadNumX CT) [] EX (tCons (tVar 1) tNil)) (W := fun cls d _ H' => E cls d H') rfl rfl (takes_of rfl rfl rfl rfl) rfl nd rfl rfl (sw_true rfl rfl rfl (by decide +kernel)) (pi_list (pv 0)) (blkOk_by (N := nReadWire) (sc := defScope sReadWire) (own := [("word", 1)]) (by decide +kernel)) (fun _ _ _ _ _ => pg_name (i := 1) nd rfl (.inl rfl)) (fun _ _ _ _ _ => pts_nil) (fun EX _ _ _ _ _ => pe_call DN hr (by rfl) gN kN bN .nil L2X.pass_blk (pa_cons (pv 1) pa_nil))) <|
      pss_one <| ps_ret (pe_tup (pa_cons (pe_ix ix_list (pv 2) pe_int (fun _ _ => rfl)) (pa_cons (pe_ix ix_list (pv 2) pe_int (fun _ _ => rfl)) (pa_cons (pe_callTy call_tuple_of (by rfl) B.tuple (by decide +kernel) (pa_cons (pe_slice sl_list (pv 2) (po_some pe_int) po_none) pa_nil)) pa_nil)))), ?_⟩
    refine ⟨_, rfl, l, _, rfl, .inl sq, _, _, rfl, rfl, _, rfl, ite2 (fun e => ?_) (fun e => ?_)⟩
    · have e := of_decide_eq_true e
      rw [List.length_map] at e
      refine qn (fun ⟨a, b, r, e2, _⟩ => ?_) H (Same.refl H)
      rw [e2, List.length_cons, List.length_cons] at e
      omega
    obtain ⟨a, b, r, rfl⟩ : ∃ a b r, us = a :: b :: r := by
      have e : ¬ (((strV us).length : Int) < 2) := fun z => e (decide_eq_true z)
      rw [List.length_map] at e
      match us, e with
      | [], e => exact absurd (show ((0 : Nat) : Int) < 2 by decide) e
      | [_], e => exact absurd (show ((1 : Nat) : Int) < 2 by decide) e
      | a :: b :: r, _ => exact ⟨a, b, r, rfl⟩
    refine ⟨_, rfl, l, rfl, ⟨_, sq⟩, fun D hD => ?_⟩
    refine lc_list (K := K) (a := l) (xs := strV (a :: b :: r)) (fun i Hc => Hc D = some (.lst ((((a :: b :: r).take i).map LW.valW).map V.int)) ∧ Same H Hc ∧ ∀ u ∈ (a :: b :: r).take i, LW.FigOk u) ⟨upd_same, same_new hD, fun u h => by rw [List.take_zero] at h; cases h⟩ (fun i Hc _ ⟨_, sm, _⟩ => sm.seq sq) ?_ ?_
    · rintro i v Hc hv ⟨hc, sm, fo⟩
      obtain ⟨u, hu, rfl⟩ := strv_at hv
      have hum := List.mem_of_getElem? hu
      have hi : i < (a :: b :: r).length := (List.getElem?_eq_some_iff.mp hu).1
      refine ⟨rfl, tyes ?_⟩
      refine ⟨_, rfl, u, rfl, hw u hum, fun ok => ⟨_, hc, ?_, ?_, same_mut sm hD, fun y hy => ?_⟩, fun nf => qn (fun ⟨_, _, _, _, h⟩ => nf (h u hum)) Hc sm⟩
      · rw [List.length_map, List.length_map, List.length_take]
        exact small1000 (by omega)
      · rw [upd_same, List.take_add_one, hu, List.map_append, List.map_append]
        rfl
      · rw [List.take_add_one, hu] at hy
        rcases List.mem_append.mp hy with z | z
        · exact fo y z
        · rw [List.mem_singleton.mp (show y ∈ [u] from z)]
          exact ok
    rintro H1 ⟨hc, sm, fo⟩
    have hlen : (strV (a :: b :: r)).length = (a :: b :: r).length := List.length_map ..
    rw [hlen, List.take_length] at hc fo
    refine gn_norm (σ' := [some (.ref l), none, some (.ref D)]) rfl ?_
    refine ⟨_, rfl, D, _, _, _, rfl, rfl, SqL.of hc, atI_nat (j := 0) rfl, _, rfl, D, _, _, _, rfl, rfl, SqL.of hc, atI_nat (j := 1) rfl, _, rfl, _, rfl, D, _, rfl, SqL.of hc, fun l2 hl2 => ?_⟩
    have ec : cutV (((a :: b :: r).map LW.valW).map V.int) (some 2) none = (r.map LW.valW).map V.int := (cut_from (xs := ((a :: b :: r).map LW.valW).map V.int) 2).trans rfl
    rw [ec]
    have s2 : Same H1 (upd H1 l2 (.lst ((r.map LW.valW).map V.int))) := same_new hl2
    have e2 : (upd H1 l2 (.lst ((r.map LW.valW).map V.int))) l2 = some (.lst ((r.map LW.valW).map V.int)) := upd_same
    generalize upd H1 l2 (.lst ((r.map LW.valW).map V.int)) = H2 at s2 e2
    refine ⟨l2, _, rfl, .inl ⟨SqL.of e2, fun l3 hl3 => ?_⟩⟩
    have s3 : Same H2 (upd H2 l3 (.tup ((r.map LW.valW).map V.int))) := same_new hl3
    have e3 : (upd H2 l3 (.tup ((r.map LW.valW).map V.int))) l3 = some (.tup ((r.map LW.valW).map V.int)) := upd_same
    generalize upd H2 l3 (.tup ((r.map LW.valW).map V.int)) = H3 at s3 e3
    refine ⟨(by show 3 ≤ sizeLine; decide), fun p hp => ?_⟩
    have s4 := same_new (o := .tup [.int (LW.valW a), .int (LW.valW b), .ref l3]) hp
    exact q a b r rfl fo p _ (((sm.trans s2).trans s3).trans s4) ⟨p, l3, rfl, .inl (.inl upd_same), .inl (.inl (s4 _ _ e3))⟩
end
end Lag

set_option maxRecDepth 100000
set_option maxHeartbeats 8000000
namespace Lag
open PySem PySem.Spec PyProof.Rows L2
/-! ### read_net of a text that no net has -/
def gD (g : Gt) : PyData := .tuple [.str g.1, .int g.2]
def wD (x : Wi) : PyData := .tuple [.int x.1, .int x.2.1, .tuple (x.2.2.map PyData.int)]
theorem asGt_gD (g : Gt) : asGt (gD g) = g := rfl
theorem asGs_gD (gs : List Gt) : asGs (.list (gs.map gD)) = gs := by
  show (gs.map gD).map asGt = gs
  rw [List.map_map]
  conv => rhs; rw [← List.map_id gs]
  exact List.map_congr_left fun g _ => asGt_gD g
theorem dx_ints {K : PySem.W.Frag} {H : Hp} : ∀ l : List Int, DxAll K Any H (l.map V.int) (l.map PyData.int)
  | [] => .nil
  | i :: r => .cons (.int i) (dx_ints r)
theorem GateV.dx {K : PySem.W.Frag} {H : Hp} {v : V} {g : Gt} (h : GateV K H v g) : Dx K Any H v (gD g) := by
  obtain ⟨a, rfl, s⟩ := h
  exact .tup s (.cons (.str _) (.cons (.int _) .nil))
theorem WireI.dx {K : PySem.W.Frag} {H : Hp} {v : V} {x : Wi} (h : WireI K H v x) : Dx K Any H v (wD x) := by
  obtain ⟨p, q, rfl, s1, s2⟩ := h
  exact .tup s1 (.cons (.int _) (.cons (.int _) (.cons (.tup s2 (dx_ints _)) .nil)))
theorem dx_map {K : PySem.W.Frag} {H : Hp} {α : Type} {R : V → α → Prop} {f : α → PyData} (k : ∀ v x, R v x → Dx K Any H v (f x)) : ∀ {vs : List V} {xs : List α}, All2 R vs xs → DxAll K Any H vs (xs.map f)
  | [], [], _ => .nil
  | [], _ :: _, h => by have := h.1; simp at this
  | _ :: _, [], h => by have := h.1; simp at this
  | v :: vs, x :: xs, h => .cons (k v x h.head) (dx_map k h.tail)
theorem wires_of {K : PySem.W.Frag} {H : Hp} {n : Nat} : ∀ {vs : List V} {xs : List Wi}, All2 (WireI K H) vs xs → (∀ d ∈ xs.map wD, isWireD n d = true) → All2 (WireV K H) vs ((xs.map wD).map asWr)
  | [], [], _, _ => All2.nil
  | [], _ :: _, h, _ => by have := h.1; simp at this
  | _ :: _, [], h, _ => by have := h.1; simp at this
  | v :: vs, x :: xs, h, w => All2.cons (wire_of h.head.dx (w _ (List.mem_cons_self ..))).1 (wires_of h.tail fun d hd => w d (List.mem_cons_of_mem _ hd))
/-- gates and wires are refused, or all is well but perhaps the rings -/
theorem net_or (gs : List Gt) (xs : List Wi) (hg : gs.length ≤ 100) (hx : xs.length ≤ 900) (hr : ∀ x ∈ xs, x.2.2.length ≤ 100) :
    gatesOkD (.list (gs.map gD)) = false ∨ (gatesOkD (.list (gs.map gD)) = true ∧ ∃ p, wfD gs (.list (xs.map wD)) = some p) ∨
      (NetOkW gs ((xs.map wD).map asWr) ∧ ∀ d ∈ xs.map wD, isWireD gs.length d = true) := by
  cases hG : gatesOkD (.list (gs.map gD)) with
  | false => exact .inl rfl
  | true =>
    refine .inr ?_
    cases hW : wfD gs (.list (xs.map wD)) with
    | some p => exact .inl ⟨rfl, p, rfl⟩
    | none =>
      refine .inr ?_
      have hG : (!(gs.map gD).isEmpty && (gs.map gD).all isGateD) = true := hG
      rw [Bool.and_eq_true] at hG
      obtain ⟨g1, g2⟩ := hG
      have hW : wfL gs [] (xs.map wD) = none := hW
      obtain ⟨w1, w2, w3, w4⟩ := wfL_none hW
      rw [List.nil_append] at w2 w4
      have w4 := w4 (fun e _ => Nat.zero_le _)
      refine ⟨⟨?_, hg, by rw [List.length_map, List.length_map]; exact hx, fun g hgm => ?_, fun y hy => ?_, fun e he hk => ?_, fun e he hk => lacks_no w2 he (.inr hk)⟩, w1⟩
      · rintro rfl
        cases g1
      · obtain ⟨x, i, e, hx, i0, i1⟩ := isGate_inv (List.all_eq_true.mp g2 _ (List.mem_map_of_mem hgm))
        have e : PyData.tuple [.str g.1, .int g.2] = .tuple [.str x, .int i] := e
        injection e with e
        injection e with e1 e
        injection e with e2 _
        injection e1 with e1
        injection e2 with e2
        have : g = (x, i) := by rw [← e1, ← e2]
        rw [this]
        exact gok_of hx i0 i1
      · obtain ⟨d, hd, rfl⟩ := List.mem_map.mp hy
        obtain ⟨x, hx, rfl⟩ := List.mem_map.mp hd
        obtain ⟨k1, k2⟩ := w3 _ (List.mem_map_of_mem hd)
        obtain ⟨i, j, ws, e, i0, i1, j0, j1, hw⟩ := isWire_inv (w1 _ hd)
        have e : PyData.tuple [.int x.1, .int x.2.1, .tuple (x.2.2.map PyData.int)] = .tuple [.int i, .int j, .tuple ws] := e
        injection e with e
        injection e with e1 e
        injection e with e2 e
        injection e with e3 _
        injection e1 with e1
        injection e2 with e2
        injection e3 with e3
        have a1 : (asWr (wD x)).1 = x.1.toNat := rfl
        have a2 : (asWr (wD x)).2.1 = x.2.1.toNat := rfl
        have a3 : (asWr (wD x)).2.2 = (x.2.2.map PyData.int).map intOf := rfl
        refine ⟨by rw [a1, e1]; omega, by rw [a2, e2]; omega, k1, k2, ?_, by rw [a3, List.length_map, List.length_map]; exact hr x hx⟩
        intro y hy
        rw [a3] at hy
        obtain ⟨z, hz, rfl⟩ := List.mem_map.mp hy
        rw [e3] at hz
        obtain ⟨q, eq, q0, q1⟩ := from_int (List.all_eq_true.mp hw z hz)
        rw [eq]
        exact ⟨q0, q1⟩
      · have h1 := w4 e hk
        have h2 := lacks_no w2 he (.inl hk)
        omega
/-- a text that some net has -/
def GoodN (t : Str) : Prop := ∃ gs ws, NetOk gs ws ∧ netT gs ws = t
/-- a text of few rows, of few words each -/
structure TextB (t : Str) : Prop where
  len : t.length ≤ 20000
  rows : (Txt.split t "\n").length ≤ 90
  words : ∀ r ∈ Txt.split t "\n", (Txt.split r " ").length ≤ 50
theorem feed_free : (1 : Nat) ≤ ("\n" : Str).length := by decide +kernel
theorem piece_len {t y r : Str} (hy : 1 ≤ y.length) (h : r ∈ Txt.split t y) : r.length ≤ t.length := by
  have k := PyProof.Rows.split_weight t y hy
  have hp : 1 ≤ (Txt.split t y).length := List.length_pos_iff.mpr (List.ne_nil_of_mem h)
  have gen : ∀ L : List Str, r ∈ L → r.length ≤ (L.map (·.length)).sum := fun L => by
    induction L with
    | nil => exact fun z => nomatch z
    | cons a l ih =>
      intro z
      rw [List.map_cons, List.sum_cons]
      rcases List.mem_cons.mp z with e | e
      · rw [e]
        omega
      · have := ih e
        omega
  have := gen _ h
  omega
theorem TextB.word {t r u : Str} (T : TextB t) (hr : r ∈ Txt.split t "\n") (hu : u ∈ Txt.split r " ") : u.length ≤ 20000 := by
  have h1 := piece_len (y := " ") (by decide +kernel) hu
  have h2 := piece_len (y := "\n") (by decide +kernel) hr
  have := T.len
  omega
def spReadNetX (K : PySem.W.Frag) (CT : Addr) : Sp := fun vs H Q E => ∃ t : Str, vs = [.str t] ∧ TextB t ∧ ¬ GoodN t ∧ ∀ H', Same H H' → E (.ref CT) none H'
/-- the head of a row's words -/
theorem words_head (r : Str) : ∃ u us, Txt.split r " " = u :: us := by
  match q : Txt.split r " ", LW.words_ne r with
  | u :: us, _ => exact ⟨u, us, rfl⟩
theorem net_inE {K : PySem.W.Frag} {C : Addr} {H : Hp} {Q : VK} {E : XK} {lg lw : Addr} {gs : List Gt} {ws : List Wr} (R : RG K H lg gs) (R2 : RW K H lw ws) (N : NetOk gs ws)
    (q : ∀ p ng nw H', NetAt K C H' p ng nw gs ws → Same H H' → H p = none → H ng = none → H nw = none → Q (.ref p) H') (x dx : Addr) (hx : H x = none) (hdx : H dx = none) (ne : dx ≠ x) :
    spInit K C [.ref x, .ref lg, .ref lw] (upd (upd H dx (.own x)) x (.ins C dx [])) (fun v H' => v = .non ∧ Q (.ref x) H') E := net_in (Q := fun x H' => Q (.ref x) H') R R2 N q x dx hx hdx ne
theorem shortW_of (xs : List Wi) (h : xs.length ≤ 90) (h5 : ∀ x ∈ xs, x.2.2.length ≤ 50) : ShortW (.list (xs.map wD)) := by
  intro ds e
  injection e with e
  subst e
  refine ⟨by rw [List.length_map]; omega, fun d hd es e2 => ?_⟩
  obtain ⟨x, hx, rfl⟩ := List.mem_map.mp hd
  have e2 : PyData.tuple [.int x.1, .int x.2.1, .tuple (x.2.2.map PyData.int)] = .tuple es := e2
  injection e2 with e2
  subst e2
  refine ⟨by show 3 ≤ 1000; decide, fun fs hf => ?_⟩
  simp only [List.mem_cons, List.not_mem_nil, or_false] at hf
  rcases hf with hf | hf | hf
  · cases hf
  · cases hf
  · injection hf with hf
    rw [hf, List.length_map]
    exact Nat.le_trans (h5 x hx) (by decide)
/-- the classes of what Net refuses -/
structure Ref3 (K : PySem.W.Frag) (mg : Str → Option Value) (CG CW CR : Addr) : Prop where
  gG : mg "NoGates" = some (.ref CG)
  gW : mg "NoWires" = some (.ref CW)
  gR : mg "NoRing" = some (.ref CR)
  eG : PySem.W.exmAny K (.ref CG) [.ref CG, .ref CW, .ref CR] = some true
  eW : PySem.W.exmAny K (.ref CW) [.ref CG, .ref CW, .ref CR] = some true
  eR : PySem.W.exmAny K (.ref CR) [.ref CG, .ref CW, .ref CR] = some true
end Lag
namespace L2
open PySem PySem.Spec PyProof.Rows L2H
/-- X('m') as what is raised from None -/
theorem pmk_own5 {X : Cx} {C : Addr} {bmB : List Value} {B newId initId : String} {x m : Str} {j : Nat} {p p2 pos : Pos} (F : ExcBaseFacts B newId initId bmB) (q : PySem.W.excIn X.K C bmB newId = true)
    (gC : X.mg x = some (.ref C)) (kC : PySem.W.keepIn X.K (.ref C) = true) (r : Raises X (.ref C)) (hg : Gl X x) (hdb : (x == ("__debug__" : Str)) = false := by decide) :
    PMk5 X (.Call (.Name x p) [.Constant (.str m) j p2] [] pos) (fun _ H Q => Q (.ref C) none H) := by
  intro pins s σ H Q I h
  refine wpAny_Call_Name_kw (ld_glob I hg gC ?_ hdb)
  have ha : PA X [.Constant (.str m) j p2] (tCons (tC (.str m)) tNil) := pa_cons pe_str pa_nil
  refine PySem.W.callWith_K (h₀ := X.base) I.ok.mod.kin kC ?_
  refine thn (ha.run pos pins s σ H (fun vs H1 => vs = [V.str m] ∧ H = H1) I ⟨rfl, rfl⟩) fun us s1 hh => ?_
  obtain ⟨vs, H1, I1, r1, rfl, rfl⟩ := hh
  refine ⟨I1.kIn, ?_⟩
  obtain ⟨u, us', rfl⟩ : ∃ u us', us = u :: us' := by
    cases r1
    exact ⟨_, _, rfl⟩
  obtain rfl : us' = [] := by
    cases r1 with
    | cons _ rn =>
      cases rn
      rfl
  show wpAny _ _ (call (.ref C) [u]) _ _ _
  obtain ⟨bm, N, nm, qn, bs, hdct, sn, sub, ab, col, dd, k0, k1, k2, k3, k5, mN, hC, hN, hni, T⟩ := exc_obj I1.kIn q
  refine wpAny_call_exc_subT F T hC hN hni (fun h' e hm => ?_) (by show 1 ≤ sizeLine; rw [sizeLine_eq]; omega)
  exact mk_of5 I1 hm r h (I1.hok.gone hm.new)
end L2
namespace Lag
open PySem PySem.Spec PyProof.Rows L2
section
variable {P : Program} {w : World} {K : PySem.W.Frag} {mg : Str → Option Value} {base : Heap}
theorem ok_readNetX {f fT fG fW fN fI C CT CG CW CR : Addr} {fd fdT fdG fdW fdN fdI : FuncData} (F : Fun K "read_net" "read_net" sReadNet f fd) (B : Bt mg) (T : NT K mg C) (NX : PEx K mg "NoText" CT) (R : Ref3 K mg CG CW CR) (DT : DChkText P w K mg base fT fdT) (DG : DReadGate P w K mg base fG fdG) (DW : DReadWire P w K mg base fW fdW) (DN : DNetT P w K mg base C fN fdN)
    (DGX : FnOk P w K mg base (L2.CX P w) 2 fG fdG ["words"] (spReadGateX K CT)) (DWX : FnOk P w K mg base (L2.CX P w) 2 fW fdW ["words"] (spReadWireX K CT))
    (MK : Mk K C fI) (init : FnOk P w K mg base CX0 6 fI fdI ["self", "gates", "wires"] (spInit K C)) (IX : FnOk P w K mg base (L2N.CX P w) 6 fI fdI ["self", "gates", "wires"] (spInitX K C CG CW)) (IR : FnOk P w K mg base (L2N.CX P w) 6 fI fdI ["self", "gates", "wires"] (spInitR K CR)) (bI : Binds K fdI ["self", "gates", "wires"] []) :
    FnOk P w K mg base (L2.CX P w) 8 f fd ["text"] (spReadNetX K CT) := by
  refine F.okX scReadNet (fun vs H Q E h => ?_) (fun cdv A outer s H vs Q E hr h => ?_)
  · obtain ⟨t, rfl, _⟩ := h
    rfl
  · obtain ⟨t, rfl, TB, bad, q⟩ := h
    have nd := scReadNet.nd
    have hr2 : Room 2 _ := hr.mono (by decide)
    have hr1 : Room 1 _ := hr.mono (by decide)
    refine ⟨_, pss_cons (ps_expr (pe_call DT.ok hr1 (by rfl) DT.mg DT.kp DT.bd .nil pass0 (pa_cons (pv 0) pa_nil))) <|
      pss_cons (ps_setLc (i := 2) (own := [("row", 1)]) (g := gName 1) (tt := tYes) (te := tSplitB 1) rfl nd rfl rfl (sw_true rfl rfl rfl (by decide +kernel)) (pi_list (pe_split (pv 0) pe_str)) (blkOk_by (N := nReadNet) (sc := defScope sReadNet) (own := [("row", 1)]) (by decide +kernel)) (fun _ _ _ _ _ => pg_name (i := 1) nd rfl (.inl rfl)) (fun _ _ _ _ _ => pts_nil) (fun _ _ _ _ _ => pe_split (pv 1) pe_str)) <|
      pss_cons (L2X.ps_setLcX (i := 4) (own := [("words", 3)]) (g := gName 3) (tt := tTest (tOp rEq (tOp (rIxL K) (tVar 3) (tC (.int 0))) (tC (.str "gate")))) (te := fun EX => tCall (spReadGateX K CT) [] EX (tCons (tSl (rSlL K) (tVar 3) (tPart (tC (.int 1))) tNoPart) tNil)) (W := fun cls d _ H' => E cls d H') rfl rfl (takes_of rfl rfl rfl rfl) rfl nd rfl rfl (sw_true rfl rfl rfl (by decide +kernel)) (pi_list (pv 2)) (blkOk_by (N := nReadNet) (sc := defScope sReadNet) (own := [("words", 3)]) (by decide +kernel)) (fun _ _ _ _ _ => pg_name (i := 3) nd rfl (.inl rfl)) (fun _ _ _ _ _ => pts_one (pt_cmpR op_eq (pe_ix ix_list (pv 3) pe_int (fun _ _ => rfl)) pe_str (nomark _))) (fun EX _ _ _ _ _ => pe_call DGX hr2 (by rfl) DG.mg DG.kp DG.bd .nil L2X.pass_blk (pa_cons (pe_slice sl_list (pv 3) (po_some pe_int) po_none) pa_nil))) <|
      pss_cons (L2X.ps_setLcX (i := 5) (own := [("words", 3)]) (g := gName 3) (tt := tTest (tOp rEq (tOp (rIxL K) (tVar 3) (tC (.int 0))) (tC (.str "wire")))) (te := fun EX => tCall (spReadWireX K CT) [] EX (tCons (tSl (rSlL K) (tVar 3) (tPart (tC (.int 1))) tNoPart) tNil)) (W := fun cls d _ H' => E cls d H') rfl rfl (takes_of rfl rfl rfl rfl) rfl nd rfl rfl (sw_true rfl rfl rfl (by decide +kernel)) (pi_list (pv 2)) (blkOk_by (N := nReadNet) (sc := defScope sReadNet) (own := [("words", 3)]) (by decide +kernel)) (fun _ _ _ _ _ => pg_name (i := 3) nd rfl (.inl rfl)) (fun _ _ _ _ _ => pts_one (pt_cmpR op_eq (pe_ix ix_list (pv 3) pe_int (fun _ _ => rfl)) pe_str (nomark _))) (fun EX _ _ _ _ _ => pe_call DWX hr2 (by rfl) DW.mg DW.kp DW.bd .nil L2X.pass_blk (pa_cons (pe_slice sl_list (pv 3) (po_some pe_int) po_none) pa_nil))) <|
      pss_cons (ps_try_any3X (tb := fun W => tAsg (tMakeS C (fun vs H Q E => spInit K C vs H Q E ∨ (spInitX K C CG CW vs H Q E ∨ spInitR K CR vs H Q E)) (WE W) (tCons (tVar 4) (tCons (tVar 5) tNil))) (gName 6)) (ts := fun _ _ _ _ σ H => E (.ref CT) none H) (Wo := fun cls d _ H' => E cls d H') rfl rfl (fun hd => L2H.passesAt_of rfl hd) (takes_of rfl rfl rfl rfl)
        (fun W pn xe tk _ => pss_one (ps_set (i := 6) nd rfl (.inl rfl) (pe_makeS MK (fn_or (fn_cx0 init) (fn_or IX IR)) hr (by rfl) T.mg bI (fun σ => L2N.passAt tk σ) (pa_cons (pv 4) (pa_cons (pv 5) pa_nil)))))
        ⟨rfl, by decide, .inl R.gG⟩ ⟨rfl, by decide, .inl R.gW⟩ ⟨rfl, by decide, .inl R.gR⟩
        (fun a oe cls d pn hz hf tk hot => pss_one (L2H.ps_raiseHN hot tk (pmk_own5 PySem.F.excBase_ValueError NX.q NX.g NX.k (raises_own NX.e NX.t) (by rfl))))) <|
      pss_cons (ps_if (pt_cmpR op_ne (pe_call DN.ok hr2 (by rfl) DN.mg DN.kp DN.bd .nil pass0 (pa_cons (pv 6) pa_nil)) (pv 0) (nomark _)) (pss_one (ps_raise rfl (takes_of rfl rfl rfl rfl) (pmk_own PySem.F.excBase_ValueError NX.q NX.g NX.k (raises_own NX.e NX.t) (by rfl)))) pss_nil) <|
      pss_one <| ps_ret (pv 6), ?_⟩
    have hlen := TB.len
    refine ⟨_, rfl, _, rfl, ?_⟩
    -- rows
    refine ⟨_, rfl, ⟨_, rfl⟩, _, _, rfl, rfl, (by decide +kernel), size24 (by omega), fun l0 hl0 => ?_⟩
    have hrows := TB.rows
    have hwords := TB.words
    have hwl : ∀ r ∈ Txt.split t "\n", ∀ u ∈ Txt.split r " ", u.length ≤ 20000 := fun r hr u hu => TB.word hr hu
    have hrl : ∀ r ∈ Txt.split t "\n", r.length ≤ 20000 := fun r hr => Nat.le_trans (piece_len (by decide +kernel) hr) hlen
    have s0 : Same H (upd H l0 (.lst (strV (Txt.split t "\n")))) := same_new hl0
    have e0 : (upd H l0 (.lst (strV (Txt.split t "\n")))) l0 = some (.lst (strV (Txt.split t "\n"))) := upd_same
    obtain ⟨RS, hRS⟩ : ∃ RS, RS = Txt.split t "\n" := ⟨_, rfl⟩
    rw [← hRS] at hrows hwords hwl hrl s0 e0
    show _
    rw [← hRS]
    generalize upd H l0 (.lst (strV RS)) = H0 at s0 e0
    refine ⟨l0, rfl, ⟨_, SqL.of e0⟩, fun D hD => ?_⟩
    refine lc_list (K := K) (a := l0) (xs := strV RS) (fun i Hc => ∃ acc, Hc D = some (.lst acc) ∧ acc.length = i ∧ All2 (WordV D Hc) acc (RS.take i) ∧ Same H0 Hc) ⟨[], upd_same, rfl, All2.nil, same_new hD⟩ (fun i Hc _ ⟨_, _, _, _, sm⟩ => SqL.of (sm _ _ e0)) ?_ ?_
    · rintro i v Hc hv ⟨acc, hc, hal, aa, sm⟩
      obtain ⟨r, hr', rfl⟩ := strv_at hv
      have hi : i < RS.length := (List.getElem?_eq_some_iff.mp hr').1
      have htl := hrl r (List.mem_of_getElem? hr')
      refine ⟨rfl, tyes ?_⟩
      refine ⟨_, rfl, ⟨_, rfl⟩, _, _, rfl, rfl, (by decide +kernel), size24 (by omega), fun l1 hl1 => ?_⟩
      have s1 : Same Hc (upd Hc l1 (.lst (strV (Txt.split r " ")))) := same_new hl1
      have n1 : l1 ≠ D := fun z => by rw [z, hc] at hl1; cases hl1
      have w1 : WordV D (upd Hc l1 (.lst (strV (Txt.split r " ")))) (.ref l1) r := ⟨l1, rfl, n1, upd_same⟩
      refine ⟨acc, s1 _ _ hc, by rw [hal]; exact Nat.lt_of_lt_of_le hi (by show _ ≤ 2 ^ 24; omega), acc ++ [.ref l1], upd_same, by rw [List.length_append, hal]; rfl, ?_, same_mut (sm.trans s1) hD⟩
      rw [List.take_add_one, hr']
      exact (aa.imp fun _ _ z => (z.same s1).upd).snoc w1.upd
    rintro H1 ⟨rv, hrv, hrvl, ra, sm1⟩
    have hsl : (strV RS).length = RS.length := List.length_map ..
    rw [hsl, List.take_length] at ra
    rw [hsl] at hrvl
    have sH1 := s0.trans sm1
    refine gn_norm (σ' := [some (.str t), none, some (.ref D), none, none, none, none]) rfl ?_
    -- gates
    refine ⟨_, rfl, D, rfl, ⟨_, SqL.of hrv⟩, fun G hG => ?_⟩
    refine lc_list (K := K) (a := D) (xs := rv) (fun i Hc => ∃ (acc : List V) (gs : List Gt), Hc G = some (.lst acc) ∧ gs.length ≤ i ∧ All2 (GateV K Hc) acc gs ∧ Same H1 Hc) ⟨[], [], upd_same, Nat.zero_le _, All2.nil, same_new hG⟩ (fun i Hc _ ⟨_, _, _, _, _, sm⟩ => SqL.of (sm _ _ hrv)) ?_ ?_
    · rintro i v Hc hv ⟨acc, gs, hc, hal, aa, sm⟩
      obtain ⟨r, ht, a, rfl, _, ha⟩ := ra.get hv
      have hi : i < RS.length := (List.getElem?_eq_some_iff.mp ht).1
      have hrm := List.mem_of_getElem? ht
      obtain ⟨u, us, hus⟩ := words_head r
      have hw := hwords r hrm
      have hwl := hwl r hrm
      rw [hus] at ha hw hwl
      have hal' : acc.length = gs.length := aa.1
      refine ⟨rfl, ?_⟩
      refine ⟨_, rfl, a, _, 0, _, rfl, rfl, SqL.of (sm _ _ ha), atI_nat (j := 0) rfl, rfl, _, rfl, ite2 (fun _ => ?_) (fun _ => ?_)⟩
      · refine ⟨_, rfl, _, rfl, a, _, rfl, SqL.of (sm _ _ ha), fun l1 hl1 => ?_⟩
        have ec : cutV (strV (u :: us)) (some 1) none = strV us := cut1
        rw [ec]
        have s1 : Same Hc (upd Hc l1 (.lst (strV us))) := same_new hl1
        have e1 : (upd Hc l1 (.lst (strV us))) l1 = some (.lst (strV us)) := upd_same
        generalize upd Hc l1 (.lst (strV us)) = Hd at s1 e1
        have WB : WordsB us := ⟨by rw [List.length_cons] at hw; omega, fun y hy => Nat.le_trans (hwl y (List.mem_cons_of_mem _ hy)) (by decide)⟩
        refine ⟨l1, us, rfl, SqL.of e1, WB, fun k w _ _ b He s2 gv2 => ?_, fun _ He s2 => q He (((sH1.trans sm).trans s1).trans s2)⟩
        have hcE := s2 _ _ (s1 _ _ hc)
        have t' := TK.lst (o := .lst (acc ++ [.ref b])) hcE
        refine ⟨acc, hcE, Nat.lt_of_le_of_lt (show acc.length ≤ 90 by omega) (by decide), acc ++ [.ref b], gs ++ [(k, LW.valW w)], upd_same, by rw [List.length_append]; show _ + 1 ≤ _; omega, ?_, same_mut ((sm.trans s1).trans s2) hG⟩
        exact (aa.imp fun _ _ z => z.tk (((TK.same s1).trans (TK.same s2)).trans t')).snoc (gv2.tk t')
      · exact ⟨acc, gs, hc, by omega, aa, sm⟩
    rintro H2 ⟨gv, gs, hgv, hgl, ga, sm2⟩
    refine gn_norm (σ' := [some (.str t), none, some (.ref D), none, some (.ref G), none, none]) rfl ?_
    -- wires
    have hrv2 := sm2 _ _ hrv
    refine ⟨_, rfl, D, rfl, ⟨_, SqL.of hrv2⟩, fun L hL => ?_⟩
    refine lc_list (K := K) (a := D) (xs := rv) (fun i Hc => ∃ (acc : List V) (xs : List Wi), Hc L = some (.lst acc) ∧ xs.length ≤ i ∧ (∀ x ∈ xs, x.2.2.length ≤ 50) ∧ All2 (WireI K Hc) acc xs ∧ Same H2 Hc) ⟨[], [], upd_same, Nat.zero_le _, (fun x h => nomatch h), All2.nil, same_new hL⟩ (fun i Hc _ ⟨_, _, _, _, _, _, sm⟩ => SqL.of (sm _ _ hrv2)) ?_ ?_
    · rintro i v Hc hv ⟨acc, xs, hc, hal, hx50, aa, sm⟩
      obtain ⟨r, ht, a, rfl, _, ha⟩ := ra.get hv
      have hi : i < RS.length := (List.getElem?_eq_some_iff.mp ht).1
      have hrm := List.mem_of_getElem? ht
      obtain ⟨u, us, hus⟩ := words_head r
      have hw := hwords r hrm
      have hwl := hwl r hrm
      rw [hus] at ha hw hwl
      have hal' : acc.length = xs.length := aa.1
      have smA := sm2.trans sm
      refine ⟨rfl, ?_⟩
      refine ⟨_, rfl, a, _, 0, _, rfl, rfl, SqL.of (smA _ _ ha), atI_nat (j := 0) rfl, rfl, _, rfl, ite2 (fun _ => ?_) (fun _ => ?_)⟩
      · refine ⟨_, rfl, _, rfl, a, _, rfl, SqL.of (smA _ _ ha), fun l1 hl1 => ?_⟩
        have ec : cutV (strV (u :: us)) (some 1) none = strV us := cut1
        rw [ec]
        have s1 : Same Hc (upd Hc l1 (.lst (strV us))) := same_new hl1
        have e1 : (upd Hc l1 (.lst (strV us))) l1 = some (.lst (strV us)) := upd_same
        generalize upd Hc l1 (.lst (strV us)) = Hd at s1 e1
        have WB : WordsB us := ⟨by rw [List.length_cons] at hw; omega, fun y hy => Nat.le_trans (hwl y (List.mem_cons_of_mem _ hy)) (by decide)⟩
        refine ⟨l1, us, rfl, SqL.of e1, WB, fun x y z exy _ b He s2 wv2 => ?_, fun _ He s2 => q He (((sH1.trans smA).trans s1).trans s2)⟩
        have hcE := s2 _ _ (s1 _ _ hc)
        have t' := TK.lst (o := .lst (acc ++ [.ref b])) hcE
        have hz : z.length ≤ 50 := by
          rw [exy, List.length_cons, List.length_cons, List.length_cons] at hw
          omega
        refine ⟨acc, hcE, Nat.lt_of_le_of_lt (show acc.length ≤ 90 by omega) (by decide), acc ++ [.ref b], xs ++ [(LW.valW x, LW.valW y, z.map LW.valW)], upd_same, by rw [List.length_append]; show _ + 1 ≤ _; omega, fun o ho => ?_, ?_, same_mut ((sm.trans s1).trans s2) hL⟩
        · rcases List.mem_append.mp ho with h | h
          · exact hx50 o h
          · rw [List.mem_singleton.mp h]
            show (z.map LW.valW).length ≤ 50
            rw [List.length_map]
            exact hz
        · exact (aa.imp fun _ _ z => z.tk (((TK.same s1).trans (TK.same s2)).trans t')).snoc (wv2.tk t')
      · exact ⟨acc, xs, hc, by omega, hx50, aa, sm⟩
    rintro H3 ⟨wv, xs, hwv, hxl, hx50, wa, sm3⟩
    refine gn_norm (σ' := [some (.str t), none, some (.ref D), none, some (.ref G), some (.ref L), none]) rfl ?_
    have hgl90 : gs.length ≤ 90 := by omega
    have hxl90 : xs.length ≤ 90 := by omega
    have sH3 := (sH1.trans sm2).trans sm3
    have ga3 : All2 (GateV K H3) gv gs := ga.imp fun _ _ z => z.tk (TK.same sm3)
    have hgv3 := sm3 _ _ hgv
    -- net
    refine ⟨_, rfl, _, rfl, fun x dx hx hdx nx => ?_⟩
    have S1 : Same H3 (upd (upd H3 dx (.own x)) x (.ins C dx [])) := (same_new hdx).trans (same_new (by rw [upd_ne nx.symm]; exact hx))
    have e1 : (upd (upd H3 dx (.own x)) x (.ins C dx [])) x = some (.ins C dx []) := upd_same
    rcases net_or gs xs (by omega) (by omega) (fun y hy => Nat.le_trans (hx50 y hy) (by decide)) with hG | ⟨hG, p, hW⟩ | ⟨N, hisw⟩
    · generalize upd (upd H3 dx (.own x)) x (.ins C dx []) = H4 at S1 e1
      refine .inr (.inl ⟨x, .ref G, .ref L, .list (gs.map gD), .list (xs.map wD), rfl, .lst (S1 _ _ hgv3) trivial (dx_map (fun _ _ z => z.dx) (ga3.imp fun _ _ z => z.tk (TK.same S1))), .lst (S1 _ _ hwv) trivial (dx_map (fun _ _ z => z.dx) (wa.imp fun _ _ z => z.tk (TK.same S1))), by rw [asGs_gD]; omega, shortW_of xs hxl90 hx50, .inl ⟨hG, fun H' s => ?_⟩⟩)
      exact ⟨R.eG, fun _ _ => q H' ((sH3.trans S1).trans s)⟩
    · generalize upd (upd H3 dx (.own x)) x (.ins C dx []) = H4 at S1 e1
      refine .inr (.inl ⟨x, .ref G, .ref L, .list (gs.map gD), .list (xs.map wD), rfl, .lst (S1 _ _ hgv3) trivial (dx_map (fun _ _ z => z.dx) (ga3.imp fun _ _ z => z.tk (TK.same S1))), .lst (S1 _ _ hwv) trivial (dx_map (fun _ _ z => z.dx) (wa.imp fun _ _ z => z.tk (TK.same S1))), by rw [asGs_gD]; omega, shortW_of xs hxl90 hx50, .inr ⟨hG, p, by rw [asGs_gD]; exact hW, fun dz H' s hdz => ?_⟩⟩)
      exact ⟨R.eW, fun _ _ => q _ (((sH3.trans S1).trans s).trans (same_new hdz))⟩
    · have wa3 := wires_of wa hisw
      by_cases rk : Ranked ((xs.map wD).map asWr)
      · have NO := N.net rk
        have LGa : LG K H3 G gs := ⟨gv, hgv3, ga3⟩
        have LWa : LW K H3 L ((xs.map wD).map asWr) := ⟨wv, hwv, wa3⟩
        refine .inl (net_inE (Q := fun v H1 => gName 6 v _ H1 _) LGa.rg LWa.rw NO (fun p ng nw H4 NA4 s4 hp hng hnw => ?_) x dx hx hdx nx)
        refine gn_norm (σ' := [some (.str t), none, some (.ref D), none, some (.ref G), some (.ref L), some (.ref p)]) rfl ?_
        refine ⟨_, rfl, p, ng, nw, gs, _, rfl, NA4, NO, fun H5 s5 => ?_⟩
        refine ⟨_, rfl, rfl, _, rfl, ?_⟩
        rw [decide_eq_false (fun z => bad ⟨gs, _, NO, V.str.inj z⟩)]
        exact iteT (q _ ((sH3.trans s4).trans s5))
      · generalize upd (upd H3 dx (.own x)) x (.ins C dx []) = H4 at S1 e1
        refine .inr (.inr ⟨x, G, L, gs, _, rfl, ⟨gv, SqL.of (S1 _ _ hgv3), ga3.imp fun _ _ z => z.tk (TK.same S1)⟩, ⟨wv, SqL.of (S1 _ _ hwv), wa3.imp fun _ _ z => z.tk (TK.same S1)⟩, N, rk, fun r lr dz H' _ s _ _ hdz => ?_⟩)
        exact ⟨R.eR, fun _ _ => q _ (((sH3.trans S1).trans s).trans (same_new hdz))⟩
end
end Lag

set_option maxRecDepth 100000
set_option maxHeartbeats 8000000
namespace LW
open PySem
theorem mem_cut {w : Str} {lo hi : Option Int} {c : Nat} (h : c ∈ ws (L2.cutS w lo hi)) : c ∈ ws w := by
  unfold L2.cutS at h
  have h : c ∈ ((((ws w).drop (HT.sIx w.length 0 lo)).take _).toArray).toList := h
  rw [List.toList_toArray] at h
  exact List.mem_of_mem_drop (List.mem_of_mem_take h)
theorem ws_app (a b : Str) : ws (a ++ b) = ws a ++ ws b := TL.tl_append a b
theorem len_app (a b : Str) : (a ++ b).length = a.length + b.length := by
  rw [← ws_len, ws_app, List.length_append, ws_len, ws_len]
/-- a text of signs below 128 -/
def Asc (t : Str) : Prop := ∀ c ∈ ws t, c < 128
theorem Asc.cut {t : Str} (h : Asc t) (lo hi : Option Int) : Asc (L2.cutS t lo hi) := fun c hc => h c (mem_cut hc)
theorem Asc.app {a b : Str} (h : Asc a) (k : Asc b) : Asc (a ++ b) := fun c hc => by
  rw [ws_app] at hc
  rcases List.mem_append.mp hc with z | z
  · exact h c z
  · exact k c z
/-- the signs of the law -/
theorem sign_at : ∀ c, c < 128 → ((!(!(Builtin.Str.occurrences ("0123456789" : Str) ⟨#[c]⟩ 0 ("0123456789" : Str).length 1).isEmpty)) = true ↔ ¬ (48 ≤ c ∧ c ≤ 57)) ∧ PyData.strOk ⟨#[c]⟩ = true := by decide +kernel
theorem mem_piece {t y p : Str} (h : p ∈ Txt.split t y) {c : Nat} (hc : c ∈ ws p) : c ∈ ws t := by
  have e : Txt.join y (Txt.split t y) = t := by
    rw [TL.join_eq]
    exact StrLaws.join_split t y
  rw [← e, TL.join_eq]
  exact (PyProof.Rows.mem_join _ _ _).mpr (.inl ⟨p, h, hc⟩)
theorem Asc.piece {t y p : Str} (h : Asc t) (hp : p ∈ Txt.split t y) : Asc p := fun c hc => h c (mem_piece hp hc)
theorem Asc.join {y : Str} {l : List Str} (hy : Asc y) (h : ∀ p ∈ l, Asc p) : Asc (Txt.join y l) := fun c hc => by
  rw [TL.join_eq] at hc
  rcases (PyProof.Rows.mem_join _ _ _).mp hc with ⟨p, hp, k⟩ | ⟨_, k⟩
  · exact h p hp c k
  · exact hy c k
theorem Asc.ok {t : Str} (h : Asc t) : PyData.strOk t = true := by
  unfold PyData.strOk
  rw [← Array.all_toList, List.all_eq_true]
  intro c hc
  exact decide_eq_true (Nat.lt_trans (h c hc) (by decide))
end LW
namespace Lag
open PySem PySem.Spec PyProof.Rows L2
/-- what is no text -/
def NoStr (K : PySem.W.Frag) (H : Hp) (v : V) : Prop := ∃ t : String, TyX K H v (.type t) ∧ kitB t "str" = some false
def spChkTextN (K : PySem.W.Frag) (CT : Addr) : Sp := fun vs H _ E => ∃ v : V, vs = [v] ∧ NoStr K H v ∧ E (.ref CT) none H
def spReadNetN (K : PySem.W.Frag) (CT : Addr) : Sp := fun vs H _ E => ∃ v : V, vs = [v] ∧ NoStr K H v ∧ E (.ref CT) none H
section
variable {P : Program} {w : World} {K : PySem.W.Frag} {mg : Str → Option Value} {base : Heap}
theorem ok_chkTextN {f CT : Addr} {fd : FuncData} (F : Fun K "check_text" "check_text" sChkText f fd) (B : Bt mg) (NX : PEx K mg "NoText" CT) : FnOk P w K mg base (L2.CX P w) 1 f fd ["text"] (spChkTextN K CT) := by
  refine F.okX scChkText (fun vs H Q E h => ?_) (fun cdv A outer s H vs Q E hr h => ?_)
  · obtain ⟨v, rfl, _⟩ := h
    rfl
  · obtain ⟨v, rfl, ⟨t, ty, hk⟩, qn⟩ := h
    refine ⟨_, pss_one (ps_if (pt_not (pt_val (pe_callB call_isi (by rfl) B.isi (by decide +kernel) (pa_cons (pv 0) (pa_cons (pe_bltn (v := .ty "str") (by rfl) B.str (by decide +kernel) rfl) pa_nil))))) (pss_one (ps_raise rfl (takes_of rfl rfl rfl rfl) (pmk_own PySem.F.excBase_ValueError NX.q NX.g NX.k (raises_own NX.e NX.t) (by rfl)))) pss_nil), ?_⟩
    exact ⟨_, rfl, _, _, _, _, false, rfl, .ty "str", ty, kit_ty hk, false, rfl, iteT qn⟩
theorem ok_readNetN {f fT fG fW fN fI C CT CG CW CR : Addr} {fd fdT fdG fdW fdN fdI : FuncData} (F : Fun K "read_net" "read_net" sReadNet f fd) (B : Bt mg) (T : NT K mg C) (NX : PEx K mg "NoText" CT) (R : Ref3 K mg CG CW CR) (DT : DChkText P w K mg base fT fdT) (DTN : FnOk P w K mg base (L2.CX P w) 1 fT fdT ["text"] (spChkTextN K CT)) (DG : DReadGate P w K mg base fG fdG) (DW : DReadWire P w K mg base fW fdW) (DN : DNetT P w K mg base C fN fdN)
    (DGX : FnOk P w K mg base (L2.CX P w) 2 fG fdG ["words"] (spReadGateX K CT)) (DWX : FnOk P w K mg base (L2.CX P w) 2 fW fdW ["words"] (spReadWireX K CT))
    (MK : Mk K C fI) (init : FnOk P w K mg base CX0 6 fI fdI ["self", "gates", "wires"] (spInit K C)) (IX : FnOk P w K mg base (L2N.CX P w) 6 fI fdI ["self", "gates", "wires"] (spInitX K C CG CW)) (IR : FnOk P w K mg base (L2N.CX P w) 6 fI fdI ["self", "gates", "wires"] (spInitR K CR)) (bI : Binds K fdI ["self", "gates", "wires"] []) :
    FnOk P w K mg base (L2.CX P w) 8 f fd ["text"] (spReadNetN K CT) := by
  refine F.okX scReadNet (fun vs H Q E h => ?_) (fun cdv A outer s H vs Q E hr h => ?_)
  · obtain ⟨v, rfl, _⟩ := h
    rfl
  · obtain ⟨v, rfl, hv, q⟩ := h
    have nd := scReadNet.nd
    have hr2 : Room 2 _ := hr.mono (by decide)
    have hr1 : Room 1 _ := hr.mono (by decide)
    refine ⟨_, pss_cons (ps_expr (pe_call (E := E) DTN hr1 (by rfl) DT.mg DT.kp DT.bd .nil (passes_call (W := fun cls d _ H' => E cls d H') (takes_of rfl rfl rfl rfl) fun _ _ _ _ h => h) (pa_cons (pv 0) pa_nil))) <|
      pss_cons (ps_setLc (i := 2) (own := [("row", 1)]) (g := gName 1) (tt := tYes) (te := tSplitB 1) rfl nd rfl rfl (sw_true rfl rfl rfl (by decide +kernel)) (pi_list (pe_split (pv 0) pe_str)) (blkOk_by (N := nReadNet) (sc := defScope sReadNet) (own := [("row", 1)]) (by decide +kernel)) (fun _ _ _ _ _ => pg_name (i := 1) nd rfl (.inl rfl)) (fun _ _ _ _ _ => pts_nil) (fun _ _ _ _ _ => pe_split (pv 1) pe_str)) <|
      pss_cons (L2X.ps_setLcX (i := 4) (own := [("words", 3)]) (g := gName 3) (tt := tTest (tOp rEq (tOp (rIxL K) (tVar 3) (tC (.int 0))) (tC (.str "gate")))) (te := fun EX => tCall (spReadGateX K CT) [] EX (tCons (tSl (rSlL K) (tVar 3) (tPart (tC (.int 1))) tNoPart) tNil)) (W := fun cls d _ H' => E cls d H') rfl rfl (takes_of rfl rfl rfl rfl) rfl nd rfl rfl (sw_true rfl rfl rfl (by decide +kernel)) (pi_list (pv 2)) (blkOk_by (N := nReadNet) (sc := defScope sReadNet) (own := [("words", 3)]) (by decide +kernel)) (fun _ _ _ _ _ => pg_name (i := 3) nd rfl (.inl rfl)) (fun _ _ _ _ _ => pts_one (pt_cmpR op_eq (pe_ix ix_list (pv 3) pe_int (fun _ _ => rfl)) pe_str (nomark _))) (fun EX _ _ _ _ _ => pe_call DGX hr2 (by rfl) DG.mg DG.kp DG.bd .nil L2X.pass_blk (pa_cons (pe_slice sl_list (pv 3) (po_some pe_int) po_none) pa_nil))) <|
      pss_cons (L2X.ps_setLcX (i := 5) (own := [("words", 3)]) (g := gName 3) (tt := tTest (tOp rEq (tOp (rIxL K) (tVar 3) (tC (.int 0))) (tC (.str "wire")))) (te := fun EX => tCall (spReadWireX K CT) [] EX (tCons (tSl (rSlL K) (tVar 3) (tPart (tC (.int 1))) tNoPart) tNil)) (W := fun cls d _ H' => E cls d H') rfl rfl (takes_of rfl rfl rfl rfl) rfl nd rfl rfl (sw_true rfl rfl rfl (by decide +kernel)) (pi_list (pv 2)) (blkOk_by (N := nReadNet) (sc := defScope sReadNet) (own := [("words", 3)]) (by decide +kernel)) (fun _ _ _ _ _ => pg_name (i := 3) nd rfl (.inl rfl)) (fun _ _ _ _ _ => pts_one (pt_cmpR op_eq (pe_ix ix_list (pv 3) pe_int (fun _ _ => rfl)) pe_str (nomark _))) (fun EX _ _ _ _ _ => pe_call DWX hr2 (by rfl) DW.mg DW.kp DW.bd .nil L2X.pass_blk (pa_cons (pe_slice sl_list (pv 3) (po_some pe_int) po_none) pa_nil))) <|
      pss_cons (ps_try_any3X (tb := fun W => tAsg (tMakeS C (fun vs H Q E => spInit K C vs H Q E ∨ (spInitX K C CG CW vs H Q E ∨ spInitR K CR vs H Q E)) (WE W) (tCons (tVar 4) (tCons (tVar 5) tNil))) (gName 6)) (ts := fun _ _ _ _ σ H => E (.ref CT) none H) (Wo := fun cls d _ H' => E cls d H') rfl rfl (fun hd => L2H.passesAt_of rfl hd) (takes_of rfl rfl rfl rfl)
        (fun W pn xe tk _ => pss_one (ps_set (i := 6) nd rfl (.inl rfl) (pe_makeS MK (fn_or (fn_cx0 init) (fn_or IX IR)) hr (by rfl) T.mg bI (fun σ => L2N.passAt tk σ) (pa_cons (pv 4) (pa_cons (pv 5) pa_nil)))))
        ⟨rfl, by decide, .inl R.gG⟩ ⟨rfl, by decide, .inl R.gW⟩ ⟨rfl, by decide, .inl R.gR⟩
        (fun a oe cls d pn hz hf tk hot => pss_one (L2H.ps_raiseHN hot tk (pmk_own5 PySem.F.excBase_ValueError NX.q NX.g NX.k (raises_own NX.e NX.t) (by rfl))))) <|
      pss_cons (ps_if (pt_cmpR op_ne (pe_call DN.ok hr2 (by rfl) DN.mg DN.kp DN.bd .nil pass0 (pa_cons (pv 6) pa_nil)) (pv 0) (nomark _)) (pss_one (ps_raise rfl (takes_of rfl rfl rfl rfl) (pmk_own PySem.F.excBase_ValueError NX.q NX.g NX.k (raises_own NX.e NX.t) (by rfl)))) pss_nil) <|
      pss_one <| ps_ret (pv 6), ?_⟩
    exact ⟨_, rfl, v, rfl, hv, q⟩
end
/-! ### _law_read -/
abbrev sLRead : Stmt := topS 53 -- @_law_read
theorem pss_when {X : Cx} {ss : List Stmt} {p : Prop} {t : TS} (h : p → PSs X ss t) : PSs X ss (fun D σ H => p ∧ (σ.length = X.N.length → t D σ H)) := ⟨fun pins s σ H D I hh => (h hh.1).run pins s σ H D I (hh.2 I.len)⟩
theorem vals_refs : ∀ (l : List Addr) (us : List Value), Vals (l.map V.ref) us → us = l.map Value.ref
  | [], us, r => by
    cases r
    rfl
  | a :: l, us, r => by
    cases r with
    | cons r1 r2 =>
      cases r1
      rw [vals_refs l _ r2]
      rfl
def rInt1 : List V → Hp → VK → Prop := fun xs H Q => (∃ i, xs = [.int i] ∧ Q (.int i) H) ∨ ∃ k, xs = [.bl k] ∧ Q (.int (if k then 1 else 0)) H
/-- the classes that the law asks for -/
structure RdC (K : PySem.W.Frag) (mg : Str → Option Value) (C0 CT CG CW CR : Addr) : Prop where
  g0 : mg "LagError" = some (.ref C0)
  gT : mg "NoText" = some (.ref CT)
  gG : mg "NoGates" = some (.ref CG)
  gW : mg "NoWires" = some (.ref CW)
  gR : mg "NoRing" = some (.ref CR)
  mI : mg "isinstance" = none
  mV : mg "ValueError" = none
  eT : PySem.W.exmOne K (.ref CT) (.ref CT) = some true
  kTV : PySem.W.kitOne K (.ref CT) (.type "ValueError") = some true
  kT3 : PySem.W.kitAny K (.ref CT) [.ref CG, .ref CW, .ref CR] = some false
  xT : ExcC K CT
def spReadAny (K : PySem.W.Frag) (C CT : Addr) : Sp := fun vs H Q E => spReadNet K C vs H Q E ∨ (spReadNetX K CT vs H Q E ∨ spReadNetN K CT vs H Q E)
theorem fn_any {P : Program} {w : World} {K : PySem.W.Frag} {mg : Str → Option Value} {base : Heap} {f C CT : Addr} {fd : FuncData} (F1 : FnOk P w K mg base CX0 8 f fd ["text"] (spReadNet K C)) (F2 : FnOk P w K mg base (L2.CX P w) 8 f fd ["text"] (spReadNetX K CT)) (F3 : FnOk P w K mg base (L2.CX P w) 8 f fd ["text"] (spReadNetN K CT)) : FnOk P w K mg base (L2.CX P w) 8 f fd ["text"] (spReadAny K C CT) := fn_or (fn_cx0 F1) (fn_or F2 F3)
/-- what _law_read tells: a net, or a word -/
def spLRead (K : PySem.W.Frag) (C : Addr) : Sp := fun vs H Q _ => ∃ v : V, vs = [v] ∧ ((∃ (gs : List Gt) (ws : List Wr), v = .str (netT gs ws) ∧ NetOk gs ws ∧ ∀ p ng nw H', Same H H' → NetAt K C H' p ng nw gs ws → H p = none → Q (.ref p) H') ∨
  (((∃ t : Str, v = .str t ∧ TextB t ∧ ¬ GoodN t) ∨ NoStr K H v) ∧ ∀ H', Same H H' → Q (.str "no text") H'))
abbrev nLRead : List Str := ["_law_text_here", "e"]
theorem scLRead : FnScope nLRead ["_law_text_here"] (defScope sLRead) := ⟨rfl, rfl, rfl, by decide +kernel, rfl, by decide +kernel, by decide +kernel⟩
section
variable {P : Program} {w : World} {K : PySem.W.Frag} {mg : Str → Option Value} {base : Heap}
theorem ok_lread {f fR C C0 CT CG CW CR : Addr} {fd fdR : FuncData} (F : Fun K "_law_read" "_law_read" sLRead f fd) (B : Bt mg) (R : RdC K mg C0 CT CG CW CR) (gR : mg "read_net" = some (.ref fR)) (kR : PySem.W.keepIn K (.ref fR) = true) (bR : Binds K fdR ["text"] []) (DR : FnOk P w K mg base (L2.CX P w) 8 fR fdR ["text"] (spReadAny K C CT)) : FnOk P w K mg base CX0 9 f fd ["_law_text_here"] (spLRead K C) := by
  refine F.ok scLRead (fun vs H Q E h => ?_) (fun cdv A outer s H vs Q E hr h => ?_)
  · obtain ⟨v, rfl, _⟩ := h
    rfl
  · obtain ⟨v, rfl, alt⟩ := h
    have nd := scLRead.nd
    refine ⟨_, pss_one (ps_try_cls (tb := fun W => tRet (tCallS (spReadAny K C CT) (WE W) (tCons (tVar 0) tNil))) (Wo := fun _ _ _ _ => False)
        (l := [⟨.ref CT, some 1, fun a cls d D σ H => (cls = .ref CT ∧ d = none) ∧ (σ.length = 2 → tRet (tOp (rIxL K) (tLst (tCons (tC (.str "other")) (tCons (tC (.str "no text")) tNil))) (tCB rInt1 (tCons (tAndV (tCB (rIs1 K CT a none) (tCons (tVar 1) (tCons (tC (.ty "ValueError")) tNil))) (tNotV (tCB (rIsN K CT a none) (tCons (tVar 1) (tCons (tTup (tCons (tC (.ref CG)) (tCons (tC (.ref CW)) (tCons (tC (.ref CR)) tNil)))) tNil))))) tNil))) D σ H)⟩, ⟨.ref C0, none, fun _ _ _ => tRet (tC (.str "other"))⟩])
        rfl rfl nd takes0 (fun W pn xe tk _ => pss_one (ps_ret (pe_callS DR hr (by rfl) gR kR bR (fun σ => passAt tk σ) (pa_cons (pv 0) pa_nil))))
        (ClsOk.named rfl rfl ⟨rfl, by decide, .inl R.gT⟩ (fun a oe cls d pn hz hf => pss_when (fun ⟨e1, e2⟩ => by
          subst e1 e2
          exact pss_one (ps_ret (pe_ix ix_list (pe_lst (pa_cons pe_str (pa_cons pe_str pa_nil))) (pe_callTy call_int1 (by rfl) B.int (by decide +kernel) (pa_cons (pe_and (pe_callB (call_is1 R.xT hz hf) (by rfl) R.mI (by decide +kernel) (pa_cons (pv 1) (pa_cons (pe_bltn (v := .ty "ValueError") (by rfl) R.mV (by decide +kernel) rfl) pa_nil))) (pe_one (pe_not (pe_callB (call_isN R.xT hz hf) (by rfl) R.mI (by decide +kernel) (pa_cons (pv 1) (pa_cons (pe_tup (pa_cons (pe_glob (v := .ref CG) (by rfl) R.gG rfl) (pa_cons (pe_glob (v := .ref CW) (by rfl) R.gW rfl) (pa_cons (pe_glob (v := .ref CR) (by rfl) R.gR rfl) pa_nil)))) pa_nil)))))) pa_nil)) (fun _ _ => rfl))))) (.bare ⟨rfl, by decide, .inl R.g0⟩ (fun _ _ _ _ _ _ _ => pss_one (ps_ret pe_str)) .nil))), ?_⟩
    refine ⟨_, rfl, ?_⟩
    rcases alt with ⟨gs, ws, rfl, N, q⟩ | ⟨⟨t, rfl, TB, bad⟩ | hv, qn⟩
    · exact .inl ⟨gs, ws, rfl, N, fun p ng nw H' s NA hp _ _ => q p ng nw H' s NA hp⟩
    · refine .inr (.inl ⟨t, rfl, TB, bad, fun H' s => ?_⟩)
      refine ⟨true, R.eT, fun _ a ha => ⟨⟨rfl, rfl⟩, fun hl => ?_⟩, fun z => by cases z⟩
      refine ⟨(by show 2 ≤ sizeLine; decide), fun l1 hl1 => ?_⟩
      have s2 := same_new (o := .lst [.str "other", .str "no text"]) hl1
      have e2 : (upd H' l1 (.lst [.str "other", .str "no text"])) l1 = some (.lst [.str "other", .str "no text"]) := upd_same
      generalize upd H' l1 (.lst [.str "other", .str "no text"]) = H2 at s2 e2
      refine ⟨_, rfl, .ty "ValueError", .type "ValueError", true, rfl, .inl rfl, (fun u hu => hu), R.kTV, true, rfl, iteT ?_⟩
      refine ⟨_, rfl, (by show 3 ≤ sizeLine; decide), fun t3 ht3 => ?_⟩
      have s4 := same_new (o := .tup [.ref CG, .ref CW, .ref CR]) ht3
      refine ⟨t3, _, _, false, rfl, .inl rfl, SqT.of upd_same, vals_refs [CG, CW, CR], R.kT3, false, rfl, .inr ⟨_, rfl, ?_⟩⟩
      exact ⟨l1, _, 1, _, rfl, rfl, SqL.of (s4 _ _ e2), atI_nat (j := 1) rfl, qn _ ((s.trans s2).trans s4)⟩
    · refine .inr (.inr ⟨v, rfl, hv, ?_⟩)
      refine ⟨true, R.eT, fun _ a ha => ⟨⟨rfl, rfl⟩, fun hl => ?_⟩, fun z => by cases z⟩
      refine ⟨(by show 2 ≤ sizeLine; decide), fun l1 hl1 => ?_⟩
      have s2 := same_new (o := .lst [.str "other", .str "no text"]) hl1
      have e2 : (upd H l1 (.lst [.str "other", .str "no text"])) l1 = some (.lst [.str "other", .str "no text"]) := upd_same
      generalize upd H l1 (.lst [.str "other", .str "no text"]) = H2 at s2 e2
      refine ⟨_, rfl, .ty "ValueError", .type "ValueError", true, rfl, .inl rfl, (fun u hu => hu), R.kTV, true, rfl, iteT ?_⟩
      refine ⟨_, rfl, (by show 3 ≤ sizeLine; decide), fun t3 ht3 => ?_⟩
      have s4 := same_new (o := .tup [.ref CG, .ref CW, .ref CR]) ht3
      refine ⟨t3, _, _, false, rfl, .inl rfl, SqT.of upd_same, vals_refs [CG, CW, CR], R.kT3, false, rfl, .inr ⟨_, rfl, ?_⟩⟩
      exact ⟨l1, _, 1, _, rfl, rfl, SqL.of (s4 _ _ e2), atI_nat (j := 1) rfl, qn _ (s2.trans s4)⟩
end
end Lag

set_option maxRecDepth 100000
set_option maxHeartbeats 8000000
namespace Lag
open PySem PySem.Spec PyProof.Rows L2
theorem ints_get : ∀ {its : List Value} {ns : List Int}, IntsAre its ns → ∀ {i : Nat} {v : Value}, its[i]? = some v → ∃ (z : Int) (t : Tok), v = .int z t ∧ ns[i]? = some z := by
  intro its ns h
  induction h with
  | nil => intro i v e; simp at e
  | cons n t _ ih =>
    intro i v e
    cases i with
    | zero =>
      simp at e
      exact ⟨n, t, e.symm, rfl⟩
    | succ i => exact ih (by simpa using e)
/-! ### max(xs, default=d) of whole numbers -/
section
variable {prog : Program} {w : World} {A : Around} {E : Value → Shared → Prop}
theorem dargs_max (a d : Value) : argsOk "max" ⟨[a], [(Str.ofString "default", d)]⟩ := by
  unfold argsOk
  kernel_rfl
/-- what is held while it goes on: nothing as yet, or the best of those that came -/
def Held_max (ns : List Int) (j : Nat) (its : Array Value) : Prop := (j = 0 ∧ its = #[]) ∨ (0 < j ∧ ∃ (m : Int) (t : Tok), its = #[.int m t, .int m t] ∧ m ∈ ns.take j ∧ ∀ y ∈ ns.take j, y ≤ m)
theorem dloop_max {R : Result → Shared → Prop} {I S : Addr} {fp wr : List Addr} {n : Nat} {Pv : Nat → Value → Prop} {St : Nat → Heap → Prop} {ns : List Int} {d : Value} (W : Walks prog w A.in1 I fp wr n Pv St) (hSf : S ∉ fp) (hn : ns.length = n)
    (hP : ∀ i v, Pv i v → ∃ (z : Int) (t : Tok), v = .int z t ∧ ns[i]? = some z) :
    ∀ (k j : Nat) (s : Shared) (its : Array Value) (c : Nat), n - j = k → j ≤ n → St j s.heap → s.heap.get? S = some { cls := .type "list", data := .seq its c } → Held_max ns j its →
    (∀ h' tk, (∀ b o, b ∉ wr → b ≠ S → s.heap.get? b = some o → h'.get? b = some o) → (ns = [] → R (.ok (.ret d)) { s with heap := h', toks := tk }) ∧ ∀ m t, m ∈ ns → (∀ y ∈ ns, y ≤ m) → R (.ok (.ret (.int m t))) { s with heap := h', toks := tk }) →
    codeAny (model prog w) A (.builtin "max.loop" ⟨[.ref I, .none, .ref S], [(Str.ofString "default", d)]⟩) R s := by
  have nSw : S ∉ wr := fun z => hSf (W.sub S z)
  have hnm : (toString "max" ++ toString ".loop" : String) = "max.loop" := by decide
  intro k
  induction k with
  | zero =>
    intro j s its c hk hj st hS hh hR
    have ej : j = n := by omega
    subst ej
    refine codeAny_builtin PySem.F.entry_max_loop ?_
    rw [Around.under_plainId PySem.F.plain_max_loop _]
    show wpAny _ A.in1 (seqItems? (.ref S) >>= _) _ _ s
    refine wpAny_bind (wpAny_seqItems hS rfl ?_)
    show wpAny _ A.in1 (tryCatch (pyNext (.ref I)) _ >>= _) _ _ s
    refine wpAny_bind (wpAny_tryCatch (W.done s _ _ st fun h' tk kp => ?_))
    have hS' := kp S _ nSw hS
    rcases hh with ⟨h0, rfl⟩ | ⟨h0, m, t, rfl, hm, hb⟩
    · refine wpAny_bind (wpAny_rule (wpAny_pure ?_))
      exact (hR h' tk fun b o nb _ e => kp b o nb e).1 (List.length_eq_zero_iff.mp (by omega))
    · show wpAny _ A.in1 (updateSeq S (fun _ => #[]) >>= _) _ _ _
      refine wpAny_bind ?_
      refine wpAny_updateSeq hS' rfl (wpAny_bind (wpAny_letGo (wpAny_pure ?_)))
      rw [List.take_of_length_le (by omega)] at hm hb
      exact (hR _ tk fun b o nb nS e => (Heap.get?_update_other _ _ (Ne.symm nS)).trans (kp b o nb e)).2 m t hm hb
  | succ k ih =>
    intro j s its c hk hj st hS hh hR
    have lt : j < n := by omega
    refine codeAny_builtin PySem.F.entry_max_loop ?_
    rw [Around.under_plainId PySem.F.plain_max_loop _]
    show wpAny _ A.in1 (seqItems? (.ref S) >>= _) _ _ s
    refine wpAny_bind (wpAny_seqItems hS rfl ?_)
    show wpAny _ A.in1 (tryCatch (pyNext (.ref I)) _ >>= _) _ _ s
    refine wpAny_bind (wpAny_tryCatch (W.item j s _ _ lt st fun v h' tk pv st' kp => ?_))
    have hS' := kp S _ nSw hS
    obtain ⟨z, tz, rfl, hz⟩ := hP j v pv
    have et : ns.take (j + 1) = ns.take j ++ [z] := by rw [List.take_add_one, hz]; rfl
    rcases hh with ⟨h0, rfl⟩ | ⟨h0, m, t, rfl, hm, hb⟩
    · show wpAny _ A.in1 (updateSeq S (fun _ => #[.int z tz, .int z tz]) >>= _) _ _ _
      refine wpAny_bind ?_
      refine wpAny_updateSeq hS' rfl ?_
      rw [hnm]
      refine wpAny_pure ⟨plainId_quiet PySem.F.plain_max_loop _, ih (j + 1) _ _ _ (by omega) lt (W.frame _ _ _ st' fun b hbf o e => (Heap.get?_update_other _ _ (fun q : S = b => hSf (by rw [q]; exact hbf))).trans e) (Heap.get?_update_self _ hS' rfl) (.inr ⟨by omega, z, tz, rfl, ?_, ?_⟩) fun h'' tk'' kp'' => ?_⟩
      · rw [et]; simp
      · subst h0
        rw [et]
        intro y hy
        simp at hy
        subst hy
        exact Int.le_refl _
      · exact hR h'' tk'' fun b o nb nS e => kp'' b o nb nS ((Heap.get?_update_other _ _ (Ne.symm nS)).trans (kp b o nb e))
    · show wpAny _ A.in1 (tryCatch (holding [.int z tz, .int z tz] (richCompare .Gt (.int z tz) (.int m t) >>= _)) _ >>= _) _ _ _
      refine wpAny_bind (wpAny_tryCatch (wpAny_holding (wpAny_bind (CmpOf.ints_gt (P := fun i v => ∃ t, v = Value.int (if i = 0 then z else m) t) (fun i => if i = 0 then z else m) (fun _ _ h => h) 0 1 _ _ _ _ _ ⟨tz, rfl⟩ ⟨t, rfl⟩ ?_))))
      refine wpAny_bind (wpAny_holding (wpAny_truthy_bool ?_))
      refine wpAny_bind (wpAny_letGo (wpAny_pure ?_))
      show wpAny _ A.in1 (if decide (z > m) = true then _ else _) _ _ _
      by_cases hzm : z > m
      · rw [if_pos (decide_eq_true hzm)]
        refine wpAny_bind ?_
        refine wpAny_updateSeq hS' rfl (wpAny_bind (wpAny_letGo ?_))
        rw [hnm]
        refine wpAny_pure ⟨plainId_quiet PySem.F.plain_max_loop _, ih (j + 1) _ _ _ (by omega) lt (W.frame _ _ _ st' fun b hbf o e => (Heap.get?_update_other _ _ (fun q : S = b => hSf (by rw [q]; exact hbf))).trans e) (Heap.get?_update_self _ hS' rfl) (.inr ⟨by omega, z, tz, rfl, ?_, ?_⟩) fun h'' tk'' kp'' => ?_⟩
        · rw [et]; simp
        · rw [et]
          intro y hy
          rcases List.mem_append.mp hy with hy | hy
          · have := hb y hy
            omega
          · simp at hy
            omega
        · exact hR h'' tk'' fun b o nb nS e => kp'' b o nb nS ((Heap.get?_update_other _ _ (Ne.symm nS)).trans (kp b o nb e))
      · rw [if_neg (by rw [decide_eq_false hzm]; decide)]
        refine wpAny_bind (wpAny_letGo ?_)
        rw [hnm]
        refine wpAny_pure ⟨plainId_quiet PySem.F.plain_max_loop _, ih (j + 1) _ _ c (by omega) lt st' hS' (.inr ⟨by omega, m, t, rfl, ?_, ?_⟩) fun h'' tk'' kp'' => ?_⟩
        · rw [et]; exact List.mem_append_left _ hm
        · rw [et]
          intro y hy
          rcases List.mem_append.mp hy with hy | hy
          · exact hb y hy
          · simp at hy
            omega
        · exact hR h'' tk'' fun b o nb nS e => kp'' b o nb nS (kp b o nb e)
theorem dcall_max {s : Shared} {l : Addr} {items : Array Value} {ns : List Int} {d : Value} {Q : Value → Shared → Prop} (hh : A.handled = none) (hl : s.heap.IsList l items) (hi : IntsAre items.toList ns)
    (h : ∀ h' tk, (∀ b o, s.heap.get? b = some o → h'.get? b = some o) → (ns = [] → Q d { s with heap := h', toks := tk }) ∧ ∀ m t, m ∈ ns → (∀ y ∈ ns, y ≤ m) → Q (.int m t) { s with heap := h', toks := tk }) :
    wpAny (model prog w) A (call (.builtin "max") [.ref l] [(Str.ofString "default", d)]) Q E s := by
  have hnm : (toString "max" ++ toString ".loop" : String) = "max.loop" := by decide
  have hlt : l < s.heap.objs.size := by obtain ⟨_, e, _⟩ := hl; exact Heap.lt_size e
  refine PyProof.Rows.kmk_tree PySem.F.kind_max PySem.F.plain_max PySem.F.entry_max (dargs_max _ _) ?_
  show wpAny _ A.in1 (Builtin.Builtins.bindParams "max" ["key", "default"] 0 ⟨[], [(Str.ofString "default", d)]⟩ >>= _) _ _ s
  refine wpAny_bind (wpAny_of_eq (show Builtin.Builtins.bindParams "max" ["key", "default"] 0 ⟨[], [(Str.ofString "default", d)]⟩ = pure [none, some d] from rfl) ?_)
  refine wpAny_bind (wpAny_pure ?_)
  refine wpAny_bind (wpAny_pyIter_list hl ?_)
  refine wpAny_bind (wpAny_newList ?_ (Nat.zero_le _))
  rw [hnm]
  have W := Walks.list (prog := prog) (w := w) (A := A.in1) hh s.heap.objs.size l (Nat.ne_of_lt hlt) items
  have e1 : (s.heap.push { cls := .type "list_iterator", data := .fields #[.ref l, .int 0 0] }).objs.size = s.heap.objs.size + 1 := Heap.size_push ..
  refine wpAny_pure ⟨plainId_quiet PySem.F.plain_max_loop _, dloop_max (ns := ns) W (fun q => ?_) ?_ (fun i v hv => ?_) items.size 0 _ #[] _ (by omega) (Nat.zero_le _) ?_ (Heap.get?_push_size _ rfl) (.inl ⟨rfl, rfl⟩) fun h' tk kp => ?_⟩
  · rw [e1] at q
    rcases List.mem_cons.mp q with q | q
    · exact Nat.succ_ne_self _ q
    · have q := List.mem_singleton.mp q
      rw [← q] at hlt
      exact Nat.not_lt.mpr (Nat.le_succ _) hlt
  · rw [← hi.length]
    simp
  · obtain ⟨z, t, e2, e3⟩ := ints_get hi (show items.toList[i]? = some v by simpa using hv)
    exact ⟨z, t, e2, e3⟩
  · exact ⟨⟨_, Heap.get?_push_of_some _ (Heap.get?_push_size _ rfl), rfl, rfl⟩, (hl.push _).push _⟩
  · refine h h' tk fun b o e => ?_
    have hb := Heap.lt_size e
    refine kp b o (fun q => ?_) (fun q => ?_) (Heap.get?_push_of_some _ (Heap.get?_push_of_some _ e))
    · rw [List.mem_singleton.mp q] at hb
      exact Nat.lt_irrefl _ hb
    · rw [q, e1] at hb
      exact Nat.not_lt.mpr (Nat.le_succ _) hb
theorem dcall_maxT {s : Shared} {l : Addr} {items : Array Value} {ns : List Int} {d : Value} {Q : Value → Shared → Prop} (hh : A.handled = none) (hl : PyProof.Rows.IsTup s.heap l items) (hi : IntsAre items.toList ns)
    (h : ∀ h' tk, (∀ b o, s.heap.get? b = some o → h'.get? b = some o) → (ns = [] → Q d { s with heap := h', toks := tk }) ∧ ∀ m t, m ∈ ns → (∀ y ∈ ns, y ≤ m) → Q (.int m t) { s with heap := h', toks := tk }) :
    wpAny (model prog w) A (call (.builtin "max") [.ref l] [(Str.ofString "default", d)]) Q E s := by
  have hnm : (toString "max" ++ toString ".loop" : String) = "max.loop" := by decide
  have hlt : l < s.heap.objs.size := by obtain ⟨_, e, _⟩ := hl; exact Heap.lt_size e
  refine PyProof.Rows.kmk_tree PySem.F.kind_max PySem.F.plain_max PySem.F.entry_max (dargs_max _ _) ?_
  show wpAny _ A.in1 (Builtin.Builtins.bindParams "max" ["key", "default"] 0 ⟨[], [(Str.ofString "default", d)]⟩ >>= _) _ _ s
  refine wpAny_bind (wpAny_of_eq (show Builtin.Builtins.bindParams "max" ["key", "default"] 0 ⟨[], [(Str.ofString "default", d)]⟩ = pure [none, some d] from rfl) ?_)
  refine wpAny_bind (wpAny_pure ?_)
  refine wpAny_bind (wpAny_pyIter_tuple hl ?_)
  refine wpAny_bind (wpAny_newList ?_ (Nat.zero_le _))
  rw [hnm]
  have W := Walks.tuple (prog := prog) (w := w) (A := A.in1) hh s.heap.objs.size l (Nat.ne_of_lt hlt) items
  have e1 : (s.heap.push { cls := .type "tuple_iterator", data := .fields #[.ref l, .int 0 0] }).objs.size = s.heap.objs.size + 1 := Heap.size_push ..
  refine wpAny_pure ⟨plainId_quiet PySem.F.plain_max_loop _, dloop_max (ns := ns) W (fun q => ?_) ?_ (fun i v hv => ?_) items.size 0 _ #[] _ (by omega) (Nat.zero_le _) ?_ (Heap.get?_push_size _ rfl) (.inl ⟨rfl, rfl⟩) fun h' tk kp => ?_⟩
  · rw [e1] at q
    rcases List.mem_cons.mp q with q | q
    · exact Nat.succ_ne_self _ q
    · have q := List.mem_singleton.mp q
      rw [← q] at hlt
      exact Nat.not_lt.mpr (Nat.le_succ _) hlt
  · rw [← hi.length]
    simp
  · obtain ⟨z, t, e2, e3⟩ := ints_get hi (show items.toList[i]? = some v by simpa using hv)
    exact ⟨z, t, e2, e3⟩
  · exact ⟨⟨_, Heap.get?_push_of_some _ (Heap.get?_push_size _ rfl), rfl, rfl⟩, (hl.push _).push _⟩
  · refine h h' tk fun b o e => ?_
    have hb := Heap.lt_size e
    refine kp b o (fun q => ?_) (fun q => ?_) (Heap.get?_push_of_some _ (Heap.get?_push_of_some _ e))
    · rw [List.mem_singleton.mp q] at hb
      exact Nat.lt_irrefl _ hb
    · rw [q, e1] at hb
      exact Nat.not_lt.mpr (Nat.le_succ _) hb
end
theorem fold_max : ∀ (ns : List Int) (d : Int), ns ≠ [] → (∀ y ∈ ns, d ≤ y) → ns.foldl max d ∈ ns ∧ ∀ y ∈ ns, y ≤ ns.foldl max d
  | [], _, h, _ => absurd rfl h
  | x :: r, d, _, hd => by
    rw [List.foldl_cons, Int.max_eq_right (hd x (List.mem_cons_self ..))]
    exact go r x
where
  go : ∀ (r : List Int) (x : Int), r.foldl max x ∈ x :: r ∧ ∀ y ∈ x :: r, y ≤ r.foldl max x
    | [], x => ⟨by simp, by simp⟩
    | z :: r, x => by
      obtain ⟨h1, h2⟩ := go r (max x z)
      rw [List.foldl_cons]
      constructor
      · rcases List.mem_cons.mp h1 with e | e
        · rw [e]
          by_cases hx : x ≤ z
          · rw [Int.max_eq_right hx]; simp
          · rw [Int.max_eq_left (by omega)]; simp
        · exact List.mem_cons_of_mem _ (List.mem_cons_of_mem _ e)
      · intro y hy
        have hm := h2 (max x z) (List.mem_cons_self ..)
        rcases List.mem_cons.mp hy with rfl | hy
        · omega
        · rcases List.mem_cons.mp hy with rfl | hy
          · omega
          · exact h2 y (List.mem_cons_of_mem _ hy)
/-- max(xs, default=0) of a tuple of whole numbers, none below 0 -/
def rMaxT (K : PySem.W.Frag) : List V → List V → Hp → VK → Prop := fun vs zs H Q => ∃ (a : Addr) (ns : List Int) (d : Int), vs = [.ref a] ∧ zs = [.int d] ∧ SqT K H a (ns.map V.int) ∧ (∀ y ∈ ns, d ≤ y) ∧ Q (.int (ns.foldl max d)) H
theorem cr_maxT {X : Cx} (hc : X.calm = true) : CallRK X (.builtin "max") ["default"] (rMaxT X.K) := by
  intro pins s σ H vs zs us ws Q I r rz h
  obtain ⟨a, ns, d, rfl, rfl, hs, hd, q⟩ := h
  obtain ⟨its, rv, hl, _⟩ := I.tuple hs
  obtain ⟨u, rfl, ru⟩ := Vals.one rz
  obtain ⟨td, rfl⟩ := ru
  rw [Vals.ref1 r]
  refine dcall_maxT (I.ok.hd hc) hl (by simpa using rv.ints) fun h' tk hk => ⟨fun e => ?_, fun m t hm hb => ?_⟩
  · subst e
    exact ⟨.int d, H, I.kept hk, ⟨_, rfl⟩, q⟩
  · have hne : ns ≠ [] := fun e => by rw [e] at hm; simp at hm
    obtain ⟨h1, h2⟩ := fold_max ns d hne hd
    have e : m = ns.foldl max d := Int.le_antisymm (h2 m hm) (hb _ h1)
    exact ⟨.int m, H, I.kept hk, ⟨_, rfl⟩, by rw [e]; exact q⟩
theorem list_nilU {ds : List PyData} : PyData.eqv (.list ds) (.list []) = decide (ds = []) := by
  cases ds with
  | nil => rfl
  | cons _ _ => rfl
theorem dp_signs {K : PySem.W.Frag} {H : Hp} : ∀ bad : List Nat, DpAll K H (bad.map fun c => V.str ⟨#[c]⟩) (bad.map fun c => PyData.str ⟨#[c]⟩)
  | [] => .nil
  | c :: r => .cons (.str _) (dp_signs r)
/-! ### no ring, so ranked -/
def BareR (ws : List Wr) (a b : Nat) : Prop := ∃ x ∈ ws, x.1 = a ∧ x.2.1 = b ∧ x.2.2 = []
theorem not_acc {ws : List Wr} {e : Nat} (h : ¬ Acc (BareR ws) e) : ∃ a, BareR ws a e ∧ ¬ Acc (BareR ws) a := Classical.byContradiction fun z => h ⟨_, fun a ha => Classical.byContradiction fun y => z ⟨a, ha, y⟩⟩
theorem walk_ring {ws : List Wr} {n : Nat} (hw : ∀ x ∈ ws, x.1 < n ∧ x.2.1 < n) : ∀ (m : Nat) (es path : List Nat) (cur : Nat), n - es.length = m → Wk ws n es path cur → ¬ Acc (BareR ws) cur → hasRing ws n = true := by
  intro m
  induction m with
  | zero =>
    intro es path cur hm h na
    by_cases hc : cur ∈ es
    · obtain ⟨j, hj⟩ := List.getElem?_of_mem hc
      exact (h.ring hj).has hw
    · obtain ⟨a, ⟨x, hx, rfl, e2, e3⟩, nb⟩ := not_acc na
      obtain ⟨p, hp⟩ := List.getElem?_of_mem hx
      have ex : x = (x.1, cur, []) := by rw [← e2, ← e3]
      have h2 := (h.step (p := p) (s := x.1) hc (by rw [hp, ← ex]) (hw x hx).1).le
      rw [List.length_append] at h2
      have h2 : es.length + 1 ≤ n := h2
      omega
  | succ m ih =>
    intro es path cur hm h na
    by_cases hc : cur ∈ es
    · obtain ⟨j, hj⟩ := List.getElem?_of_mem hc
      exact (h.ring hj).has hw
    · obtain ⟨a, ⟨x, hx, rfl, e2, e3⟩, nb⟩ := not_acc na
      obtain ⟨p, hp⟩ := List.getElem?_of_mem hx
      have ex : x = (x.1, cur, []) := by rw [← e2, ← e3]
      refine ih (es ++ [cur]) (path ++ [p]) x.1 ?_ (h.step (p := p) (s := x.1) hc (by rw [hp, ← ex]) (hw x hx).1) nb
      rw [List.length_append]
      show n - (es.length + 1) = m
      omega
theorem acc_bound {ws : List Wr} {e : Nat} (h : Acc (BareR ws) e) : ∃ L, ∀ l a, Pth ws l a e → l < L := by
  induction h with
  | intro e _ ih =>
    have all : ∀ ys : List Wr, (∀ x ∈ ys, x ∈ ws) → ∃ L, ∀ x ∈ ys, x.2.1 = e → x.2.2 = [] → ∀ l a, Pth ws l a x.1 → l < L := by
      intro ys
      induction ys with
      | nil => exact fun _ => ⟨0, fun x hx => nomatch hx⟩
      | cons y r ihr =>
        intro hs
        obtain ⟨L, hL⟩ := ihr fun x hx => hs x (List.mem_cons_of_mem _ hx)
        by_cases hy : y.2.1 = e ∧ y.2.2 = []
        · obtain ⟨L2, hL2⟩ := ih y.1 ⟨y, hs y (List.mem_cons_self ..), rfl, hy.1, hy.2⟩
          refine ⟨max L L2, fun x hx e1 e2 l a p => ?_⟩
          rcases List.mem_cons.mp hx with rfl | hx
          · exact Nat.lt_of_lt_of_le (hL2 l a p) (Nat.le_max_right ..)
          · exact Nat.lt_of_lt_of_le (hL x hx e1 e2 l a p) (Nat.le_max_left ..)
        · refine ⟨L, fun x hx e1 e2 l a p => ?_⟩
          rcases List.mem_cons.mp hx with rfl | hx
          · exact absurd ⟨e1, e2⟩ hy
          · exact hL x hx e1 e2 l a p
    obtain ⟨L, hL⟩ := all ws fun x hx => hx
    refine ⟨L + 1, fun l a p => ?_⟩
    cases p with
    | one => exact Nat.succ_pos _
    | more p m e1 e2 e3 =>
      subst e1
      exact Nat.succ_lt_succ (hL _ m e2 e3 _ _ p)
theorem ring_free {ws : List Wr} {n : Nat} (hw : ∀ x ∈ ws, x.1 < n ∧ x.2.1 < n) (h : hasRing ws n = false) : Ranked ws := by
  have ac : ∀ e, Acc (BareR ws) e := fun e => Classical.byContradiction fun na => by
    obtain ⟨a, ⟨x, hx, _, e2, _⟩, _⟩ := not_acc na
    have := walk_ring hw n [] [] e (Nat.sub_zero _) ⟨List.nodup_nil, (fun e h => nomatch h), by rw [← e2]; exact (hw x hx).2, rfl, rfl, (fun p h => nomatch h)⟩ na
    rw [h] at this
    cases this
  have ex : ∀ e, ∃ L, (∀ l a, Pth ws l a e → l < L) ∧ ∀ M, (∀ l a, Pth ws l a e → l < M) → L ≤ M := fun e => by
    obtain ⟨L, hL⟩ := acc_bound (ac e)
    induction L with
    | zero => exact ⟨0, hL, fun M _ => Nat.zero_le _⟩
    | succ L ih =>
      by_cases z : ∀ l a, Pth ws l a e → l < L
      · exact ih z
      · refine ⟨L + 1, hL, fun M hM => Classical.byContradiction fun y => z fun l a p => ?_⟩
        have := hM l a p
        omega
  refine ⟨fun e => Classical.choose (ex e), fun x hx hb => ?_⟩
  obtain ⟨a1, a2⟩ := Classical.choose_spec (ex x.1)
  obtain ⟨b1, b2⟩ := Classical.choose_spec (ex x.2.1)
  have h0 := b1 0 x.1 (.one hx rfl rfl hb)
  have h1 := a2 (Classical.choose (ex x.2.1) - 1) fun l a p => by
    have := b1 (l + 1) a (.more p hx rfl rfl hb)
    omega
  show Classical.choose (ex x.1) < Classical.choose (ex x.2.1)
  omega
/-! ### _law_number -/
theorem log2_18 {n : Nat} (h : n < 100000) : n.log2 < 18 := by
  by_cases z : n = 0
  · subst z
    decide
  · exact (Nat.log2_lt z).mpr (Nat.lt_of_lt_of_le h (by decide))
theorem dv_step {a b c : Nat} (h : 48 ≤ c ∧ c ≤ 57) (k : a < b) : LW.dF a c < b * 10 := by
  unfold LW.dF
  omega
theorem dv_five {cs : List Nat} (h : NumText.AllDigits cs) (hl : cs.length ≤ 5) : NumText.digitsVal cs < 100000 := by
  rw [LW.dv_def]
  have gen : ∀ (l : List Nat) (a b : Nat), (∀ c ∈ l, 48 ≤ c ∧ c ≤ 57) → a < b → List.foldl LW.dF a l < b * 10 ^ l.length := by
    intro l
    induction l with
    | nil => intro a b _ k; simpa using k
    | cons c r ih =>
      intro a b h k
      have h1 := ih (LW.dF a c) (b * 10) (fun d hd => h d (List.mem_cons_of_mem _ hd)) (dv_step (h c (List.mem_cons_self ..)) k)
      rw [List.foldl_cons, List.length_cons, Nat.pow_succ]
      refine Nat.lt_of_lt_of_le h1 (Nat.le_of_eq ?_)
      rw [Nat.mul_assoc, Nat.mul_comm 10]
  have h1 := gen cs 0 1 h (by decide)
  rw [Nat.one_mul] at h1
  exact Nat.lt_of_lt_of_le h1 (Nat.pow_le_pow_right (by decide) hl)
abbrev sLNumb : Stmt := topS 47 -- @_law_number
def spLNumb : Sp := fun vs H Q _ => ∃ t : Str, vs = [.str t, .int 100] ∧ t.length ≤ 20000 ∧ LW.Asc t ∧ ∀ H', Same H H' → (∀ n : Nat, n ≤ 100 → t = natT n → Q (.int n) H') ∧ ((¬ ∃ n : Nat, n ≤ 100 ∧ t = natT n) → Q .non H')
section
variable {P : Program} {w : World} {K : PySem.W.Frag} {mg : Str → Option Value} {base : Heap}
abbrev nLNumb : List Str := ["_law_word", "_law_high", "_law_sign", "_law_number_here"]
theorem scLNumb : FnScope nLNumb ["_law_word", "_law_high"] (defScope sLNumb) := ⟨rfl, rfl, rfl, by decide +kernel, rfl, by decide +kernel, by decide +kernel⟩
theorem ok_lnumb {f : Addr} {fd : FuncData} (F : Fun K "_law_number" "_law_number" sLNumb f fd) (B : Bt mg) : FnOk P w K mg base CX0 1 f fd ["_law_word", "_law_high"] spLNumb := by
  refine F.ok scLNumb (fun vs H Q E h => ?_) (fun cdv A outer s H vs Q E hr h => ?_)
  · obtain ⟨t, rfl, _⟩ := h
    rfl
  · obtain ⟨t, rfl, hlen, has, q⟩ := h
    have nd := scLNumb.nd
    refine ⟨_, pss_cons (ps_if (PW.pt (pw_or (pt_cmpR op_eq (pv 0) pe_str (nomark _)) (pw_or (pt_cmpR op_gt (pe_callB call_len_str (by rfl) B.len PySem.boot_len (pa_cons (pv 0) pa_nil)) pe_int (nomark _)) (pw_or1 (pt_cmpR (op_neD hr.units) (pe_lc (own := [("_law_sign", 2)]) (g := (gName 2)) (tt := _) (te := (tVar 2)) rfl nd (pi_str (pv 0)) (blkOk_by (N := nLNumb) (sc := defScope sLNumb) (own := [("_law_sign", 2)]) (by decide +kernel)) (fun _ _ _ _ _ => (pg_name (i := 2) nd rfl (.inl rfl))) (fun _ _ _ _ _ => pts_one (pt_cmpR op_notIn_str (pv 2) pe_str (by rfl))) (fun _ _ _ _ _ => (pv 2))) (pe_lst pa_nil) (nomark _)))))) (pss_one (ps_ret pe_non)) pss_nil) <|
        pss_cons (ps_set (i := 3) nd rfl (.inl rfl) (pe_callTy call_int_str (by rfl) B.int (by decide +kernel) (pa_cons (pv 0) pa_nil))) <|
        pss_one (ps_ret (pe_ifExp (PW.pt (pw_and (pt_cmpR op_eq (pe_callTy call_str_int (by rfl) B.str (by decide +kernel) (pa_cons (pv 3) pa_nil)) (pv 0) (nomark _)) (pw_and1 (pt_cmpR op_le (pv 3) (pv 1) (nomark _))))) (pv 3) pe_non)), ?_⟩
    have no : ∀ H', Same H H' → (¬ ∃ n : Nat, n ≤ 100 ∧ t = natT n) → Q .non H' := fun H' s => (q H' s).2
    refine ⟨_, rfl, rfl, _, rfl, ite2 (fun e => ?_) (fun e => ?_)⟩
    · have e1 := V.str.inj (of_decide_eq_true e)
      refine no _ (Same.refl _) fun ⟨n, _, z⟩ => ?_
      have := natT_pos n
      rw [← z, e1] at this
      exact absurd this (by decide +kernel)
    have ne : LW.ws t ≠ [] := fun z => e (decide_eq_true (by
      have : t = "" := LW.str_eq (by rw [z]; decide +kernel)
      rw [this]))
    refine ⟨_, rfl, _, rfl, Nat.le_trans hlen (by decide), _, _, rfl, rfl, _, rfl, ite2 (fun e2 => ?_) (fun e2 => ?_)⟩
    · have e2 := of_decide_eq_true e2
      refine no _ (Same.refl _) fun ⟨n, hn, z⟩ => ?_
      have := natT_len (n := n) (by omega)
      rw [z] at e2
      omega
    have le5 : t.length ≤ 5 := by
      have : ¬ ((5 : Int) < ((t.length : Nat) : Int)) := fun z => e2 (decide_eq_true z)
      omega
    -- the signs that are no figures
    refine ⟨_, rfl, _, rfl, fun D hD => ?_⟩
    have wl : (LW.ws t).length ≤ 5 := by rw [LW.ws_len]; exact le5
    have hsz : t.cps.size = (LW.ws t).length := Array.length_toList.symm
    refine lc_it walk_str (fun i Hc => ∃ bad : List Nat, Hc D = some (.lst (bad.map fun c => V.str ⟨#[c]⟩)) ∧ (bad = [] ↔ ∀ c ∈ (LW.ws t).take i, 48 ≤ c ∧ c ≤ 57) ∧ (∀ c ∈ bad, c < 128) ∧ bad.length ≤ i ∧ Same H Hc) ⟨[], upd_same, ⟨fun _ c hc => (by rw [List.take_zero] at hc; cases hc), fun _ => rfl⟩, (fun c h => nomatch h), Nat.le_refl _, same_new hD⟩ (fun _ _ _ _ => trivial) ?_ ?_
    · rintro i x Hc H' hi ⟨bad, hc, biff, b128, bl, sm⟩ ⟨rfl, c, hci, rfl⟩
      rw [hsz] at hi
      have hcl : (LW.ws t)[i]? = some c := by
        rw [← hci]
        exact Array.getElem?_toList
      have hcm := List.mem_of_getElem? hcl
      have hc128 := has c hcm
      obtain ⟨sg, _⟩ := LW.sign_at c hc128
      have tk : (LW.ws t).take (i + 1) = (LW.ws t).take i ++ [c] := by rw [List.take_add_one, hcl]; rfl
      refine ⟨rfl, _, rfl, _, _, rfl, rfl, _, rfl, ite2 (fun e => ?_) (fun e => ?_)⟩
      · have bad' := sg.mp e
        refine ⟨_, rfl, _, hc, ?_, bad ++ [c], ?_, ⟨fun z => by simp at z, fun z => absurd (z c (by rw [tk]; exact List.mem_append_right _ (List.mem_cons_self ..))) bad'⟩, fun d hd => ?_, ?_, same_mut sm hD⟩
        · rw [List.length_map]
          exact small1000 (by omega)
        · rw [upd_same, List.map_append]
          rfl
        · rcases List.mem_append.mp hd with z | z
          · exact b128 d z
          · rw [List.mem_singleton.mp z]
            exact hc128
        · rw [List.length_append]
          show _ + 1 ≤ _
          omega
      · have okc : 48 ≤ c ∧ c ≤ 57 := by
          by_cases z : 48 ≤ c ∧ c ≤ 57
          · exact z
          · exact absurd (sg.mpr z) e
        refine ⟨bad, hc, ?_, b128, by omega, sm⟩
        rw [biff, tk]
        constructor
        · intro k d hd
          rcases List.mem_append.mp hd with z | z
          · exact k d z
          · rw [List.mem_singleton.mp z]
            exact okc
        · exact fun k d hd => k d (List.mem_append_left _ hd)
    rintro H1 ⟨bad, h1, biff, b128, bl, s1⟩
    rw [hsz, List.take_length] at biff
    refine ⟨(by show 0 ≤ sizeLine; decide), fun l6 hl6 => ?_⟩
    have s6 : Same H1 (upd H1 l6 (.lst [])) := same_new hl6
    have e6 : (upd H1 l6 (.lst [])) l6 = some (.lst []) := upd_same
    generalize upd H1 l6 (.lst []) = H6 at s6 e6
    have s16 := s1.trans s6
    have shb : Sh 1 (.list (bad.map fun c => PyData.str ⟨#[c]⟩)) := sh_list fun d hd => by
      obtain ⟨c, hc, rfl⟩ := List.mem_map.mp hd
      exact ⟨(LW.sign_at c (b128 c hc)).2, Nat.zero_le _⟩
    refine ⟨_, _, Dp.lst (SqL.of (s6 _ _ h1)) (dp_signs bad), Dp.lst (SqL.of e6) .nil, shb.ok (by decide), by decide +kernel, _, rfl, ?_⟩
    rw [list_nilU]
    by_cases hb : bad = []
    rotate_left
    · rw [decide_eq_false (fun z => hb (List.map_eq_nil_iff.mp z))]
      refine iteT (no H6 s16 fun ⟨n, _, z⟩ => hb (biff.mpr fun c hc => ?_))
      rw [z] at hc
      exact natT_digits n c hc
    rw [decide_eq_true (by rw [hb]; rfl)]
    refine iteF ?_
    have dg : NumText.AllDigits (LW.ws t) := fun c hc => biff.mp hb c hc
    have h45 : (LW.ws t).head? ≠ some 45 := fun z => by
      have := dg 45 (List.mem_of_mem_head? z)
      omega
    have hfg : LW.figs (LW.ws t) = LW.ws t := LW.figs_pos h45
    have ok : LW.FigOk t := ⟨by rw [hfg]; exact ne, by rw [hfg]; exact dg, by rw [hfg]; omega⟩
    obtain ⟨n, hn⟩ : ∃ n : Nat, LW.valW t = n := by
      unfold LW.valW
      rw [if_neg h45]
      exact ⟨_, rfl⟩
    have hiv := LW.int_val ok
    rw [hn] at hiv
    have hn5 : n < 100000 := by
      have h1 := hn
      unfold LW.valW at h1
      rw [if_neg h45, hfg] at h1
      have h2 : NumText.digitsVal (LW.ws t) = n := Int.ofNat.inj h1
      rw [← h2]
      exact dv_five dg wl
    refine ⟨_, rfl, t, n, rfl, hiv, Nat.le_trans le5 (by decide), ?_⟩
    refine gn_norm (σ' := [some (.str t), some (.int 100), none, some (.int n)]) rfl ?_
    refine ⟨_, rfl, _, rfl, (by
      refine Nat.lt_of_le_of_lt (m := 17) ?_ (by decide)
      rw [Int.natAbs_natCast]
      exact Nat.le_of_lt_succ (log2_18 hn5)), _, rfl, rfl, _, rfl, ite2 (fun e3 => ?_) (fun e3 => ?_)⟩
    · have e3 : natT n = t := V.str.inj (of_decide_eq_true e3)
      refine ⟨_, rfl, _, rfl, _, _, rfl, rfl, _, rfl, ite2 (fun e4 => ?_) (fun e4 => ?_)⟩
      · have e4 := of_decide_eq_true e4
        exact ⟨_, rfl, (q H6 s16).1 n (by omega) e3.symm⟩
      · refine no H6 s16 fun ⟨m, hm, z⟩ => e4 (decide_eq_true ?_)
        rw [z, natT_int (by omega)] at hiv
        have := Option.some.inj hiv
        omega
    · refine no H6 s16 fun ⟨m, hm, z⟩ => e3 (decide_eq_true ?_)
      rw [z, natT_int (by omega)] at hiv
      have := Option.some.inj hiv
      rw [← this, z]
      rfl
end
end Lag

set_option maxRecDepth 100000
set_option maxHeartbeats 8000000
namespace Lag
open PySem PySem.Spec PyProof.Rows L2
/-! ### rows and words -/
def gW (g : Gt) : List Str := ["gate", g.1, numT g.2]
def wW (x : Wr) : List Str := "wire" :: (wireN x).map numT
def rdW (gs : List Gt) (ws : List Wr) : List (List Str) := gs.map gW ++ ws.map wW
def wordsOf (t : Str) : List (List Str) := (Txt.split t "\n").map fun r => Txt.split r " "
def RawG (g : Gt) : Prop := 0 ≤ g.2 ∧ g.2 ≤ 100
def RawW (x : Wr) : Prop := x.1 ≤ 100 ∧ x.2.1 ≤ 100 ∧ ∀ i ∈ x.2.2, 0 ≤ i ∧ i ≤ 100
def RawOk (gs : List Gt) (ws : List Wr) : Prop := (∀ g ∈ gs, RawG g) ∧ ∀ x ∈ ws, RawW x
theorem rows_join (gs : List Gt) (ws : List Wr) : rowsT gs ws = (rdW gs ws).map (Txt.join " ") := by
  unfold rowsT rdW
  rw [List.map_append, List.map_map, List.map_map]
  rw [List.map_congr_left (f := gateT) (g := Txt.join " " ∘ gW) fun g _ => gateT_join g, List.map_congr_left (f := wireT) (g := Txt.join " " ∘ wW) fun x _ => wireT_join x]
theorem words_text {t : Str} {gs : List Gt} {ws : List Wr} (h : wordsOf t = rdW gs ws) : netT gs ws = t := by
  unfold netT
  rw [rows_join, ← h]
  unfold wordsOf
  rw [List.map_map]
  have e : (Txt.split t "\n").map (Txt.join " " ∘ fun r => Txt.split r " ") = Txt.split t "\n" := by
    conv => rhs; rw [← List.map_id (Txt.split t "\n")]
    exact List.map_congr_left fun r _ => LW.words_join r
  rw [e, TL.join_eq]
  exact StrLaws.join_split t _
theorem NetOk.raw {gs : List Gt} {ws : List Wr} (N : NetOk gs ws) : RawOk gs ws := by
  refine ⟨fun g hg => ⟨(N.gok g hg).2.1, (N.gok g hg).2.2.1⟩, fun x hx => ?_⟩
  have h := N.wok x hx
  have gl := N.gl
  have h1 := h.s
  have h2 := h.e
  refine ⟨by omega, by omega, fun i hi => ?_⟩
  have := h.r i hi
  omega
theorem good_words {t : Str} {gs : List Gt} {ws : List Wr} (N : NetOk gs ws) (h : netT gs ws = t) : wordsOf t = rdW gs ws := by
  unfold wordsOf rdW
  rw [← h, netT_split N]
  unfold rowsT
  rw [List.map_append, List.map_map, List.map_map]
  rw [List.map_congr_left (f := (fun r => Txt.split r " ") ∘ gateT) (g := gW) fun g hg => gateT_split (N.gok g hg), List.map_congr_left (f := (fun r => Txt.split r " ") ∘ wireT) (g := wW) fun x hx => wireT_split (N.wok x hx).r]
theorem gW_inj {g g' : Gt} (h : RawG g) (h' : RawG g') (e : gW g = gW g') : g = g' := by
  unfold gW at e
  injection e with _ e
  injection e with e1 e
  injection e with e2 _
  exact Prod.ext e1 (numT_inj h.1 h'.1 e2)
theorem wireN_nn {x : Wr} (h : RawW x) : ∀ i ∈ wireN x, 0 ≤ i := fun i hi => by
  rcases List.mem_cons.mp hi with rfl | hi
  · exact Int.natCast_nonneg _
  · rcases List.mem_cons.mp hi with rfl | hi
    · exact Int.natCast_nonneg _
    · exact (h.2.2 i hi).1
theorem wW_inj {x x' : Wr} (h : RawW x) (h' : RawW x') (e : wW x = wW x') : x = x' := by
  unfold wW at e
  injection e with _ e
  have e := nums_inj (wireN_nn h) (wireN_nn h') e
  unfold wireN at e
  injection e with e1 e
  injection e with e2 e3
  obtain ⟨a, b, r⟩ := x
  obtain ⟨a', b', r'⟩ := x'
  have e1 := Int.ofNat.inj e1
  have e2 := Int.ofNat.inj e2
  subst e3
  have e1 : a = a' := e1
  have e2 : b = b' := e2
  rw [e1, e2]
theorem gW_ne {g : Gt} {x : Wr} : gW g ≠ wW x := fun e => by
  unfold gW wW at e
  injection e with e _
  exact absurd e (by decide +kernel)
theorem wl_inj : ∀ {ws ws' : List Wr}, (∀ x ∈ ws, RawW x) → (∀ x ∈ ws', RawW x) → ws.map wW = ws'.map wW → ws = ws'
  | [], [], _, _, _ => rfl
  | [], _ :: _, _, _, e => by cases e
  | _ :: _, [], _, _, e => by cases e
  | x :: ws, x' :: ws', h, h', e => by
    rw [List.map_cons, List.map_cons] at e
    injection e with e1 e2
    rw [wW_inj (h x (List.mem_cons_self ..)) (h' x' (List.mem_cons_self ..)) e1, wl_inj (fun y hy => h y (List.mem_cons_of_mem _ hy)) (fun y hy => h' y (List.mem_cons_of_mem _ hy)) e2]
theorem rd_inj : ∀ {gs gs' : List Gt} {ws ws' : List Wr}, RawOk gs ws → RawOk gs' ws' → rdW gs ws = rdW gs' ws' → gs = gs' ∧ ws = ws'
  | [], [], ws, ws', h, h', e => ⟨rfl, wl_inj h.2 h'.2 (by
    unfold rdW at e
    rw [List.map_nil, List.nil_append, List.nil_append] at e
    exact e)⟩
  | [], g :: gs', ws, ws', h, h', e => by
    cases ws with
    | nil => cases e
    | cons x ws =>
      unfold rdW at e
      injection e with e _
      exact absurd e.symm gW_ne
  | g :: gs, [], ws, ws', h, h', e => by
    cases ws' with
    | nil => cases e
    | cons x ws =>
      unfold rdW at e
      injection e with e _
      exact absurd e gW_ne
  | g :: gs, g' :: gs', ws, ws', h, h', e => by
    unfold rdW at e
    rw [List.map_cons, List.map_cons, List.cons_append, List.cons_append] at e
    injection e with e1 e2
    obtain ⟨r1, r2⟩ := rd_inj (gs := gs) (gs' := gs') (ws := ws) (ws' := ws') ⟨fun y hy => h.1 y (List.mem_cons_of_mem _ hy), h.2⟩ ⟨fun y hy => h'.1 y (List.mem_cons_of_mem _ hy), h'.2⟩ e2
    rw [gW_inj (h.1 g (List.mem_cons_self ..)) (h'.1 g' (List.mem_cons_self ..)) e1, r1, r2]
    exact ⟨rfl, rfl⟩
/-- what a row of a net's text may be, after these -/
theorem row_step {t : Str} (hg : GoodN t) {i : Nat} {W : List Str} {gs : List Gt} {ws : List Wr} (R : RawOk gs ws) (ht : (wordsOf t).take i = rdW gs ws) (hW : (wordsOf t)[i]? = some W) : (ws = [] ∧ ∃ g, RawG g ∧ W = gW g) ∨ ∃ x, RawW x ∧ W = wW x := by
  obtain ⟨gs', ws', N, e⟩ := hg
  have e1 := good_words N e
  have R' := N.raw
  rw [e1] at ht hW
  unfold rdW at hW
  by_cases hi : i < gs'.length
  · rw [List.getElem?_append_left (by rw [List.length_map]; exact hi), List.getElem?_map] at hW
    cases q : gs'[i]? with
    | none => rw [q] at hW; cases hW
    | some g =>
      rw [q] at hW
      have e2 : (rdW gs' ws').take i = rdW (gs'.take i) [] := by
        unfold rdW
        rw [List.take_append_of_le_length (by rw [List.length_map]; omega), List.map_nil, List.append_nil, List.map_take]
      rw [e2] at ht
      obtain ⟨_, z⟩ := rd_inj (gs := gs'.take i) (ws := []) ⟨fun g hg => R'.1 g (List.mem_of_mem_take hg), (fun x h => nomatch h)⟩ R ht
      exact .inl ⟨z.symm, g, R'.1 g (List.mem_of_getElem? q), (Option.some.inj hW).symm⟩
  · rw [List.getElem?_append_right (by rw [List.length_map]; omega), List.getElem?_map] at hW
    cases q : ws'[i - (gs'.map gW).length]? with
    | none => rw [q] at hW; cases hW
    | some x =>
      rw [q] at hW
      exact .inr ⟨x, R'.2 x (List.mem_of_getElem? q), (Option.some.inj hW).symm⟩
theorem natT_inj {a b : Nat} (h : natT a = natT b) : a = b := Int.ofNat.inj (numT_inj (Int.natCast_nonneg a) (Int.natCast_nonneg b) h)
open Classical in
/-- the number that a word writes, as the law tells it -/
noncomputable def numV (w : Str) : V := if h : ∃ n : Nat, n ≤ 100 ∧ w = natT n then .int (Classical.choose h : Nat) else .non
theorem numV_nat {n : Nat} (h : n ≤ 100) : numV (natT n) = .int n := by
  have z : ∃ m : Nat, m ≤ 100 ∧ natT n = natT m := ⟨n, h, rfl⟩
  unfold numV
  rw [dif_pos z, ← natT_inj (Classical.choose_spec z).2]
theorem numV_non {w : Str} (h : ¬ ∃ n : Nat, n ≤ 100 ∧ w = natT n) : numV w = .non := by
  unfold numV
  exact dif_neg h
theorem numV_or (w : Str) : (∃ n : Nat, n ≤ 100 ∧ w = natT n) ∨ numV w = .non := by
  by_cases h : ∃ n : Nat, n ≤ 100 ∧ w = natT n
  · exact .inl h
  · exact .inr (numV_non h)
theorem numV_flat (w : Str) : flatV (numV w) = true := by
  rcases numV_or w with ⟨n, hn, rfl⟩ | h
  · rw [numV_nat hn]
    rfl
  · rw [h]
    rfl
theorem flats (us : List Str) : (us.map numV).all flatV = true := by
  rw [List.all_eq_true]
  intro x hx
  obtain ⟨o, _, rfl⟩ := List.mem_map.mp hx
  exact numV_flat o
theorem nums_all : ∀ {us : List Str}, (∀ u ∈ us, ∃ n : Nat, n ≤ 100 ∧ u = natT n) → ∃ ns : List Nat, us = ns.map natT ∧ ∀ n ∈ ns, n ≤ 100
  | [], _ => ⟨[], rfl, fun n h => nomatch h⟩
  | u :: us, h => by
    obtain ⟨n, hn, rfl⟩ := h u (List.mem_cons_self ..)
    obtain ⟨ns, e, k⟩ := nums_all (us := us) fun y hy => h y (List.mem_cons_of_mem _ hy)
    refine ⟨n :: ns, by rw [e]; rfl, fun m hm => ?_⟩
    rcases List.mem_cons.mp hm with rfl | hm
    · exact hn
    · exact k m hm
theorem numV_ints {ns : List Nat} (h : ∀ n ∈ ns, n ≤ 100) : (ns.map natT).map numV = ns.map fun (n : Nat) => V.int n := by
  rw [List.map_map]
  exact List.map_congr_left fun n hn => numV_nat (h n hn)
theorem non_in {us : List Str} : inV .non (us.map numV) = true ↔ ∃ u ∈ us, ¬ ∃ n : Nat, n ≤ 100 ∧ u = natT n := by
  unfold inV
  rw [List.any_eq_true]
  constructor
  · rintro ⟨y, hy, e⟩
    obtain ⟨u, hu, rfl⟩ := List.mem_map.mp hy
    refine ⟨u, hu, fun ⟨n, hn, z⟩ => ?_⟩
    rw [z, numV_nat hn] at e
    cases e
  · rintro ⟨u, hu, h⟩
    exact ⟨_, List.mem_map.mpr ⟨u, hu, rfl⟩, by rw [numV_non h]; rfl⟩
/-! ### _law_rows_of -/
def RowsP (K : PySem.W.Frag) (H : Hp) (t : Str) (v : V) : Prop := (∃ (gs : List Gt) (ws : List Wr) (p lg lw : Addr), v = .ref p ∧ RawOk gs ws ∧ wordsOf t = rdW gs ws ∧ H p = some (.tup [.ref lg, .ref lw]) ∧ LG K H lg gs ∧ LW K H lw ws) ∨ (v = .non ∧ ¬ GoodN t)
def spRowsOf (K : PySem.W.Frag) : Sp := fun vs H Q _ => ∃ t : Str, vs = [.str t] ∧ TextB t ∧ LW.Asc t ∧ ∀ v H', Same H H' → RowsP K H' t v → Q v H'
abbrev sRowsOf : Stmt := topS 48 -- @_law_rows_of
section
variable {P : Program} {w : World} {K : PySem.W.Frag} {mg : Str → Option Value} {base : Heap}
abbrev nRowsOf : List Str := ["_law_text_here", "_law_gates", "_law_wires", "_law_row", "_law_words", "_law_word", "_law_numbers"]
theorem scRowsOf : FnScope nRowsOf ["_law_text_here"] (defScope sRowsOf) := ⟨rfl, rfl, rfl, by decide +kernel, rfl, by decide +kernel, by decide +kernel⟩
theorem len_two : ∀ us : List Str, us.length = 2 → ∃ k m, us = [k, m]
  | [k, m], _ => ⟨k, m, rfl⟩
theorem len_ge2 : ∀ us : List Str, 2 ≤ us.length → ∃ p q r, us = p :: q :: r
  | p :: q :: r, _ => ⟨p, q, r, rfl⟩
theorem wires_nil {ws : List Wr} : PyData.eqv (wiresD ws) (.list []) = decide (ws = []) := by
  cases ws <;> rfl
theorem gtest {Hc : Hp} {v0 : Option V} {lg lw a N : Addr} {v3 v5 : Option V} {u : Str} {us : List Str} {ws : List Wr} {K' : Bool → Hp → Prop} (sq : SqL K Hc a (strV (u :: us))) (sn : SqL K Hc N (us.map numV)) (L : LW K Hc lw ws)
    (y : u = "gate" → ws = [] → ∀ k n, us = [k, natT n] → n ≤ 100 → ∀ Hd, Same Hc Hd → K' true Hd) (nn : (¬ (ws = [] ∧ ∃ k n, u = "gate" ∧ us = [k, natT n] ∧ n ≤ 100)) → ∀ Hd, Same Hc Hd → K' false Hd) :
    (tAnd (tTest (tOp rEq (tOp (rIxL K) (tVar 4) (tC (.int 0))) (tC (.str "gate")))) (tAnd (tTest (tOp (rEqD K) (tVar 2) (tLst tNil))) (tAnd (tTest (tOp rEq (tCB (Evl.rLenS K) (tCons (tVar 4) tNil)) (tC (.int 3)))) (tTest (tOp (fun x y H Q => y = .non ∧ Q (.bl (!decide (x = .non))) H) (tOp (rIxL K) (tVar 6) (tC (.int 1))) (tC .non)))))) [v0, some (.ref lg), some (.ref lw), v3, some (.ref a), v5, some (.ref N)] Hc K' := by
  refine ⟨_, rfl, a, _, 0, _, rfl, rfl, sq, atI_nat (j := 0) rfl, rfl, _, rfl, ite2 (fun e => ?_) (fun e => ?_)⟩
  rotate_left
  · exact nn (fun ⟨_, k, n, z, _⟩ => e (decide_eq_true (by rw [z]))) Hc (Same.refl _)
  have e0 : u = "gate" := V.str.inj (of_decide_eq_true e)
  refine ⟨_, rfl, (by show 0 ≤ sizeLine; decide), fun l6 hl6 => ?_⟩
  have s6 : Same Hc (upd Hc l6 (.lst [])) := same_new hl6
  have e6 : (upd Hc l6 (.lst [])) l6 = some (.lst []) := upd_same
  generalize upd Hc l6 (.lst []) = H6 at s6 e6
  refine ⟨_, _, (L.same s6).rw.dp, Dp.lst (SqL.of e6) .nil, (sh_wires ws).ok (by decide), by decide +kernel, ?_⟩
  rw [wires_nil]
  refine ⟨_, rfl, ite2 (fun e2 => ?_) (fun e2 => ?_)⟩
  rotate_left
  · exact nn (fun ⟨z, _⟩ => e2 (decide_eq_true z)) H6 s6
  have e2 : ws = [] := of_decide_eq_true e2
  refine ⟨_, rfl, a, _, rfl, .inl (s6.seq sq), rfl, _, rfl, ite2 (fun e3 => ?_) (fun e3 => ?_)⟩
  rotate_left
  · refine nn (fun ⟨_, k, n, _, z, _⟩ => e3 (decide_eq_true ?_)) H6 s6
    rw [z]
    rfl
  have e3 := V.int.inj (of_decide_eq_true e3)
  rw [List.length_map, List.length_cons] at e3
  obtain ⟨k, m, rfl⟩ : ∃ k m, us = [k, m] := len_two us (by omega)
  refine ⟨_, rfl, N, _, 1, _, rfl, rfl, s6.seq sn, atI_nat (j := 1) rfl, rfl, _, rfl, ?_⟩
  rcases numV_or m with ⟨n, hn, rfl⟩ | h
  · rw [numV_nat hn]
    exact y e0 e2 k n rfl hn H6 s6
  · rw [h]
    refine nn (fun ⟨_, k', n, _, z, hn⟩ => ?_) H6 s6
    injection z with _ z
    injection z with z _
    rw [z, numV_nat hn] at h
    cases h
theorem wtest {Hc : Hp} {v0 v1 v2 : Option V} {a N : Addr} {v3 v5 : Option V} {u : Str} {us : List Str} {K' : Bool → Hp → Prop} (sq : SqL K Hc a (strV (u :: us))) (sn : SqL K Hc N (us.map numV))
    (y : u = "wire" → ∀ (m n : Nat) (ns : List Nat), us = natT m :: natT n :: ns.map natT → m ≤ 100 → n ≤ 100 → (∀ i ∈ ns, i ≤ 100) → K' true Hc) (nn : (¬ (u = "wire" ∧ ∃ (m n : Nat) (ns : List Nat), us = natT m :: natT n :: ns.map natT ∧ m ≤ 100 ∧ n ≤ 100 ∧ ∀ i ∈ ns, i ≤ 100)) → K' false Hc) :
    (tAnd (tTest (tOp rEq (tOp (rIxL K) (tVar 4) (tC (.int 0))) (tC (.str "wire")))) (tAnd (tTest (tOp (rI0 fun i j => .bl (decide (j < i))) (tCB (Evl.rLenS K) (tCons (tVar 4) tNil)) (tC (.int 2)))) (tTest (tOp (rIn K true) (tC .non) (tVar 6))))) [v0, v1, v2, v3, some (.ref a), v5, some (.ref N)] Hc K' := by
  refine ⟨_, rfl, a, _, 0, _, rfl, rfl, sq, atI_nat (j := 0) rfl, rfl, _, rfl, ite2 (fun e => ?_) (fun e => ?_)⟩
  rotate_left
  · exact nn (fun ⟨z, _⟩ => e (decide_eq_true (by rw [z])))
  have e0 : u = "wire" := V.str.inj (of_decide_eq_true e)
  refine ⟨_, rfl, a, _, rfl, .inl sq, _, _, rfl, rfl, _, rfl, ite2 (fun e3 => ?_) (fun e3 => ?_)⟩
  rotate_left
  · refine nn (fun ⟨_, m, n, ns, z, _⟩ => e3 (decide_eq_true ?_))
    rw [List.length_map, z, List.length_cons, List.length_cons, List.length_cons]
    omega
  have e3 := of_decide_eq_true e3
  rw [List.length_map, List.length_cons] at e3
  obtain ⟨p, q, r, rfl⟩ : ∃ p q r, us = p :: q :: r := len_ge2 us (by omega)
  refine ⟨_, rfl, N, _, rfl, .inl sn, rfl, flats _, !inV .non ((p :: q :: r).map numV), rfl, ?_⟩
  suffices hh : ∀ b, inV .non ((p :: q :: r).map numV) = b → K' (!b) Hc from hh _ rfl
  intro b h
  cases b with
  | true =>
    obtain ⟨o, ho, no⟩ := non_in.mp h
    refine nn fun ⟨_, m, n, ns, z, hm, hn, hs⟩ => no ?_
    rw [z] at ho
    rcases List.mem_cons.mp ho with rfl | ho
    · exact ⟨m, hm, rfl⟩
    · rcases List.mem_cons.mp ho with rfl | ho
      · exact ⟨n, hn, rfl⟩
      · obtain ⟨i, hi, rfl⟩ := List.mem_map.mp ho
        exact ⟨i, hs i hi, rfl⟩
  | false =>
    have all : ∀ o ∈ p :: q :: r, ∃ n : Nat, n ≤ 100 ∧ o = natT n := fun o ho => Classical.byContradiction fun no => by
      rw [non_in.mpr ⟨o, ho, no⟩] at h
      cases h
    obtain ⟨m, hm, rfl⟩ := all p (List.mem_cons_self ..)
    obtain ⟨n, hn, rfl⟩ := all q (List.mem_cons_of_mem _ (List.mem_cons_self ..))
    obtain ⟨ns, rfl, hs⟩ := nums_all fun o ho => all o (List.mem_cons_of_mem _ (List.mem_cons_of_mem _ ho))
    exact y e0 m n ns rfl hm hn hs
end
end Lag

set_option maxRecDepth 100000
set_option maxHeartbeats 8000000
namespace Lag
open PySem PySem.Spec PyProof.Rows L2
section
variable {P : Program} {w : World} {K : PySem.W.Frag} {mg : Str → Option Value} {base : Heap}
abbrev DLNumb (P : Program) (w : World) (K : PySem.W.Frag) (mg : Str → Option Value) (base : Heap) := Df P w K mg base 1 "_law_number" ["_law_word", "_law_high"] spLNumb
theorem nat_list : ∀ l : List Int, (∀ i ∈ l, 0 ≤ i ∧ i ≤ 100) → ∃ ns : List Nat, l = ns.map (fun (n : Nat) => (n : Int)) ∧ ∀ n ∈ ns, n ≤ 100
  | [], _ => ⟨[], rfl, fun n h => nomatch h⟩
  | i :: l, h => by
    obtain ⟨ns, e, k⟩ := nat_list l fun j hj => h j (List.mem_cons_of_mem _ hj)
    have hi := h i (List.mem_cons_self ..)
    refine ⟨i.toNat :: ns, ?_, fun n hn => ?_⟩
    · rw [List.map_cons, ← e, Int.toNat_of_nonneg hi.1]
    · rcases List.mem_cons.mp hn with rfl | hn
      · omega
      · exact k n hn
theorem ok_rowsOf {f fN : Addr} {fd fdN : FuncData} (F : Fun K "_law_rows_of" "_law_rows_of" sRowsOf f fd) (B : Bt mg) (DNu : DLNumb P w K mg base fN fdN) : FnOk P w K mg base CX0 2 f fd ["_law_text_here"] (spRowsOf K) := by
  refine F.ok scRowsOf (fun vs H Q E h => ?_) (fun cdv A outer s H vs Q E hr h => ?_)
  · obtain ⟨t, rfl, _⟩ := h
    rfl
  · obtain ⟨t, rfl, TB, has, q⟩ := h
    have nd := scRowsOf.nd
    refine ⟨_, pss_cons (ps_set (i := 1) nd rfl (.inl rfl) (pe_lst pa_nil)) <|
        pss_cons (ps_set (i := 2) nd rfl (.inl rfl) (pe_lst pa_nil)) <|
        pss_cons (ps_for PassesOwn.never rfl (pi_list (pe_split (pv 0) pe_str)) (pg_name (i := 3) nd rfl (.inl rfl)) (pss_cons (ps_set (i := 4) nd rfl (.inl rfl) (pe_split (pv 3) pe_str)) <|
        pss_cons (ps_setLc (i := 6) (own := [("_law_word", 5)]) (g := (gName 5)) (tt := tYes) (te := (tCall spLNumb [] E0 (tCons (tVar 5) (tCons (tC (.int 100)) tNil)))) rfl nd rfl rfl (sw_true rfl rfl rfl (by decide +kernel)) (pi_list (pe_slice sl_list (pv 4) (po_some pe_int) po_none)) (blkOk_by (N := nRowsOf) (sc := defScope sRowsOf) (own := [("_law_word", 5)]) (by decide +kernel)) (fun _ _ _ _ _ => (pg_name (i := 5) nd rfl (.inl rfl))) (fun _ _ _ _ _ => pts_nil) (fun _ _ _ _ _ => (pe_call DNu.ok (hr.mono (by decide)) (by rfl) DNu.mg DNu.kp DNu.bd .nil pass0 (pa_cons (pv 5) (pa_cons pe_int pa_nil))))) <|
        pss_one (ps_if (PW.pt (pw_and (pt_cmpR op_eq (pe_ix ix_list (pv 4) pe_int (fun _ _ => rfl)) pe_str (nomark _)) (pw_and (pt_cmpR (op_eqD hr.units) (pv 2) (pe_lst pa_nil) (nomark _)) (pw_and (pt_cmpR op_eq (pe_callB call_len_seq (by rfl) B.len PySem.boot_len (pa_cons (pv 4) pa_nil)) pe_int (nomark _)) (pw_and1 (pt_cmpR op_notN (pe_ix ix_list (pv 6) pe_int (fun _ _ => rfl)) pe_non (nomark _))))))) (pss_one (ps_expr (pe_bm PySem.F.plainAttrs_list PySem.F.slot_list_append PySem.F.type_list_append mt_append (pv 1) (pa_cons (pe_tup (pa_cons (pe_ix ix_list (pv 4) pe_int (fun _ _ => rfl)) (pa_cons (pe_ix ix_list (pv 6) pe_int (fun _ _ => rfl)) pa_nil))) pa_nil)))) (pss_one (ps_if (PW.pt (pw_and (pt_cmpR op_eq (pe_ix ix_list (pv 4) pe_int (fun _ _ => rfl)) pe_str (nomark _)) (pw_and (pt_cmpR op_gt (pe_callB call_len_seq (by rfl) B.len PySem.boot_len (pa_cons (pv 4) pa_nil)) pe_int (nomark _)) (pw_and1 (pt_cmpR op_notIn_seq pe_non (pv 6) (by rfl)))))) (pss_one (ps_expr (pe_bm PySem.F.plainAttrs_list PySem.F.slot_list_append PySem.F.type_list_append mt_append (pv 2) (pa_cons (pe_tup (pa_cons (pe_ix ix_list (pv 6) pe_int (fun _ _ => rfl)) (pa_cons (pe_ix ix_list (pv 6) pe_int (fun _ _ => rfl)) (pa_cons (pe_callTy call_tuple_of (by rfl) B.tuple (by decide +kernel) (pa_cons (pe_slice sl_list (pv 6) (po_some pe_int) po_none) pa_nil)) pa_nil)))) pa_nil)))) (pss_one (ps_ret pe_non))))))) <|
        pss_one (ps_ret (pe_tup (pa_cons (pv 1) (pa_cons (pv 2) pa_nil)))), ?_⟩
    have hlen := TB.len
    have hrows := TB.rows
    have hwords := TB.words
    have hwl : ∀ r ∈ Txt.split t "\n", ∀ u ∈ Txt.split r " ", u.length ≤ 20000 := fun r hr u hu => TB.word hr hu
    have hrl : ∀ r ∈ Txt.split t "\n", r.length ≤ 20000 := fun r hr => Nat.le_trans (piece_len (by decide +kernel) hr) hlen
    have has1 : ∀ r ∈ Txt.split t "\n", LW.Asc r := fun r hr => has.piece hr
    have hWO : wordsOf t = (Txt.split t "\n").map fun r => Txt.split r " " := rfl
    refine ⟨(by show 0 ≤ sizeLine; decide), fun lg hlg => ?_⟩
    have s1 : Same H (upd H lg (.lst [])) := same_new hlg
    have e1 : (upd H lg (.lst [])) lg = some (.lst []) := upd_same
    generalize upd H lg (.lst []) = H1 at s1 e1
    refine gn_norm (σ' := [some (.str t), some (.ref lg), none, none, none, none, none]) rfl ?_
    refine ⟨(by show 0 ≤ sizeLine; decide), fun lw hlw => ?_⟩
    have s2 : Same H1 (upd H1 lw (.lst [])) := same_new hlw
    have e2 : (upd H1 lw (.lst [])) lw = some (.lst []) := upd_same
    have hlw0 : H lw = none := s1.free hlw
    have nlw : lg ≠ lw := fun z => by rw [z, hlw] at e1; cases e1
    have e12 := s2 _ _ e1
    generalize upd H1 lw (.lst []) = H2 at s2 e2 e12
    refine gn_norm (σ' := [some (.str t), some (.ref lg), some (.ref lw), none, none, none, none]) rfl ?_
    -- rows
    refine ⟨_, rfl, ⟨_, rfl⟩, _, _, rfl, rfl, (by decide +kernel), size24 (by omega), fun l0 hl0 => ?_⟩
    have s3 : Same H2 (upd H2 l0 (.lst (strV (Txt.split t "\n")))) := same_new hl0
    have e3 : (upd H2 l0 (.lst (strV (Txt.split t "\n")))) l0 = some (.lst (strV (Txt.split t "\n"))) := upd_same
    have e1c := s3 _ _ e12
    have e2c := s3 _ _ e2
    have nl0g : l0 ≠ lg := fun z => by rw [z, e12] at hl0; cases hl0
    have nl0w : l0 ≠ lw := fun z => by rw [z, e2] at hl0; cases hl0
    have S03 : Same H (upd H2 l0 (.lst (strV (Txt.split t "\n")))) := (s1.trans s2).trans s3
    obtain ⟨RS, hRS⟩ : ∃ RS, RS = Txt.split t "\n" := ⟨_, rfl⟩
    rw [← hRS] at hrows hwords hwl hrl has1 s3 e3 e1c e2c S03 hWO
    show _
    rw [← hRS]
    generalize upd H2 l0 (.lst (strV RS)) = H3 at s3 e3 e1c e2c S03
    refine ⟨l0, rfl, ⟨_, SqL.of e3⟩, ?_⟩
    have hWl : (wordsOf t).length = RS.length := by rw [hWO, List.length_map]
    refine for_list (K := K) (a := l0) (xs := strV RS) (fun i σ Hc => ∃ (gs : List Gt) (ws : List Wr) (gv wv : List V) (s3 s4 s6 : Option V), σ = [some (.str t), some (.ref lg), some (.ref lw), s3, s4, none, s6] ∧ RawOk gs ws ∧ (wordsOf t).take i = rdW gs ws ∧ Hc lg = some (.lst gv) ∧ All2 (GateV K Hc) gv gs ∧ Hc lw = some (.lst wv) ∧ All2 (WireV K Hc) wv ws ∧ Hc l0 = some (.lst (strV RS)) ∧ Same H Hc)
      ⟨[], [], [], [], none, none, none, rfl, ⟨(fun x h => nomatch h), (fun x h => nomatch h)⟩, rfl, e1c, All2.nil, e2c, All2.nil, e3, S03⟩ (fun i σ Hc _ ⟨_, _, _, _, _, _, _, _, _, _, _, _, _, _, hl, _⟩ => SqL.of hl) ?_ ?_
    rotate_left
    · rintro σ Hc ⟨gs, ws, gv, wv, s3, s4, s6, rfl, RW0, htk, hg, ga, hw, wa, hl, sm⟩
      have hsl : (strV RS).length = RS.length := List.length_map ..
      rw [hsl, ← hWl, List.take_length] at htk
      refine ⟨_, rfl, _, rfl, (by show 2 ≤ sizeLine; decide), fun p hp => ?_⟩
      have sp := same_new (o := .tup [.ref lg, .ref lw]) hp
      exact q (.ref p) _ (sm.trans sp) (.inl ⟨gs, ws, p, lg, lw, rfl, RW0, htk, upd_same, LG.same ⟨gv, hg, ga⟩ sp, LW.same ⟨wv, hw, wa⟩ sp⟩)
    · rintro i v σ Hc hv ⟨gs, ws, gv, wv, s3, s4, s6, rfl, RW0, htk, hg, ga, hw, wa, hl, sm⟩
      obtain ⟨r, hr', rfl⟩ := strv_at hv
      have hi : i < RS.length := (List.getElem?_eq_some_iff.mp hr').1
      have hrm := List.mem_of_getElem? hr'
      have htl := hrl r hrm
      have hra := has1 r hrm
      have hWi : (wordsOf t)[i]? = some (Txt.split r " ") := by rw [hWO, List.getElem?_map, hr']; rfl
      have hw50 := hwords r hrm
      have hwl1 := hwl r hrm
      have hga : ∀ u ∈ Txt.split r " ", LW.Asc u := fun u hu => hra.piece hu
      have htk1 : (wordsOf t).take (i + 1) = rdW gs ws ++ [Txt.split r " "] := by rw [List.take_add_one, hWi, htk]; rfl
      have hcnt : gs.length + ws.length = i := by
        have := congrArg List.length htk
        unfold rdW at this
        rw [List.length_take, List.length_append, List.length_map, List.length_map] at this
        omega
      have hgvl := ga.1
      have hwvl := wa.1
      refine gn_norm (σ' := [some (.str t), some (.ref lg), some (.ref lw), some (.str r), s4, none, s6]) rfl ?_
      -- words
      refine ⟨_, rfl, ⟨_, rfl⟩, _, _, rfl, rfl, (by decide +kernel), size24 (by omega), fun a hq => ?_⟩
      have sA : Same Hc (upd Hc a (.lst (strV (Txt.split r " ")))) := same_new hq
      have eA : (upd Hc a (.lst (strV (Txt.split r " ")))) a = some (.lst (strV (Txt.split r " "))) := upd_same
      generalize upd Hc a (.lst (strV (Txt.split r " "))) = HA at sA eA
      refine gn_norm (σ' := [some (.str t), some (.ref lg), some (.ref lw), some (.str r), some (.ref a), none, s6]) rfl ?_
      obtain ⟨u, us, hus⟩ := words_head r
      rw [hus] at eA hw50 hwl1 hga htk1 hWi
      rw [List.length_cons] at hw50
      -- numbers
      refine ⟨_, rfl, _, rfl, a, _, rfl, SqL.of eA, fun l1 hl1 => ?_⟩
      have ec : cutV (strV (u :: us)) (some 1) none = strV us := cut1
      rw [ec]
      have sB : Same HA (upd HA l1 (.lst (strV us))) := same_new hl1
      have eB : (upd HA l1 (.lst (strV us))) l1 = some (.lst (strV us)) := upd_same
      generalize upd HA l1 (.lst (strV us)) = HB at sB eB
      refine ⟨l1, rfl, ⟨_, SqL.of eB⟩, fun D hD => ?_⟩
      refine lc_list (K := K) (a := l1) (xs := strV us) (fun j Hd => Hd D = some (.lst ((us.take j).map numV)) ∧ Same HB Hd) ⟨upd_same, same_new hD⟩ (fun j Hd _ ⟨_, s⟩ => SqL.of (s _ _ eB)) ?_ ?_
      · rintro j v Hd hv ⟨hd, sd⟩
        obtain ⟨y, hy, rfl⟩ := strv_at hv
        have hj : j < us.length := (List.getElem?_eq_some_iff.mp hy).1
        have hym := List.mem_of_getElem? hy
        refine ⟨rfl, tyes ?_⟩
        have ey : us.take (j + 1) = us.take j ++ [y] := by rw [List.take_add_one, hy]; rfl
        have fin : ∀ (x : V) (H' : Hp), x = numV y → Same Hd H' → ∃ acc, H' D = some (.lst acc) ∧ acc.length < sizeLine ∧ (upd H' D (.lst (acc ++ [x]))) D = some (.lst ((us.take (j + 1)).map numV)) ∧ Same HB (upd H' D (.lst (acc ++ [x]))) := fun x H' ex s => by
          refine ⟨_, s _ _ hd, ?_, ?_, same_mut (sd.trans s) hD⟩
          · rw [List.length_map, List.length_take]
            exact small1000 (by omega)
          · rw [upd_same, ey, List.map_append, ex]
            rfl
        refine ⟨_, rfl, y, rfl, hwl1 y (List.mem_cons_of_mem _ hym), hga y (List.mem_cons_of_mem _ hym), fun H' s => ⟨fun n hn e => fin _ H' (by rw [e, numV_nat hn]) s, fun no => fin _ H' (numV_non no).symm s⟩⟩
      rintro HC ⟨hD2, sC⟩
      have hsl : (strV us).length = us.length := List.length_map ..
      rw [hsl, List.take_length] at hD2
      refine gn_norm (σ' := [some (.str t), some (.ref lg), some (.ref lw), some (.str r), some (.ref a), none, some (.ref D)]) rfl ?_
      have sHC : Same Hc HC := (sA.trans sB).trans sC
      have eAC := sC _ _ (sB _ _ eA)
      have LWc : LW K HC lw ws := LW.same ⟨wv, hw, wa⟩ sHC
      have bad : ∀ H', Same HC H' → ¬ GoodN t → Q .non H' := fun H' s no => q .non H' ((sm.trans sHC).trans s) (.inr ⟨rfl, no⟩)
      refine gtest (u := u) (us := us) (ws := ws) (SqL.of eAC) (SqL.of hD2) LWc (fun e0 ez k n eus hn Hd sd => ?_) (fun no1 Hd sd => ?_)
      · subst ez eus e0
        refine iteT ?_
        have sHd := sHC.trans sd
        have hgd := sHd _ _ hg
        refine ⟨_, rfl, .inl ⟨rfl, _, SqL.of hgd⟩, ?_⟩
        refine ⟨_, rfl, a, _, 1, _, rfl, rfl, SqL.of (sd _ _ eAC), atI_nat (j := 1) rfl, _, rfl, D, _, 1, _, rfl, rfl, SqL.of (sd _ _ hD2), atI_nat (j := 1) rfl, (by show 2 ≤ sizeLine; decide), fun p hp => ?_⟩
        rw [numV_nat hn]
        have sp : Same Hd (upd Hd p (.tup [.str k, .int n])) := same_new hp
        have ep : (upd Hd p (.tup [.str k, .int n])) p = some (.tup [.str k, .int n]) := upd_same
        generalize upd Hd p (.tup [.str k, .int n]) = He at sp ep
        have sHe := sHd.trans sp
        have hge := sHe _ _ hg
        have t' := TK.lst (o := .lst (gv ++ [.ref p])) hge
        refine ⟨lg, gv, _, rfl, rfl, hge, Nat.lt_of_le_of_lt (show gv.length ≤ 90 by omega) (by decide), ?_⟩
        refine ⟨gs ++ [(k, (n : Int))], [], gv ++ [.ref p], wv, _, _, _, rfl, ⟨fun g hgm => ?_, (fun x h => nomatch h)⟩, ?_, upd_same, ?_, ?_, ?_, ?_, same_mut (sm.trans sHe) hlg⟩
        · rcases List.mem_append.mp hgm with h | h
          · exact RW0.1 g h
          · rw [List.mem_singleton.mp h]
            exact ⟨Int.natCast_nonneg n, by show (n : Int) ≤ 100; omega⟩
        · rw [htk1]
          unfold rdW
          rw [List.map_append, List.map_nil, List.append_nil, List.append_nil]
          rfl
        · exact (ga.imp fun _ _ z => z.tk ((TK.same sHe).trans t')).snoc ⟨p, rfl, t'.seq (SqT.of ep)⟩
        · rw [upd_ne nlw.symm]
          exact sHe _ _ hw
        · exact wa.imp fun _ _ z => z.tk ((TK.same sHe).trans t')
        · rw [upd_ne nl0g]
          exact sHe _ _ hl
      · refine iteF ?_
        have eAd := sd _ _ eAC
        have eDd := sd _ _ hD2
        refine wtest (u := u) (us := us) (SqL.of eAd) (SqL.of eDd) (fun e0 m n ns eus hm hn hs => ?_) (fun no2 => ?_)
        · subst eus e0
          refine iteT ?_
          have sHd := sHC.trans sd
          have hwd := sHd _ _ hw
          have eD3 : Hd D = some (.lst (.int m :: .int n :: ns.map fun (n : Nat) => V.int n)) := by
            rw [eDd, List.map_cons, List.map_cons, numV_nat hm, numV_nat hn, numV_ints hs]
          refine ⟨_, rfl, .inl ⟨rfl, _, SqL.of hwd⟩, ?_⟩
          refine ⟨_, rfl, D, _, 0, _, rfl, rfl, SqL.of eD3, atI_nat (j := 0) rfl, _, rfl, D, _, 1, _, rfl, rfl, SqL.of eD3, atI_nat (j := 1) rfl, _, rfl, _, rfl, D, _, rfl, SqL.of eD3, fun l2 hl2 => ?_⟩
          have ec2 : cutV (V.int m :: .int n :: ns.map fun (n : Nat) => V.int n) (some 2) none = ns.map fun (n : Nat) => V.int n := (cut_from (xs := V.int m :: .int n :: ns.map fun (n : Nat) => V.int n) 2).trans rfl
          rw [ec2]
          have sq2 : Same Hd (upd Hd l2 (.lst (ns.map fun (n : Nat) => V.int n))) := same_new hl2
          have eq2 : (upd Hd l2 (.lst (ns.map fun (n : Nat) => V.int n))) l2 = some (.lst (ns.map fun (n : Nat) => V.int n)) := upd_same
          generalize upd Hd l2 (.lst (ns.map fun (n : Nat) => V.int n)) = Hx at sq2 eq2
          refine ⟨l2, _, rfl, .inl ⟨SqL.of eq2, fun l3 hl3 => ?_⟩⟩
          have sq3 : Same Hx (upd Hx l3 (.tup (ns.map fun (n : Nat) => V.int n))) := same_new hl3
          have eq3 : (upd Hx l3 (.tup (ns.map fun (n : Nat) => V.int n))) l3 = some (.tup (ns.map fun (n : Nat) => V.int n)) := upd_same
          generalize upd Hx l3 (.tup (ns.map fun (n : Nat) => V.int n)) = Hy at sq3 eq3
          refine ⟨(by show 3 ≤ sizeLine; decide), fun p hp => ?_⟩
          have sp : Same Hy (upd Hy p (.tup [.int m, .int n, .ref l3])) := same_new hp
          have ep : (upd Hy p (.tup [.int m, .int n, .ref l3])) p = some (.tup [.int m, .int n, .ref l3]) := upd_same
          generalize upd Hy p (.tup [.int m, .int n, .ref l3]) = He at sp ep
          have sHe := ((sHd.trans sq2).trans sq3).trans sp
          have hwe := sHe _ _ hw
          have t' := TK.lst (o := .lst (wv ++ [.ref p])) hwe
          have e3e := sp _ _ eq3
          have eint : (ns.map fun (n : Nat) => (n : Int)).map V.int = ns.map fun (n : Nat) => V.int n := by rw [List.map_map]; rfl
          refine ⟨lw, wv, _, rfl, rfl, hwe, Nat.lt_of_le_of_lt (show wv.length ≤ 90 by omega) (by decide), ?_⟩
          refine ⟨gs, ws ++ [(m, n, ns.map fun (n : Nat) => (n : Int))], gv, wv ++ [.ref p], _, _, _, rfl, ⟨RW0.1, fun x hx => ?_⟩, ?_, ?_, ?_, upd_same, ?_, ?_, same_mut (sm.trans sHe) hlw0⟩
          · rcases List.mem_append.mp hx with h | h
            · exact RW0.2 x h
            · rw [List.mem_singleton.mp h]
              refine ⟨hm, hn, fun i hi => ?_⟩
              obtain ⟨o, ho, rfl⟩ := List.mem_map.mp hi
              have := hs o ho
              exact ⟨Int.natCast_nonneg o, by omega⟩
          · rw [htk1]
            unfold rdW
            rw [List.map_append, List.append_assoc]
            have : wW (m, n, ns.map fun (n : Nat) => (n : Int)) = ("wire" : Str) :: natT m :: natT n :: ns.map natT := by
              unfold wW wireN
              rw [List.map_cons, List.map_cons, List.map_map]
              rfl
            rw [List.map_cons, this]
            rfl
          · rw [upd_ne nlw]
            exact sHe _ _ hg
          · exact ga.imp fun _ _ z => z.tk ((TK.same sHe).trans t')
          · exact (wa.imp fun _ _ z => z.tk ((TK.same sHe).trans t')).snoc ⟨p, l3, rfl, t'.seq (SqT.of ep), by rw [eint]; exact t'.seq (SqT.of e3e)⟩
          · rw [upd_ne nl0w]
            exact sHe _ _ hl
        · refine iteF (bad Hd sd fun good => ?_)
          rcases row_step good RW0 htk hWi with ⟨ez, g, rg, e⟩ | ⟨x, rx, e⟩
          · unfold gW at e
            injection e with e1 e2
            rw [nat_of rg.1] at e2
            exact no1 ⟨ez, g.1, g.2.toNat, e1, e2, by have := rg.2; omega⟩
          · unfold wW wireN at e
            injection e with e1 e2
            obtain ⟨ns, ens, hns⟩ := nat_list x.2.2 rx.2.2
            refine no2 ⟨e1, x.1, x.2.1, ns, ?_, rx.1, rx.2.1, hns⟩
            rw [e2, List.map_cons, List.map_cons, ens, List.map_map]
            rfl
end
end Lag

set_option maxRecDepth 100000
set_option maxHeartbeats 8000000
namespace Lag
open PySem PySem.Spec PyProof.Rows L2
theorem smallB {n : Nat} (h : n ≤ 100000) : n < sizeLine := Nat.lt_of_le_of_lt h (by decide)
theorem inv_strs (l : List Str) (k : Str) : inV (.str k) (strV l) = decide (k ∈ l) := by
  unfold inV
  rw [Bool.eq_iff_iff, List.any_eq_true, decide_eq_true_iff]
  constructor
  · rintro ⟨y, hy, e⟩
    obtain ⟨u, hu, rfl⟩ := List.mem_map.mp hy
    have : u = k := eq_of_beq e
    rw [← this]
    exact hu
  · intro h
    exact ⟨.str k, List.mem_map.mpr ⟨k, h, rfl⟩, beq_self_eq_true k⟩
theorem flat_strL (l : List Str) : (strV l).all flatV = true := by
  rw [List.all_eq_true]
  intro x hx
  obtain ⟨o, _, rfl⟩ := List.mem_map.mp hx
  rfl
theorem gates_nil {gs : List Gt} : PyData.eqv (gatesD gs) (.list []) = decide (gs = []) := by
  cases gs <;> rfl
theorem fm_take {α β : Type} {p : α → Bool} {f : α → β} {l : List α} {i : Nat} {x : α} (h : l[i]? = some x) : ((l.take (i + 1)).filter p).map f = ((l.take i).filter p).map f ++ if p x = true then [f x] else [] := by
  rw [List.take_add_one, h]
  show ((l.take i ++ [x]).filter p).map f = _
  rw [List.filter_append, List.map_append, List.filter_cons]
  by_cases e : p x = true
  · rw [if_pos e, if_pos e]
    rfl
  · rw [if_neg e, if_neg e]
    rfl
/-! ### _law_is_net -/
abbrev sIsNet : Stmt := topS 49 -- @_law_is_net
def spIsNet (K : PySem.W.Frag) : Sp := fun vs H Q _ => ∃ (lg lw : Addr) (gs : List Gt) (ws : List Wr), vs = [.ref lg, .ref lw] ∧ LG K H lg gs ∧ LW K H lw ws ∧ RawOk gs ws ∧ gs.length ≤ 90 ∧ ws.length ≤ 90 ∧ (∀ x ∈ ws, x.2.2.length ≤ 50) ∧ ∀ b H', Same H H' → (b = true ↔ NetOk gs ws) → Q (.bl b) H'
section
variable {P : Program} {w : World} {K : PySem.W.Frag} {mg : Str → Option Value} {base : Heap}
abbrev nIsNet : List Str := ["_law_gates", "_law_wires", "_law_kinds", "_law_kind", "_law_wait", "_law_start", "_law_end", "_law_regs", "_law_wire_here", "_law_ends", "_law_k", "_law_gate_here", "_law_many", "_law_come", "_law_turn"]
theorem scIsNet : FnScope nIsNet ["_law_gates", "_law_wires"] (defScope sIsNet) := ⟨rfl, rfl, rfl, by decide +kernel, rfl, by decide +kernel, by decide +kernel⟩

theorem kindtest {Hc : Hp} {v0 v1 : Option V} {lk : Addr} {k : Str} {n : Int} {r : L2.St} {K' : Bool → Hp → Prop} (sk : SqL K Hc lk (strV kinds)) (hn : 0 ≤ n ∧ n ≤ 100)
    (y : ¬ GOk (k, n) → ∀ Hd, Same Hc Hd → K' true Hd) (nn : GOk (k, n) → ∀ Hd, Same Hc Hd → K' false Hd) :
    (tOr (tTest (tOp (rIn K true) (tVar 3) (tVar 2))) (tAnd (tTest (tOp (rIn K false) (tVar 3) (tTup (tCons (tC (.str "in")) (tCons (tC (.str "out")) tNil))))) (tTest (tOp (rI0 fun i j => .bl (decide (j < i))) (tVar 4) (tC (.int 0)))))) (v0 :: v1 :: some (.ref lk) :: some (.str k) :: some (.int n) :: r) Hc K' := by
  refine ⟨_, rfl, _, rfl, lk, _, rfl, .inl sk, rfl, flat_strL _, !decide (k ∈ kinds), (by rw [← inv_strs]; rfl), ite2 (fun e => ?_) (fun e => ?_)⟩
  · have hk : k ∉ kinds := by simpa using e
    exact y (fun z => hk z.1) Hc (Same.refl _)
  have hk : k ∈ kinds := by simpa using e
  refine ⟨_, rfl, (by show 2 ≤ sizeLine; decide), fun p hp => ?_⟩
  have sp : Same Hc (upd Hc p (.tup [.str "in", .str "out"])) := same_new hp
  have ep : (upd Hc p (.tup [.str "in", .str "out"])) p = some (.tup [.str "in", .str "out"]) := upd_same
  generalize upd Hc p (.tup [.str "in", .str "out"]) = Hd at sp ep
  refine ⟨p, strV ["in", "out"], rfl, .inr (SqT.of ep), rfl, flat_strL _, decide (k ∈ (["in", "out"] : List Str)), (by rw [← inv_strs]; rfl), ite2 (fun e2 => ?_) (fun e2 => ?_)⟩
  · have hp2 : portK k := by
      have := of_decide_eq_true e2
      simpa [portK] using this
    refine ⟨_, rfl, _, _, rfl, rfl, _, rfl, ?_⟩
    by_cases h : (0 : Int) < n
    · rw [decide_eq_true h]
      exact y (fun z => by have := z.2.2.2 hp2; have : n = 0 := this; omega) Hd sp
    · rw [decide_eq_false h]
      exact nn ⟨hk, hn.1, hn.2, fun _ => by show n = 0; omega⟩ Hd sp
  · refine nn ⟨hk, hn.1, hn.2, fun z => absurd (decide_eq_true ?_) e2⟩ Hd sp
    simpa [portK] using z
theorem boundtest {Hc : Hp} {v1 v2 v3 v4 : Option V} {lg b : Addr} {gv : List V} {gs : List Gt} {s e : Nat} {rg : List Int} {r : L2.St} {K' : Bool → Hp → Prop} (sg : SqL K Hc lg gv) (hl : gv.length = gs.length) (sb : SqT K Hc b (rg.map V.int)) (h0 : ∀ i ∈ rg, 0 ≤ i)
    (y : ¬ (s < gs.length ∧ e < gs.length ∧ ROk rg) → K' true Hc) (nn : s < gs.length → e < gs.length → ROk rg → K' false Hc) :
    (tOr (tTest (tOp (rI0 fun i j => .bl (decide (j ≤ i))) (tVar 5) (tCB (Evl.rLenS K) (tCons (tVar 0) tNil)))) (tOr (tTest (tOp (rI0 fun i j => .bl (decide (j ≤ i))) (tVar 6) (tCB (Evl.rLenS K) (tCons (tVar 0) tNil)))) (tTest (tOp (rI0 fun i j => .bl (decide (j < i))) (tCKw (rMaxT K) (tCons (tVar 7) tNil) (tCons (tC (.int 0)) tNil)) (tC (.int 96)))))) (some (.ref lg) :: v1 :: v2 :: v3 :: v4 :: some (.int s) :: some (.int e) :: some (.ref b) :: r) Hc K' := by
  refine ⟨_, rfl, _, rfl, lg, gv, rfl, .inl sg, _, _, rfl, rfl, _, rfl, ite2 (fun c => ?_) (fun c => ?_)⟩
  · have c := of_decide_eq_true c
    exact y fun ⟨z, _⟩ => by omega
  have c1 : s < gs.length := by
    have : ¬ ((gv.length : Int) ≤ (s : Int)) := fun z => c (decide_eq_true z)
    omega
  refine ⟨_, rfl, _, rfl, lg, gv, rfl, .inl sg, _, _, rfl, rfl, _, rfl, ite2 (fun c => ?_) (fun c => ?_)⟩
  · have c := of_decide_eq_true c
    exact y fun ⟨_, z, _⟩ => by omega
  have c2 : e < gs.length := by
    have : ¬ ((gv.length : Int) ≤ (e : Int)) := fun z => c (decide_eq_true z)
    omega
  refine ⟨_, rfl, b, rg, 0, rfl, rfl, sb, h0, _, _, rfl, rfl, _, rfl, ?_⟩
  by_cases h : (96 : Int) < rg.foldl max 0
  · rw [decide_eq_true h]
    refine y fun ⟨_, _, z⟩ => ?_
    by_cases ne : rg = []
    · rw [ne] at h
      exact absurd h (by decide)
    · have := z _ (fold_max rg 0 ne h0).1
      omega
  · rw [decide_eq_false h]
    refine nn c1 c2 fun i hi => ⟨h0 i hi, ?_⟩
    have ne : rg ≠ [] := fun z => by rw [z] at hi; cases hi
    have := (fold_max rg 0 ne h0).2 i hi
    omega
theorem endtest {Hc : Hp} {v1 v2 v3 v4 : Option V} {lg : Addr} {gv : List V} {gs : List Gt} {s e : Nat} {r : L2.St} {K' : Bool → Hp → Prop} (sg : SqL K Hc lg gv) (ga : All2 (GateV K Hc) gv gs) (hs : s < gs.length) (he : e < gs.length)
    (y : ¬ (kindAt gs s ≠ "out" ∧ kindAt gs e ≠ "in") → K' true Hc) (nn : kindAt gs s ≠ "out" → kindAt gs e ≠ "in" → K' false Hc) :
    (tOr (tTest (tOp rEq (tOp (rIxT K) (tOp (rIxL K) (tVar 0) (tVar 5)) (tC (.int 0))) (tC (.str "out")))) (tTest (tOp rEq (tOp (rIxT K) (tOp (rIxL K) (tVar 0) (tVar 6)) (tC (.int 0))) (tC (.str "in"))))) (some (.ref lg) :: v1 :: v2 :: v3 :: v4 :: some (.int s) :: some (.int e) :: r) Hc K' := by
  obtain ⟨x1, hx1, a1, rfl, q1⟩ := ga.getR (List.getElem?_eq_getElem hs)
  obtain ⟨x2, hx2, a2, rfl, q2⟩ := ga.getR (List.getElem?_eq_getElem he)
  have k1 := kindAt_get (List.getElem?_eq_getElem hs)
  have k2 := kindAt_get (List.getElem?_eq_getElem he)
  rw [← k1] at q1
  rw [← k2] at q2
  refine ⟨_, rfl, _, rfl, lg, _, s, _, rfl, rfl, sg, atI_nat hx1, a1, _, 0, _, rfl, rfl, q1, atI_nat (j := 0) rfl, rfl, _, rfl, ite2 (fun c => ?_) (fun c => ?_)⟩
  · exact y fun ⟨z, _⟩ => z (V.str.inj (of_decide_eq_true c))
  have c1 : kindAt gs s ≠ "out" := fun z => c (decide_eq_true (by rw [z]))
  refine ⟨_, rfl, _, rfl, lg, _, e, _, rfl, rfl, sg, atI_nat hx2, a2, _, 0, _, rfl, rfl, q2, atI_nat (j := 0) rfl, rfl, _, rfl, ?_⟩
  by_cases h : kindAt gs e = "in"
  · rw [decide_eq_true (by rw [h])]
    exact y fun ⟨_, z⟩ => z h
  · rw [decide_eq_false fun z => h (V.str.inj z)]
    exact nn c1 h
theorem counttest {Hc : Hp} {v0 v1 v2 v3 v4 v5 v6 v7 v8 v9 v10 : Option V} {a : Addr} {k : Str} {w : Int} {m : Nat} {r : L2.St} {K' : Bool → Hp → Prop} (sq : SqT K Hc a [.str k, .int w])
    (y : ¬ ((k = "out" → m = 1) ∧ (k = "first" → 1 ≤ m)) → K' true Hc) (nn : (k = "out" → m = 1) → (k = "first" → 1 ≤ m) → K' false Hc) :
    (tOr (tAnd (tTest (tOp rEq (tOp (rIxT K) (tVar 11) (tC (.int 0))) (tC (.str "out")))) (tTest (tOp rNe (tVar 12) (tC (.int 1))))) (tAnd (tTest (tOp rEq (tOp (rIxT K) (tVar 11) (tC (.int 0))) (tC (.str "first")))) (tTest (tOp rEq (tVar 12) (tC (.int 0)))))) (v0 :: v1 :: v2 :: v3 :: v4 :: v5 :: v6 :: v7 :: v8 :: v9 :: v10 :: some (.ref a) :: some (.int m) :: r) Hc K' := by
  have snd : (k = "out" → m = 1) → (tAnd (tTest (tOp rEq (tOp (rIxT K) (tVar 11) (tC (.int 0))) (tC (.str "first")))) (tTest (tOp rEq (tVar 12) (tC (.int 0))))) (v0 :: v1 :: v2 :: v3 :: v4 :: v5 :: v6 :: v7 :: v8 :: v9 :: v10 :: some (.ref a) :: some (.int m) :: r) Hc K' := fun h1 => by
    refine ⟨_, rfl, a, _, 0, _, rfl, rfl, sq, atI_nat (j := 0) rfl, rfl, _, rfl, ite2 (fun c => ?_) (fun c => ?_)⟩
    · have c := V.str.inj (of_decide_eq_true c)
      refine ⟨_, rfl, rfl, _, rfl, ?_⟩
      by_cases hm : m = 0
      · rw [decide_eq_true (by rw [hm]; rfl)]
        exact y fun ⟨_, z⟩ => by have := z c; omega
      · rw [decide_eq_false fun z => hm (by have := V.int.inj z; omega)]
        exact nn h1 fun _ => by omega
    · exact nn h1 fun z => absurd (decide_eq_true (by rw [z])) c
  refine ⟨_, rfl, a, _, 0, _, rfl, rfl, sq, atI_nat (j := 0) rfl, rfl, _, rfl, ite2 (fun c => ?_) (fun c => ?_)⟩
  · have c := V.str.inj (of_decide_eq_true c)
    refine ⟨_, rfl, rfl, _, rfl, ite2 (fun c2 => ?_) (fun c2 => ?_)⟩
    · refine y fun ⟨z, _⟩ => ?_
      rw [z c] at c2
      exact absurd c2 (by decide)
    · refine snd fun _ => Classical.byContradiction fun z => c2 ?_
      rw [decide_eq_false fun z2 => z (by have := V.int.inj z2; omega)]
      rfl
  · exact iteF (snd fun z => absurd (decide_eq_true (by rw [z])) c)
end
end Lag

set_option maxRecDepth 100000
set_option maxHeartbeats 8000000
namespace Lag
open PySem PySem.Spec PyProof.Rows L2
section
variable {P : Program} {w : World} {K : PySem.W.Frag} {mg : Str → Option Value} {base : Heap}
theorem wires_nat (ws : List Wr) (e : Nat) : ((ws.map fun x => (x.2.1 : Int)).count (e : Int)) = cnt ws e := by
  unfold cnt List.count
  rw [List.countP_map]
  refine List.countP_congr fun x _ => ?_
  show ((x.2.1 : Int) == (e : Int)) = true ↔ (x.2.1 == e) = true
  rw [beq_iff_eq, beq_iff_eq]
  omega
theorem ok_isNet {f : Addr} {fd : FuncData} (F : Fun K "_law_is_net" "_law_is_net" sIsNet f fd) (B : Bt mg) : FnOk P w K mg base CX0 1 f fd ["_law_gates", "_law_wires"] (spIsNet K) := by
  refine F.ok scIsNet (fun vs H Q E h => ?_) (fun cdv A outer s H vs Q E hr h => ?_)
  · obtain ⟨lg, lw, gs, ws, rfl, _⟩ := h
    rfl
  · obtain ⟨lg, lw, gs, ws, rfl, ⟨gv, hgv, hga⟩, ⟨wv, hwv, hwa⟩, RW0, hgl, hwl, h50, q⟩ := h
    have nd := scIsNet.nd
    refine ⟨_, pss_cons (ps_set (i := 2) nd rfl (.inl rfl) (pe_lst (pa_cons pe_str (pa_cons pe_str (pa_cons pe_str (pa_cons pe_str (pa_cons pe_str (pa_cons pe_str (pa_cons pe_str (pa_cons pe_str pa_nil)))))))))) <|
        pss_cons (ps_for PassesOwn.never rfl (pi_list (pv 0)) (pg_tup rfl (pgs_cons (pg_name (i := 3) nd rfl (.inl rfl)) (pgs_cons (pg_name (i := 4) nd rfl (.inl rfl)) pgs_nil))) (pss_one (ps_if (PW.pt (pw_or (pt_cmpR op_notIn_seq (pv 3) (pv 2) (by rfl)) (pw_or1 (PW.pt (pw_and (pt_cmpR op_in_seq (pv 3) (pe_tup (pa_cons pe_str (pa_cons pe_str pa_nil))) (by rfl)) (pw_and1 (pt_cmpR op_gt (pv 4) pe_int (nomark _)))))))) (pss_one (ps_ret pe_bl)) pss_nil))) <|
        pss_cons (ps_if (pt_cmpR (op_eqD hr.units) (pv 0) (pe_lst pa_nil) (nomark _)) (pss_one (ps_ret pe_bl)) pss_nil) <|
        pss_cons (ps_for PassesOwn.never rfl (pi_list (pv 1)) (pg_tup rfl (pgs_cons (pg_name (i := 5) nd rfl (.inl rfl)) (pgs_cons (pg_name (i := 6) nd rfl (.inl rfl)) (pgs_cons (pg_name (i := 7) nd rfl (.inl rfl)) pgs_nil)))) (pss_cons (ps_if (PW.pt (pw_or (pt_cmpR op_ge (pv 5) (pe_callB call_len_seq (by rfl) B.len PySem.boot_len (pa_cons (pv 0) pa_nil)) (nomark _)) (pw_or (pt_cmpR op_ge (pv 6) (pe_callB call_len_seq (by rfl) B.len PySem.boot_len (pa_cons (pv 0) pa_nil)) (nomark _)) (pw_or1 (pt_cmpR op_gt (pe_callBK (cr_maxT rfl) (by rfl) B.max (by decide +kernel) (pa_cons (pv 7) pa_nil) (pk_cons pe_int pk_nil)) pe_int (nomark _)))))) (pss_one (ps_ret pe_bl)) pss_nil) <|
        pss_one (ps_if (PW.pt (pw_or (pt_cmpR op_eq (pe_ix ix_tup (pe_ix ix_list (pv 0) (pv 5) (fun _ _ => rfl)) pe_int (fun _ _ => rfl)) pe_str (nomark _)) (pw_or1 (pt_cmpR op_eq (pe_ix ix_tup (pe_ix ix_list (pv 0) (pv 6) (fun _ _ => rfl)) pe_int (fun _ _ => rfl)) pe_str (nomark _))))) (pss_one (ps_ret pe_bl)) pss_nil))) <|
        pss_cons (ps_setLc (i := 9) (own := [("_law_wire_here", 8)]) (g := (gName 8)) (tt := tYes) (te := (tOp (rIxT K) (tVar 8) (tC (.int 1)))) rfl nd rfl rfl (sw_true rfl rfl rfl (by decide +kernel)) (pi_list (pv 1)) (blkOk_by (N := nIsNet) (sc := defScope sIsNet) (own := [("_law_wire_here", 8)]) (by decide +kernel)) (fun _ _ _ _ _ => (pg_name (i := 8) nd rfl (.inl rfl))) (fun _ _ _ _ _ => pts_nil) (fun _ _ _ _ _ => (pe_ix ix_tup (pv 8) pe_int (fun _ _ => rfl)))) <|
        pss_cons (ps_for PassesOwn.never rfl (pi_enum (by rfl) B.enum (pa_cons (pv 0) pa_nil)) (pg_tup rfl (pgs_cons (pg_name (i := 10) nd rfl (.inr rfl)) (pgs_cons (pg_name (i := 11) nd rfl (.inl rfl)) pgs_nil))) (pss_cons (ps_set (i := 12) nd rfl (.inl rfl) (pe_bm PySem.F.plainAttrs_list PySem.F.slot_list_count PySem.F.type_list_count mt_lcount (pv 9) (pa_cons (pv 10) pa_nil))) <|
        pss_cons (ps_if (PW.pt (pw_or (PW.pt (pw_and (pt_cmpR op_eq (pe_ix ix_tup (pv 11) pe_int (fun _ _ => rfl)) pe_str (nomark _)) (pw_and1 (pt_cmpR op_ne (pv 12) pe_int (nomark _))))) (pw_or1 (PW.pt (pw_and (pt_cmpR op_eq (pe_ix ix_tup (pv 11) pe_int (fun _ _ => rfl)) pe_str (nomark _)) (pw_and1 (pt_cmpR op_eq (pv 12) pe_int (nomark _)))))))) (pss_one (ps_ret pe_bl)) pss_nil) <|
        pss_cons (ps_set (i := 13) nd rfl (.inr rfl) (pe_lc (own := [("_law_wire_here", 8)]) (g := (gName 8)) (tt := (tAnd (tTest (tOp rEq (tOp (rIxT K) (tVar 8) (tC (.int 0))) (tVar 10))) (tTest (tOp (rEqD K) (tOp (rIxT K) (tVar 8) (tC (.int 2))) (tTup tNil))))) (te := (tOp (rIxT K) (tVar 8) (tC (.int 1)))) rfl nd (pi_list (pv 1)) (blkOk_by (N := nIsNet) (sc := defScope sIsNet) (own := [("_law_wire_here", 8)]) (by decide +kernel)) (fun _ _ _ _ _ => (pg_name (i := 8) nd rfl (.inl rfl))) (fun _ _ _ _ _ => pts_one (PW.pt (pw_and (pt_cmpR op_eq (pe_ix ix_tup (pv 8) pe_int (fun _ _ => rfl)) (pv 10) (nomark _)) (pw_and1 (pt_cmpR (op_eqD hr.units) (pe_ix ix_tup (pv 8) pe_int (fun _ _ => rfl)) (pe_tup pa_nil) (nomark _)))))) (fun _ _ _ _ _ => (pe_ix ix_tup (pv 8) pe_int (fun _ _ => rfl))))) <|
        pss_cons (ps_for PassesOwn.never rfl (pi_list (pv 0)) (pg_name (i := 14) nd rfl (.inl rfl)) (pss_one (ps_set (i := 13) nd rfl (.inr rfl) (pe_op op_cat (pv 13) (pe_lc (own := [("_law_wire_here", 8)]) (g := (gName 8)) (tt := (tAnd (tTest (tOp (rIn K false) (tOp (rIxT K) (tVar 8) (tC (.int 0))) (tVar 13))) (tAnd (tTest (tOp (rEqD K) (tOp (rIxT K) (tVar 8) (tC (.int 2))) (tTup tNil))) (tTest (tOp (rIn K true) (tOp (rIxT K) (tVar 8) (tC (.int 1))) (tVar 13)))))) (te := (tOp (rIxT K) (tVar 8) (tC (.int 1)))) rfl nd (pi_list (pv 1)) (blkOk_by (N := nIsNet) (sc := defScope sIsNet) (own := [("_law_wire_here", 8)]) (by decide +kernel)) (fun _ _ _ _ _ => (pg_name (i := 8) nd rfl (.inl rfl))) (fun _ _ _ _ _ => pts_one (PW.pt (pw_and (pt_cmpR op_in_seq (pe_ix ix_tup (pv 8) pe_int (fun _ _ => rfl)) (pv 13) (by rfl)) (pw_and (pt_cmpR (op_eqD hr.units) (pe_ix ix_tup (pv 8) pe_int (fun _ _ => rfl)) (pe_tup pa_nil) (nomark _)) (pw_and1 (pt_cmpR op_notIn_seq (pe_ix ix_tup (pv 8) pe_int (fun _ _ => rfl)) (pv 13) (by rfl))))))) (fun _ _ _ _ _ => (pe_ix ix_tup (pv 8) pe_int (fun _ _ => rfl)))))))) <|
        pss_one (ps_if (pt_cmpR op_in_seq (pv 10) (pv 13) (by rfl)) (pss_one (ps_ret pe_bl)) pss_nil))) <|
        pss_one (ps_ret pe_bl), ?_⟩
    have hlg : gv.length = gs.length := hga.1
    have hlw : wv.length = ws.length := hwa.1
    have reg : ∀ {Hc : Hp} {x : Wr} {b t0 : Addr} {Q : VK}, SqT K Hc b (x.2.2.map V.int) → SqT K Hc t0 [] → Q (.bl (decide (x.2.2 = []))) Hc → rEqD K (.ref b) (.ref t0) Hc Q := fun {Hc x b t0 Q} s1 s2 hq => by
      refine ⟨.tuple (x.2.2.map PyData.int), .tuple [], .tup s1 (ints_dp _), .tup s2 .nil, ?_, rfl, ?_⟩
      · refine Sh.ok (k := 1) (sh_tuple fun d hd => ?_) (by decide)
        obtain ⟨z, _, rfl⟩ := List.mem_map.mp hd
        exact sh_int _
      · have e : PyData.eqv (.tuple (x.2.2.map PyData.int)) (.tuple []) = decide (x.2.2 = []) := by
          cases x.2.2 <;> rfl
        rw [e]
        exact hq
    have no : ∀ H', Same H H' → ¬ NetOk gs ws → Q (.bl false) H' := fun H' s z => q false H' s ⟨(fun y => nomatch y), fun y => absurd y z⟩
    refine ⟨(by show 8 ≤ sizeLine; decide), fun lk hlk => ?_⟩
    show _
    have sk : Same H (upd H lk (.lst (strV kinds))) := same_new hlk
    have ek : (upd H lk (.lst (strV kinds))) lk = some (.lst (strV kinds)) := upd_same
    refine gn_norm (σ' := [some (.ref lg), some (.ref lw), some (.ref lk), none, none, none, none, none, none, none, none, none, none, none, none]) rfl ?_
    show _
    generalize hHk : upd H lk (.lst [.str "in", .str "out", .str "sum", .str "times", .str "most", .str "least", .str "first", .str "one"]) = Hk
    have sk : Same H Hk := by rw [← hHk]; exact sk
    have ek : Hk lk = some (.lst (strV kinds)) := by rw [← hHk]; exact ek
    clear hHk
    -- gates
    refine ⟨_, rfl, lg, rfl, ⟨_, SqL.of (sk _ _ hgv)⟩, ?_⟩
    refine for_list (K := K) (a := lg) (xs := gv) (fun i σ Hc => ∃ s3 s4 : Option V, σ = [some (.ref lg), some (.ref lw), some (.ref lk), s3, s4, none, none, none, none, none, none, none, none, none, none] ∧ Hc lk = some (.lst (strV kinds)) ∧ Same H Hc ∧ ∀ g ∈ gs.take i, GOk g) ⟨none, none, rfl, ek, sk, fun g h => by rw [List.take_zero] at h; cases h⟩ (fun i σ Hc _ ⟨_, _, _, _, sm, _⟩ => SqL.of (sm _ _ hgv)) ?_ ?_
    · rintro i v σ Hc hv ⟨s3, s4, rfl, hk, sm, hok⟩
      obtain ⟨g, hg, a, rfl, sq⟩ := hga.get hv
      have rg := RW0.1 g (List.mem_of_getElem? hg)
      refine ⟨a, _, rfl, (TK.same sm).seq sq, rfl, _, _, rfl, _, _, rfl, rfl, ?_⟩
      refine kindtest (k := g.1) (n := g.2) (SqL.of hk) rg (fun bad Hd sd => ?_) (fun ok Hd sd => ?_)
      · refine iteT (no Hd (sm.trans sd) fun N => bad ?_)
        exact N.gok g (List.mem_of_getElem? hg)
      · refine iteF ⟨_, _, rfl, sd _ _ hk, sm.trans sd, fun g' h' => ?_⟩
        rw [List.take_add_one, hg] at h'
        rcases List.mem_append.mp h' with z | z
        · exact hok g' z
        · rw [List.mem_singleton.mp (show g' ∈ [g] from z)]
          exact ok
    rintro σ Hc ⟨s3, s4, rfl, hk, sm, hok⟩
    rw [hlg, List.take_length] at hok
    -- no gates
    refine ⟨_, rfl, (by show 0 ≤ sizeLine; decide), fun l6 hl6 => ?_⟩
    have s6 : Same Hc (upd Hc l6 (.lst [])) := same_new hl6
    have e6 : (upd Hc l6 (.lst [])) l6 = some (.lst []) := upd_same
    generalize upd Hc l6 (.lst []) = H6 at s6 e6
    have sm6 := sm.trans s6
    have hk6 := s6 _ _ hk
    have LGH : LG K H lg gs := ⟨gv, hgv, hga⟩
    refine ⟨_, _, (LGH.same sm6).rg.dp, Dp.lst (SqL.of e6) .nil, (sh_gates hok).ok (by decide), by decide +kernel, ?_⟩
    rw [gates_nil]
    refine ⟨_, rfl, ite2 (fun e => no H6 sm6 fun N => N.ne (of_decide_eq_true e)) (fun e => ?_)⟩
    have hne : gs ≠ [] := fun z => e (decide_eq_true z)
    -- wires
    refine ⟨_, rfl, lw, rfl, ⟨_, SqL.of (sm6 _ _ hwv)⟩, ?_⟩
    refine for_list (K := K) (a := lw) (xs := wv) (fun i σ Hc => ∃ s5 s6 s7 : Option V, σ = [some (.ref lg), some (.ref lw), some (.ref lk), s3, s4, s5, s6, s7, none, none, none, none, none, none, none] ∧ Same H Hc ∧ ∀ x ∈ ws.take i, WOk gs x) ⟨none, none, none, rfl, sm6, fun g h => by rw [List.take_zero] at h; cases h⟩ (fun i σ Hc _ ⟨_, _, _, _, sm, _⟩ => SqL.of (sm _ _ hwv)) ?_ ?_
    · rintro i v σ Hc hv ⟨s5, s6, s7, rfl, sm, hwok⟩
      obtain ⟨x, hx, a, b, rfl, sq1, sq2⟩ := hwa.get hv
      have hxm := List.mem_of_getElem? hx
      have rx := RW0.2 x hxm
      have tc := TK.same sm
      refine ⟨a, _, rfl, tc.seq sq1, rfl, _, _, rfl, _, _, rfl, _, _, rfl, rfl, ?_⟩
      refine boundtest (s := x.1) (e := x.2.1) (SqL.of (sm _ _ hgv)) hlg (tc.seq sq2) (fun i hi => (rx.2.2 i hi).1) (fun bad => ?_) (fun b1 b2 b3 => ?_)
      · exact iteT (no Hc sm fun N => bad ⟨(N.wok x hxm).s, (N.wok x hxm).e, (N.wok x hxm).r⟩)
      · refine iteF ?_
        refine endtest (s := x.1) (e := x.2.1) (SqL.of (sm _ _ hgv)) (hga.imp fun _ _ z => z.tk tc) b1 b2 (fun bad => ?_) (fun k1 k2 => ?_)
        · exact iteT (no Hc sm fun N => bad ⟨(N.wok x hxm).ks, (N.wok x hxm).ke⟩)
        · refine iteF ⟨_, _, _, rfl, sm, fun y hy => ?_⟩
          rw [List.take_add_one, hx] at hy
          rcases List.mem_append.mp hy with z | z
          · exact hwok y z
          · rw [List.mem_singleton.mp (show y ∈ [x] from z)]
            exact ⟨b1, b2, k1, k2, b3, by have := h50 x hxm; omega⟩
    rintro σ Hc ⟨s5, s6, s7, rfl, sm5, hwok⟩
    rw [hlw, List.take_length] at hwok
    -- ends
    refine ⟨_, rfl, lw, rfl, ⟨_, SqL.of (sm5 _ _ hwv)⟩, fun l9 hl9 => ?_⟩
    have hl90 : H l9 = none := sm5.free hl9
    refine lc_list (K := K) (a := lw) (xs := wv) (fun j Hd => Hd l9 = some (.lst ((((ws.take j).map fun x => (x.2.1 : Int))).map V.int)) ∧ Same H Hd) ⟨upd_same, sm5.trans (same_new hl9)⟩ (fun j Hd _ ⟨_, s⟩ => SqL.of (s _ _ hwv)) ?_ ?_
    · rintro j v Hd hv ⟨hd, sd⟩
      obtain ⟨x, hx, a, b, rfl, sq1, sq2⟩ := hwa.get hv
      have hj : j < ws.length := (List.getElem?_eq_some_iff.mp hx).1
      refine ⟨rfl, tyes ?_⟩
      refine ⟨_, rfl, a, _, 1, _, rfl, rfl, (TK.same sd).seq sq1, atI_nat (j := 1) rfl, _, hd, ?_, ?_, same_mut sd hl90⟩
      · rw [List.length_map, List.length_map, List.length_take]
        exact smallB (by omega)
      · rw [upd_same, List.take_add_one, hx, List.map_append, List.map_append]
        rfl
    rintro H9 ⟨h9, sm9⟩
    rw [hlw, List.take_length] at h9
    refine gn_norm (σ' := [some (.ref lg), some (.ref lw), some (.ref lk), s3, s4, s5, s6, s7, none, some (.ref l9), none, none, none, none, none]) rfl ?_
    -- the gates' wires
    refine ⟨_, rfl, lg, gv, rfl, SqL.of (sm9 _ _ hgv), for_it (walk_enum (K := K) (a := lg) (xs := gv)) (fun i σ Hc => ∃ s10 s11 s12 s13 s14 : Option V, σ = [some (.ref lg), some (.ref lw), some (.ref lk), s3, s4, s5, s6, s7, none, some (.ref l9), s10, s11, s12, s13, s14] ∧ Hc l9 = some (.lst ((ws.map fun x => (x.2.1 : Int)).map V.int)) ∧ Same H Hc ∧ ∀ e, e < i → (kindAt gs e = "out" → cnt ws e = 1) ∧ (kindAt gs e = "first" → 1 ≤ cnt ws e) ∧ (comeN ws e gs.length).contains e = false)
      ⟨none, none, none, none, none, rfl, h9, sm9, fun e h => by omega⟩ (fun i σ Hc _ ⟨_, _, _, _, _, _, _, sm, _⟩ => SqL.of (sm _ _ hgv)) ?_ ?_⟩
    · rintro i v σ Hc H1 hi ⟨s10, s11, s12, s13, s14, rfl, h9c, smc, hno⟩ ⟨T, x1, y, rfl, hT, rfl, ex, ey⟩
      cases ex
      obtain ⟨g, hg, ag, rfl, sqg⟩ := hga.get ey
      have hgi : i < gs.length := (List.getElem?_eq_some_iff.mp hg).1
      have smT : Same Hc (upd Hc T (.tup [.int (i : Nat), .ref ag])) := same_new hT
      have eT : (upd Hc T (.tup [.int (i : Nat), .ref ag])) T = some (.tup [.int (i : Nat), .ref ag]) := upd_same
      generalize upd Hc T (.tup [.int (i : Nat), .ref ag]) = H1 at smT eT
      have sm1 := smc.trans smT
      have h91 := smT _ _ h9c
      refine ⟨T, _, rfl, SqT.of eT, rfl, _, _, rfl, _, _, rfl, rfl, ?_⟩
      refine gn_norm (σ' := [some (.ref lg), some (.ref lw), some (.ref lk), s3, s4, s5, s6, s7, none, some (.ref l9), some (.int (i : Nat)), some (.ref ag), s12, s13, s14]) rfl ?_
      refine ⟨_, rfl, .inl ⟨rfl, _, SqL.of h91⟩, _, rfl, l9, _, (i : Int), rfl, rfl, SqL.of h91, ?_⟩
      rw [wires_nat]
      refine gn_norm (σ' := [some (.ref lg), some (.ref lw), some (.ref lk), s3, s4, s5, s6, s7, none, some (.ref l9), some (.int (i : Nat)), some (.ref ag), some (.int (cnt ws i : Nat)), s13, s14]) rfl ?_
      have ki := kindAt_get hg
      refine counttest (k := g.1) (w := g.2) (m := cnt ws i) ((TK.same sm1).seq sqg) (fun bad => ?_) (fun c1 c2 => ?_)
      · refine iteT (no H1 sm1 fun N => bad ⟨fun z => ?_, fun z => ?_⟩)
        · exact N.one i hgi (by rw [ki, z])
        · exact N.some i hgi (by rw [ki, z])
      refine iteF ?_
      have sm1B := sm1
      have hwv := sm1 _ _ hwv
      have hgv := sm1 _ _ hgv
      have hwa : All2 (WireV K H1) wv ws := hwa.imp fun _ _ z => z.tk (TK.same sm1)
      have sm1 : Same H1 H1 := Same.refl H1
      -- come
      refine ⟨_, rfl, lw, rfl, ⟨_, SqL.of (sm1 _ _ hwv)⟩, fun D hD => ?_⟩
      have hD0 : H1 D = none := sm1.free hD
      refine lc_list (K := K) (a := lw) (xs := wv) (fun j Hc => Hc D = some (.lst (ivs (come0 (ws.take j) i))) ∧ Same H1 Hc) ⟨upd_same, sm1.trans (same_new hD)⟩ (fun j Hc _ ⟨_, sm⟩ => SqL.of (sm _ _ hwv)) ?_ ?_
      · rintro j v Hc hv ⟨hacc, smc⟩
        obtain ⟨x, hx, a, b, rfl, sq1, sq2⟩ := hwa.get hv
        have hj : j < ws.length := (List.getElem?_eq_some_iff.mp hx).1
        have tc : TK H1 Hc := TK.same smc
        have step : come0 (ws.take (j + 1)) i = come0 (ws.take j) i ++ if (x.1 == i && x.2.2.isEmpty) = true then [x.2.1] else [] := fm_take hx
        have hl0 : (ivs (come0 (ws.take j) i)).length ≤ 90 := by
          unfold ivs come0
          rw [List.length_map, List.length_map]
          have h1 := List.length_filter_le (fun x : Wr => x.1 == i && x.2.2.isEmpty) (ws.take j)
          rw [List.length_take] at h1
          omega
        have skip : ¬ (x.1 == i && x.2.2.isEmpty) = true → ∀ {Hd : Hp}, Same Hc Hd → Hd D = some (.lst (ivs (come0 (ws.take (j + 1)) i))) ∧ Same H1 Hd := fun h {Hd} s => by
          rw [step, if_neg h, List.append_nil]
          exact ⟨s _ _ hacc, smc.trans s⟩
        refine ⟨rfl, ?_⟩
        refine ⟨_, rfl, a, _, 0, _, rfl, rfl, tc.seq sq1, atI_nat (j := 0) rfl, _, rfl, rfl, _, rfl, ite2 (fun e => ?_) (fun e => iteF ?_)⟩
        · have hk : x.1 = i := by
            have := V.int.inj (of_decide_eq_true e)
            omega
          refine ⟨_, rfl, a, _, 2, _, rfl, rfl, tc.seq sq1, atI_nat (j := 2) rfl, Nat.zero_le _, fun t0 ht0 => ?_⟩
          have st0 : Same Hc (upd Hc t0 (.tup [])) := same_new ht0
          have et0 : (upd Hc t0 (.tup [])) t0 = some (.tup []) := upd_same
          generalize upd Hc t0 (.tup []) = Hd at st0 et0
          have tc0 : TK H1 Hd := TK.same (smc.trans st0)
          refine reg (tc0.seq sq2) (SqT.of et0) ⟨_, rfl, ite2 (fun e => ?_) (fun e => ?_)⟩
          · have he : x.2.2 = [] := of_decide_eq_true e
            refine ⟨_, rfl, a, _, 1, _, rfl, rfl, tc0.seq sq1, atI_nat (j := 1) rfl, _, st0 _ _ hacc, small1000 (by omega), ?_, same_mut (smc.trans st0) hD0⟩
            rw [upd_same, step, if_pos (by rw [hk, he]; simp)]
            unfold ivs
            rw [List.map_append]
            rfl
          · exact skip (fun z => by
              rw [Bool.and_eq_true] at z
              exact e (decide_eq_true (List.isEmpty_iff.mp z.2))) st0
        · exact skip (fun z => by
            rw [Bool.and_eq_true] at z
            refine e (decide_eq_true ?_)
            rw [eq_of_beq z.1]) (Same.refl _)
      rintro H2 ⟨hD2, sm2⟩
      rw [hlw, List.take_length] at hD2
      refine gn_norm (σ' := [some (.ref lg), some (.ref lw), some (.ref lk), s3, s4, s5, s6, s7, none, some (.ref l9), some (.int (i : Nat)), some (.ref ag), some (.int (cnt ws i : Nat)), some (.ref D), s14]) rfl ?_
      -- the turns
      refine ⟨_, rfl, lg, rfl, ⟨_, SqL.of (sm2 _ _ hgv)⟩, for_list (K := K) (a := lg) (xs := gv) (fun t σ Hc => ∃ (c : Addr) (s14 : Option V), σ = [some (.ref lg), some (.ref lw), some (.ref lk), s3, s4, s5, s6, s7, none, some (.ref l9), some (.int (i : Nat)), some (.ref ag), some (.int (cnt ws i : Nat)), some (.ref c), s14] ∧ Hc c = some (.lst (ivs (comeN ws i t))) ∧ Same H1 Hc)
        ⟨D, _, rfl, hD2, sm2⟩ (fun t σ Hc _ ⟨_, _, _, _, sm⟩ => SqL.of (sm _ _ hgv)) ?_ ?_⟩
      · rintro t v σ H3 hv ⟨c, s14', rfl, hc, sm3⟩
        have htl : t < gs.length := by
          have := (List.getElem?_eq_some_iff.mp hv).1
          omega
        refine gn_norm (σ' := [some (.ref lg), some (.ref lw), some (.ref lk), s3, s4, s5, s6, s7, none, some (.ref l9), some (.int (i : Nat)), some (.ref ag), some (.int (cnt ws i : Nat)), some (.ref c), some v]) rfl ?_
        refine ⟨_, rfl, _, rfl, lw, rfl, ⟨_, SqL.of (sm3 _ _ hwv)⟩, fun D hD => ?_⟩
        have hD0 : H1 D = none := sm3.free hD
        have ncD : c ≠ D := ne_of_none hc hD
        have hcl : (comeN ws i t).length ≤ 8190 := by
          have h1 := come_len (ws := ws) (k := i) t
          have h2 : ws.length * (t + 1) ≤ 90 * 91 := Nat.mul_le_mul hwl (by omega)
          omega
        generalize hC : comeN ws i t = C at hc hcl
        refine lc_list (K := K) (a := lw) (xs := wv) (fun j Hc => Hc D = some (.lst (ivs (((ws.take j).filter fun x => C.contains x.1 && (x.2.2.isEmpty && !C.contains x.2.1)).map fun x => x.2.1))) ∧ Hc c = some (.lst (ivs C)) ∧ Same H1 Hc) ⟨upd_same, same_new hD _ _ hc, sm3.trans (same_new hD)⟩ (fun j Hc _ ⟨_, _, sm⟩ => SqL.of (sm _ _ hwv)) ?_ ?_
        · rintro j v Hc hv ⟨hacc, hcc, smc⟩
          obtain ⟨x, hx, a, b, rfl, sq1, sq2⟩ := hwa.get hv
          have hj : j < ws.length := (List.getElem?_eq_some_iff.mp hx).1
          have tc : TK H1 Hc := TK.same smc
          have step := fm_take (p := fun x : Wr => C.contains x.1 && (x.2.2.isEmpty && !C.contains x.2.1)) (f := fun x : Wr => x.2.1) hx
          have hl0 : (ivs (((ws.take j).filter fun x => C.contains x.1 && (x.2.2.isEmpty && !C.contains x.2.1)).map fun x => x.2.1)).length ≤ 90 := by
            unfold ivs
            rw [List.length_map, List.length_map]
            have h1 := List.length_filter_le (fun x : Wr => C.contains x.1 && (x.2.2.isEmpty && !C.contains x.2.1)) (ws.take j)
            rw [List.length_take] at h1
            omega
          have skip : ¬ (C.contains x.1 && (x.2.2.isEmpty && !C.contains x.2.1)) = true → ∀ {Hd : Hp}, Same Hc Hd → Hd D = some (.lst (ivs (((ws.take (j + 1)).filter fun x => C.contains x.1 && (x.2.2.isEmpty && !C.contains x.2.1)).map fun x => x.2.1))) ∧ Hd c = some (.lst (ivs C)) ∧ Same H1 Hd := fun h {Hd} s => by
            rw [step, if_neg h, List.append_nil]
            exact ⟨s _ _ hacc, s _ _ hcc, smc.trans s⟩
          have con : ∀ k : Nat, C.contains k = decide (k ∈ C) := fun k => by
            rw [Bool.eq_iff_iff, List.contains_iff_mem, decide_eq_true_iff]
          refine ⟨rfl, ?_⟩
          refine ⟨_, rfl, a, _, 0, _, rfl, rfl, tc.seq sq1, atI_nat (j := 0) rfl, _, rfl, c, _, rfl, .inl (SqL.of hcc), rfl, flat_ivs _, _, rfl, ite2 (fun e => ?_) (fun e => iteF ?_)⟩
          · have hk : x.1 ∈ C := by
              rw [inv_ivs] at e
              exact of_decide_eq_true e
            refine ⟨_, rfl, a, _, 2, _, rfl, rfl, tc.seq sq1, atI_nat (j := 2) rfl, Nat.zero_le _, fun t0 ht0 => ?_⟩
            have st0 : Same Hc (upd Hc t0 (.tup [])) := same_new ht0
            have et0 : (upd Hc t0 (.tup [])) t0 = some (.tup []) := upd_same
            generalize upd Hc t0 (.tup []) = Hd at st0 et0
            have tc0 : TK H1 Hd := TK.same (smc.trans st0)
            refine reg (tc0.seq sq2) (SqT.of et0) ⟨_, rfl, ite2 (fun e => ?_) (fun e => iteF ?_)⟩
            · have he : x.2.2 = [] := of_decide_eq_true e
              refine ⟨_, rfl, a, _, 1, _, rfl, rfl, tc0.seq sq1, atI_nat (j := 1) rfl, _, rfl, c, _, rfl, .inl (SqL.of (st0 _ _ hcc)), rfl, flat_ivs _, !decide (x.2.1 ∈ C), (by rw [← inv_ivs]; rfl), ite2 (fun e2 => ?_) (fun e2 => ?_)⟩
              · have hn : x.2.1 ∉ C := by simpa using e2
                refine ⟨_, rfl, a, _, 1, _, rfl, rfl, tc0.seq sq1, atI_nat (j := 1) rfl, _, st0 _ _ hacc, small1000 (by omega), ?_, ?_, same_mut (smc.trans st0) hD0⟩
                · rw [upd_same, step, if_pos (by rw [con, con, decide_eq_true hk, decide_eq_false hn, he]; rfl)]
                  unfold ivs
                  rw [List.map_append]
                  rfl
                · rw [upd_ne ncD]
                  exact st0 _ _ hcc
              · exact skip (fun z => by
                  rw [Bool.and_eq_true, Bool.and_eq_true, con x.2.1] at z
                  exact e2 z.2.2) st0
            · exact skip (fun z => by
                rw [Bool.and_eq_true, Bool.and_eq_true] at z
                exact e (decide_eq_true (List.isEmpty_iff.mp z.2.1))) st0
          · exact skip (fun z => by
              rw [Bool.and_eq_true, con x.1, ← inv_ivs] at z
              exact e z.1) (Same.refl _)
        rintro H4 ⟨hD4, hc4, sm4⟩
        rw [hlw, List.take_length] at hD4
        refine ⟨c, D, _, _, rfl, rfl, hc4, hD4, ?_, fun p hp => ?_⟩
        · have h1 := List.length_filter_le (fun x : Wr => C.contains x.1 && (x.2.2.isEmpty && !C.contains x.2.1)) ws
          unfold ivs
          rw [List.length_map, List.length_map, List.length_map]
          exact Nat.le_of_lt (smallB (by omega))
        refine ⟨p, _, rfl, ?_, sm4.trans (same_new hp)⟩
        rw [upd_same]
        show _ = some (HO.lst (ivs (comeS ws (comeN ws i t))))
        rw [hC]
        unfold comeS ivs
        rw [List.map_append]
      -- k in come
      rintro σ H5 ⟨c, s14', rfl, hc, sm5'⟩
      rw [hlg] at hc
      have hcl : (comeN ws i gs.length).length ≤ 8190 := by
        have h1 := come_len (ws := ws) (k := i) gs.length
        have h2 : ws.length * (gs.length + 1) ≤ 90 * 91 := Nat.mul_le_mul hwl (by omega)
        omega
      refine ⟨_, rfl, _, rfl, c, _, rfl, .inl (SqL.of hc), rfl, flat_ivs _, _, rfl, ite2 (fun e => ?_) (fun e => ?_)⟩
      · rw [if_neg (by decide), inv_ivs] at e
        have hm : i ∈ comeN ws i gs.length := of_decide_eq_true e
        refine no H5 (sm1B.trans sm5') fun N => ?_
        have h1 := ranked_none (n := gs.length) N.rank
        unfold hasRing at h1
        rw [List.any_eq_false] at h1
        exact h1 i (List.mem_range.mpr hgi) (List.contains_iff_mem.mpr hm)
      · rw [if_neg (by decide), inv_ivs] at e
        refine ⟨_, _, _, _, _, rfl, sm5' _ _ h91, sm1B.trans sm5', fun k hk => ?_⟩
        by_cases h : k < i
        · exact hno k h
        · have : k = i := by omega
          subst this
          refine ⟨fun z => c1 (by rw [← ki, z]), fun z => c2 (by rw [← ki, z]), ?_⟩
          cases z : (comeN ws k gs.length).contains k with
          | true => exact absurd (decide_eq_true (List.contains_iff_mem.mp z)) e
          | false => rfl
    · rintro σ Hc ⟨s10, s11, s12, s13, s14, rfl, h9c, smc, hno⟩
      rw [hlg] at hno
      refine q true Hc smc ⟨fun _ => ?_, fun _ => rfl⟩
      refine ⟨hne, by omega, by omega, hok, hwok, fun e he => (hno e he).1, fun e he => (hno e he).2.1, ring_free (n := gs.length) (fun x hx => ⟨(hwok x hx).s, (hwok x hx).e⟩) ?_⟩
      unfold hasRing
      rw [List.any_eq_false]
      intro k hk
      rw [(hno k (List.mem_range.mp hk)).2.2]
      exact Bool.false_ne_true
end
end Lag

set_option maxRecDepth 100000
set_option maxHeartbeats 8000000
namespace L2
open PySem PySem.Spec PyProof.Rows
def repS (t : Str) (k : Nat) : Str := ⟨(List.replicate k t.cps).foldl (fun a b => a ++ b) #[]⟩
theorem repS_len (t : Str) : ∀ (k : Nat), (repS t k).length = k * t.length := by
  have gen : ∀ (k : Nat) (a : Array Nat), ((List.replicate k t.cps).foldl (fun a b => a ++ b) a).size = a.size + k * t.cps.size := by
    intro k
    induction k with
    | zero => intro a; simp
    | succ k ih =>
      intro a
      rw [List.replicate_succ, List.foldl_cons, ih, Array.size_append, Nat.succ_mul]
      omega
  intro k
  have := gen k #[]
  show ((List.replicate k t.cps).foldl (fun a b => a ++ b) #[]).size = _
  rw [this]
  show 0 + _ = _
  rw [Nat.zero_add]
  rfl
/-- a text times a number above one -/
theorem op_repS {X : Cx} : OpR X (binaryOp .Mult) (fun x y H Q => ∃ (t : Str) (k : Nat), x = .str t ∧ y = .int k ∧ 2 ≤ k ∧ 1 ≤ t.length ∧ t.length * k ≤ sizeLine ∧ Q (.str (repS t k)) H) := by
  intro pins s σ H x y v u Q I rx ry h
  obtain ⟨t, k, rfl, rfl, h2, h1, hz, q⟩ := h
  obtain ⟨tk, rfl⟩ := rx
  obtain ⟨tk', rfl⟩ := ry
  have hk : k ≤ sizeLine := Nat.le_trans (Nat.le_mul_of_pos_left k h1) hz
  have hsz : sizeLine = 16777216 := by decide
  have hl1 : t.length ≤ sizeLine := Nat.le_trans (Nat.le_mul_of_pos_right t.length (by omega)) hz
  have n1 : ¬ ((k : Int) < 1) := by omega
  have n2 : ((k : Int) == 1 || t.length == 0) = false := by
    have e1 : ((k : Int) == 1) = false := by
      rw [beq_eq_false_iff_ne]
      omega
    have e2 : (t.length == 0) = false := by
      rw [beq_eq_false_iff_ne]
      omega
    rw [e1, e2]
    rfl
  have notLong : Builtin.Str.tooLong (t.length * (k : Int).toNat) = false := by
    unfold Builtin.Str.tooLong
    rw [Int.toNat_natCast]
    exact decide_eq_false (by omega)
  refine PySem.P.mul_str ?_ ?_ ?_ ?_
  · have a : ¬ ((k : Int) < -(2 ^ 63 : Int)) := by omega
    have b : ¬ ((k : Int) ≥ 2 ^ 63) := by omega
    rw [decide_eq_false a, decide_eq_false b]
    rfl
  · intro _ _ z
    have h3 : ((t.length * k : Nat) : Int) ≤ 16777216 := by omega
    rw [Int.natCast_mul] at h3
    have hlt : ((2 ^ 63 - 1 : Int) / (k : Int)) < (t.length : Int) := z
    have := (Int.ediv_lt_iff_lt_mul (show (0 : Int) < (k : Int) by omega)).mp hlt
    omega
  · intro _ _
    exact notLong
  · rw [if_neg n1, if_neg (by rw [n2]; exact Bool.false_ne_true)]
    refine ⟨?_, ?_⟩
    · show (repS t (k : Int).toNat).length ≤ sizeLine
      rw [Int.toNat_natCast, repS_len, Nat.mul_comm]
      exact hz
    · rw [Int.toNat_natCast]
      exact ⟨.str (repS t k), H, I.tok _, ⟨_, rfl⟩, q⟩
end L2
namespace Lag
open PySem PySem.Spec PyProof.Rows L2
/-! ### the bounds of what is spoilt -/
def cb (r : Str) : Nat := (LW.ws r).count 32
def sumL (l : List Str) : Nat := (l.map (·.length)).sum
theorem joinL_count {c : Nat} : ∀ {l : List (List Nat)}, l ≠ [] → (∀ p ∈ l, c ∉ p) → (TL.joinL [c] l).count c + 1 = l.length
  | [], h, _ => absurd rfl h
  | [p], _, h => by
    show p.count c + 1 = 1
    rw [List.count_eq_zero.mpr (h p (by simp))]
  | p :: q :: r, _, h => by
    show (p ++ ([c] ++ TL.joinL [c] (q :: r))).count c + 1 = _
    rw [List.count_append, List.count_append, List.count_eq_zero.mpr (h p (by simp))]
    have := joinL_count (l := q :: r) (by simp) fun a ha => h a (List.mem_cons_of_mem _ ha)
    have e : [c].count c = 1 := by simp
    have e3 : (p :: q :: r).length = (q :: r).length + 1 := rfl
    rw [e, e3]
    omega
theorem words_count (r : Str) : (Txt.split r " ").length = cb r + 1 := by
  have h := joinL_count (c := 32) (l := (Txt.split r " ").map TL.tl) (fun z => LW.words_ne r (List.map_eq_nil_iff.mp z)) (fun p hp => by
    obtain ⟨u, hu, rfl⟩ := List.mem_map.mp hp
    exact LW.words_free hu)
  have e : TL.joinL [32] ((Txt.split r " ").map TL.tl) = LW.ws r := by
    have := congrArg TL.tl (LW.words_join r)
    rw [TL.join_eq, TL.tl_join, tl_blank] at this
    exact this
  rw [e, List.length_map] at h
  exact h.symm
structure RowB (B W : Nat) (r : Str) : Prop where
  len : r.length ≤ B
  cb : cb r ≤ W
  asc : LW.Asc r
  nf : 10 ∉ LW.ws r
structure Bd (B R W : Nat) (t : Str) : Prop where
  rows : (Txt.split t "\n").length ≤ R
  row : ∀ r ∈ Txt.split t "\n", RowB B W r
theorem RowB.mono {B W B' W' : Nat} {r : Str} (h : RowB B W r) (hb : B ≤ B') (hw : W ≤ W') : RowB B' W' r := ⟨Nat.le_trans h.len hb, Nat.le_trans h.cb hw, h.asc, h.nf⟩
theorem feedS : ("\n" : Str) = { cps := #[10] } := by decide +kernel
theorem rows_join2 (t : Str) : Txt.join "\n" (Txt.split t "\n") = t := by
  rw [TL.join_eq]
  exact StrLaws.join_split t _
theorem Bd.asc {B R W : Nat} {t : Str} (h : Bd B R W t) : LW.Asc t := by
  have := LW.Asc.join (y := "\n") (l := Txt.split t "\n") (by
    have : ∀ c ∈ LW.ws ("\n" : Str), c < 128 := by decide +kernel
    exact this) fun p hp => (h.row p hp).asc
  rw [rows_join2] at this
  exact this
theorem sum_bd {l : List Str} {b : Nat} (h : ∀ p ∈ l, p.length ≤ b) : sumL l ≤ l.length * b := sum_le h
theorem Bd.tb {B R W : Nat} {t : Str} (h : Bd B R W t) (hR : R ≤ 90) (hW : W ≤ 49) (hz : R * (B + 1) ≤ 20000) : TextB t := by
  refine ⟨?_, Nat.le_trans h.rows hR, fun r hr => by rw [words_count]; have := (h.row r hr).cb; omega⟩
  have h1 := join_len "\n" (Txt.split t "\n")
  rw [rows_join2] at h1
  have h2 : sumL (Txt.split t "\n") ≤ _ := sum_bd fun p hp => (h.row p hp).len
  have h3 : ("\n" : Str).length = 1 := by decide +kernel
  rw [h3] at h1
  have h4 : (Txt.split t "\n").length * (B + 1) ≤ R * (B + 1) := Nat.mul_le_mul_right _ h.rows
  rw [Nat.mul_succ] at h4
  unfold sumL at h2
  omega
theorem empty_split : Txt.split "" "\n" = ([""] : List Str) := by decide +kernel
theorem row_empty {B W : Nat} : RowB B W "" := ⟨by show 0 ≤ B; omega, Nat.le_trans (show cb "" ≤ 0 by decide +kernel) (Nat.zero_le _), fun c h => (by
    have : ∀ c ∈ LW.ws ("" : Str), c < 128 := by decide +kernel
    exact this c h), by decide +kernel⟩
/-- rows joined -/
theorem bd_join {B R W : Nat} {l : List Str} (hR : 1 ≤ R) (hl : l.length ≤ R) (h : ∀ p ∈ l, RowB B W p) : Bd B R W (Txt.join "\n" l) := by
  by_cases ne : l = []
  · subst ne
    have e : Txt.join "\n" ([] : List Str) = "" := by decide +kernel
    rw [e]
    refine ⟨by rw [empty_split]; exact hR, fun r hr => ?_⟩
    rw [empty_split, List.mem_singleton] at hr
    rw [hr]
    exact row_empty
  · have e : Txt.split (Txt.join "\n" l) "\n" = l := TL.split_join tl_feed feed_all ne fun p hp => (h p hp).nf
    refine ⟨by rw [e]; exact hl, fun r hr => ?_⟩
    rw [e] at hr
    exact h r hr
theorem joinL_count_le {c : Nat} : ∀ {l : List (List Nat)}, (∀ p ∈ l, c ∉ p) → (TL.joinL [c] l).count c ≤ l.length - 1
  | [], _ => by simp [TL.joinL]
  | p :: r, h => by
    have := joinL_count (l := p :: r) (by simp) h
    rw [List.length_cons] at this ⊢
    omega
/-- what words of a row may be -/
structure WordB (B : Nat) (u : Str) : Prop where
  len : u.length ≤ B
  asc : LW.Asc u
  nb : 32 ∉ LW.ws u
  nf : 10 ∉ LW.ws u
theorem RowB.words {B W : Nat} {r : Str} (h : RowB B W r) : ∀ u ∈ Txt.split r " ", WordB B u := fun u hu => ⟨Nat.le_trans (piece_len (by decide +kernel) hu) h.len, h.asc.piece hu, LW.words_free hu, fun z => h.nf (LW.mem_piece hu z)⟩
/-- words joined -/
theorem row_join {B W L : Nat} {l : List Str} (h : ∀ u ∈ l, WordB B u) (hl : l.length ≤ W + 1) (hz : sumL l + l.length ≤ L) : RowB L W (Txt.join " " l) := by
  refine ⟨?_, ?_, ?_, ?_⟩
  · have h1 := join_len " " l
    rw [blank_len] at h1
    unfold sumL at hz
    omega
  · unfold cb
    show (TL.tl (Txt.join " " l)).count 32 ≤ W
    rw [TL.join_eq, TL.tl_join, tl_blank]
    have := joinL_count_le (c := 32) (l := l.map TL.tl) fun p hp => by
      obtain ⟨u, hu, rfl⟩ := List.mem_map.mp hp
      exact (h u hu).nb
    rw [List.length_map] at this
    omega
  · refine LW.Asc.join ?_ fun p hp => (h p hp).asc
    have : ∀ c ∈ LW.ws (" " : Str), c < 128 := by decide +kernel
    exact this
  · exact join_free (by decide +kernel) fun p hp => (h p hp).nf
theorem RowB.sum {B W : Nat} {r : Str} (h : RowB B W r) : sumL (Txt.split r " ") + (Txt.split r " ").length ≤ B + 1 := by
  have := PyProof.Rows.split_weight r " " (by decide +kernel)
  have := h.len
  unfold sumL
  omega
theorem sum_take (l : List Str) (i j : Nat) (h : i ≤ j) : sumL (l.take i) + sumL (l.drop j) ≤ sumL l := by
  have e : sumL l = sumL (l.take i) + sumL (l.drop i) := by
    unfold sumL
    rw [← List.sum_append, ← List.map_append, List.take_append_drop]
  have e2 : sumL (l.drop i) = sumL ((l.drop i).take (j - i)) + sumL (l.drop j) := by
    unfold sumL
    rw [← List.sum_append, ← List.map_append]
    have : l.drop j = (l.drop i).drop (j - i) := by
      rw [List.drop_drop]
      congr 1
      omega
    rw [this, List.take_append_drop]
  omega
theorem sum_app (a b : List Str) : sumL (a ++ b) = sumL a + sumL b := by
  unfold sumL
  rw [List.map_append, List.sum_append]
/-- words with one put in between -/
theorem row_put {B W : Nat} {r u : Str} {i j : Nat} (h : RowB B W r) (hu : WordB (max B 61) u) (hij : i ≤ j) : RowB (B + max B 61 + 2) (W + 1) (Txt.join " " ((Txt.split r " ").take i ++ [u] ++ (Txt.split r " ").drop j)) := by
  have hs := h.sum
  have hw := h.words
  have hc := words_count r
  have hcb := h.cb
  generalize Txt.split r " " = U at hs hw hc
  refine row_join (B := max B 61) (fun v hv => ?_) ?_ ?_
  · rcases List.mem_append.mp hv with hv | hv
    · rcases List.mem_append.mp hv with hv | hv
      · have := hw v (List.mem_of_mem_take hv)
        exact ⟨Nat.le_trans this.len (Nat.le_max_left ..), this.asc, this.nb, this.nf⟩
      · rw [List.mem_singleton.mp hv]
        exact hu
    · have := hw v (List.mem_of_mem_drop hv)
      exact ⟨Nat.le_trans this.len (Nat.le_max_left ..), this.asc, this.nb, this.nf⟩
  · rw [List.length_append, List.length_append, List.length_take, List.length_drop]
    show _ + 1 + _ ≤ _
    omega
  · rw [sum_app, sum_app, List.length_append, List.length_append, List.length_take, List.length_drop]
    have := sum_take U i j hij
    have e : sumL [u] = u.length := by
      unfold sumL
      simp
    have := hu.len
    rw [e]
    show _ + (_ + 1 + _) ≤ _
    omega
theorem row_cut {B W : Nat} {r : Str} {i j : Nat} (h : RowB B W r) (hij : i ≤ j) : RowB (B + max B 61 + 2) (W + 1) (Txt.join " " ((Txt.split r " ").take i ++ (Txt.split r " ").drop j)) := by
  have hs := h.sum
  have hw := h.words
  have hc := words_count r
  have hcb := h.cb
  generalize Txt.split r " " = U at hs hw hc
  refine row_join (B := B) (fun v hv => ?_) ?_ ?_
  · rcases List.mem_append.mp hv with hv | hv
    · exact hw v (List.mem_of_mem_take hv)
    · exact hw v (List.mem_of_mem_drop hv)
  · rw [List.length_append, List.length_take, List.length_drop]
    omega
  · rw [sum_app, List.length_append, List.length_take, List.length_drop]
    have := sum_take U i j hij
    omega
/-! ### _law_odd -/
abbrev sOdd : Stmt := topS 50 -- @_law_odd
abbrev odd18 : List Str := ["", "00", "01", "-1", "-0", "+1", "1.", "x", "IN", "in", "out", "sum", "first", "97", "101", "7", "0", "12"]
abbrev odd26 (x : Str) : List Str := odd18 ++ (["gate", "wire", "Gate", repS "1" 61, x, "not", "1,2", "~"] : List Str)
theorem odd_ok : ∀ u ∈ odd26 "x", WordB 61 u := by
  have h : ∀ u ∈ odd26 "x", u.length ≤ 61 ∧ (LW.ws u).all (fun c => decide (c < 128 ∧ c ≠ 32 ∧ c ≠ 10)) = true := by decide +kernel
  exact fun u hu => by
    have k := fun c hc => of_decide_eq_true (List.all_eq_true.mp (h u hu).2 c hc)
    exact ⟨(h u hu).1, fun c hc => (k c hc).1, fun z => (k 32 z).2.1 rfl, fun z => (k 10 z).2.2 rfl⟩
theorem odd_or {x u : Str} (h : u ∈ odd26 x) : WordB 61 u ∨ u = x := by
  rcases List.mem_append.mp h with h | h
  · exact .inl (odd_ok u (List.mem_append_left _ h))
  · simp only [List.mem_cons, List.not_mem_nil, or_false] at h
    rcases h with h | h | h | h | h | h | h | h
    all_goals first
      | exact .inr h
      | exact .inl (odd_ok u (List.mem_append_right _ (by rw [h]; simp)))
def spOdd (K : PySem.W.Frag) : Sp := fun vs H Q _ => ∃ (wl l : Addr) (U : List Str), vs = [.ref wl, .ref l] ∧ WellAt wl H ∧ l ≠ wl ∧ H l = some (.lst (strV U)) ∧ U ≠ [] ∧ U.length ≤ 900 ∧ ∀ (u : Str) H', (WordB 61 u ∨ u ∈ U) → Dr wl H H' → Q (.str u) H'
section
variable {P : Program} {w : World} {K : PySem.W.Frag} {mg : Str → Option Value} {base : Heap}
abbrev nOdd : List Str := ["_law_well_here", "_law_words", "_law_some"]
theorem scOdd : FnScope nOdd ["_law_well_here", "_law_words"] (defScope sOdd) := ⟨rfl, rfl, rfl, by decide +kernel, rfl, by decide +kernel, by decide +kernel⟩
theorem ok_odd {f fD fO : Addr} {fd fdD fdO : FuncData} (F : Fun K "_law_odd" "_law_odd" sOdd f fd) (B : Bt mg) (DD : DDraw P w K mg base fD fdD) (DOn : DOne P w K mg base fO fdO) : FnOk P w K mg base CX0 3 f fd ["_law_well_here", "_law_words"] (spOdd K) := by
  refine F.ok scOdd (fun vs H Q E h => ?_) (fun cdv A outer s H vs Q E hr h => ?_)
  · obtain ⟨wl, l, U, rfl, _⟩ := h
    rfl
  · obtain ⟨wl, l, U, rfl, hw, hlw, hl, hne, hU, q⟩ := h
    have nd := scOdd.nd
    refine ⟨_, pss_cons (ps_set (i := 2) nd rfl (.inl rfl) (pe_lst (pa_cons pe_str (pa_cons pe_str (pa_cons pe_str (pa_cons pe_str (pa_cons pe_str (pa_cons pe_str (pa_cons pe_str (pa_cons pe_str (pa_cons pe_str (pa_cons pe_str (pa_cons pe_str (pa_cons pe_str (pa_cons pe_str (pa_cons pe_str (pa_cons pe_str (pa_cons pe_str (pa_cons pe_str (pa_cons pe_str pa_nil)))))))))))))))))))) <|
        pss_cons (ps_set (i := 2) nd rfl (.inl rfl) (pe_op op_cat (pv 2) (pe_lst (pa_cons pe_str (pa_cons pe_str (pa_cons pe_str (pa_cons (pe_op op_repS pe_str pe_int) (pa_cons (pe_ix ix_list (pv 1) (pe_call DD.ok (hr.mono (by decide)) (by rfl) DD.mg DD.kp DD.bd .nil pass0 (pa_cons (pv 0) (pa_cons (pe_callB call_len_seq (by rfl) B.len PySem.boot_len (pa_cons (pv 1) pa_nil)) pa_nil))) (fun _ _ => rfl)) (pa_cons pe_str (pa_cons pe_str (pa_cons pe_str pa_nil))))))))))) <|
        pss_one (ps_ret (pe_call DOn.ok (hr.mono (by decide)) (by rfl) DOn.mg DOn.kp DOn.bd .nil pass0 (pa_cons (pv 0) (pa_cons (pv 2) pa_nil)))), ?_⟩
    refine ⟨(by show 18 ≤ sizeLine; decide), fun l2 hl2 => ?_⟩
    have n2 : l2 ≠ wl := (hw.ne hl2).symm
    have E2 : Dr wl H (upd H l2 (.lst (strV odd18))) := Dr.new (o := .lst (strV odd18)) hw hl2
    have e2 : (upd H l2 (.lst (strV odd18))) l2 = some (.lst (strV odd18)) := upd_same
    have s2 : Same H (upd H l2 (.lst (strV odd18))) := same_new hl2
    show _
    refine gn_norm (σ' := [some (.ref wl), some (.ref l), some (.ref l2)]) rfl ?_
    have hl2' := s2 _ _ hl
    have d26 : (upd H l2 (.lst (strV odd18))) = (upd H l2 (.lst [.str "", .str "00", .str "01", .str "-1", .str "-0", .str "+1", .str "1.", .str "x", .str "IN", .str "in", .str "out", .str "sum", .str "first", .str "97", .str "101", .str "7", .str "0", .str "12"])) := rfl
    rw [d26] at E2 e2 s2 hl2'
    generalize upd H l2 (.lst [.str "", .str "00", .str "01", .str "-1", .str "-0", .str "+1", .str "1.", .str "x", .str "IN", .str "in", .str "out", .str "sum", .str "first", .str "97", .str "101", .str "7", .str "0", .str "12"]) = H2 at E2 e2 s2 hl2'
    have hp : 0 < U.length := List.length_pos_iff.mpr hne
    refine ⟨_, rfl, _, 61, rfl, rfl, by decide, by decide +kernel, by decide +kernel, _, rfl, _, rfl, _, rfl, l, _, rfl, .inl (SqL.of hl2'), wl, _, rfl, by rw [List.length_map]; omega, by rw [List.length_map]; omega, E2.well, fun d H3 d0 d1 E3 => ?_⟩
    rw [List.length_map] at d1
    have hj : d.toNat < U.length := by omega
    have hl3 := E3.but _ _ hlw hl2'
    have e23 := E3.but _ _ n2 e2
    refine ⟨l, _, d, .str U[d.toNat], rfl, rfl, SqL.of hl3, at_of (j := d.toNat) (by omega) (by rw [List.getElem?_map, List.getElem?_eq_getElem hj]; rfl), (by show 8 ≤ sizeLine; decide), fun l4 hl4 => ?_⟩
    have e24 := same_new (o := .lst (strV ["gate", "wire", "Gate", repS "1" 61, U[d.toNat], "not", "1,2", "~"])) hl4 _ _ e23
    have E4 := Dr.new (o := .lst (strV ["gate", "wire", "Gate", repS "1" 61, U[d.toNat], "not", "1,2", "~"])) E3.well hl4
    have e4 : (upd H3 l4 (.lst (strV ["gate", "wire", "Gate", repS "1" 61, U[d.toNat], "not", "1,2", "~"]))) l4 = some (.lst (strV ["gate", "wire", "Gate", repS "1" 61, U[d.toNat], "not", "1,2", "~"])) := upd_same
    refine ⟨l2, l4, _, _, rfl, rfl, e24, e4, (by show 26 ≤ sizeLine; decide), fun l5 hl5 => ?_⟩
    have E5 := Dr.new (o := .lst (strV (odd26 U[d.toNat]))) E4.well hl5
    have e5 : (upd (upd H3 l4 (.lst (strV ["gate", "wire", "Gate", repS "1" 61, U[d.toNat], "not", "1,2", "~"]))) l5 (.lst (strV (odd26 U[d.toNat])))) l5 = some (.lst (strV (odd26 U[d.toNat]))) := upd_same
    have n5 : l5 ≠ wl := (E4.well.ne hl5).symm
    refine gn_norm (σ' := [some (.ref wl), some (.ref l), some (.ref l5)]) rfl ?_
    refine ⟨_, rfl, _, rfl, wl, l5, strV (odd26 U[d.toNat]), rfl, n5, E5.well, SqL.of e5, by simp, by show 26 < 1000000; decide, fun v H6 hv E6 => ?_⟩
    obtain ⟨u, hu, rfl⟩ := List.mem_map.mp hv
    refine q u H6 ?_ ((((E2.trans E3).trans E4).trans E5).trans E6)
    rcases odd_or hu with h | h
    · exact .inl h
    · exact .inr (by rw [h]; exact List.getElem_mem hj)
end
end Lag

set_option maxRecDepth 100000
set_option maxHeartbeats 8000000
namespace Lag
open PySem PySem.Spec PyProof.Rows L2
theorem Dr.ofSame {w : Addr} {H H' : Hp} (W : WellAt w H) (s : Same H H') : Dr w H H' := ⟨But.same s, W.same s⟩
theorem strV_app (a b : List Str) : strV a ++ strV b = strV (a ++ b) := (List.map_append ..).symm
theorem cut_toS (U : List Str) (j : Nat) : cutV (strV U) none (some (j : Int)) = strV (U.take j) := (cut_to j).trans (List.map_take ..).symm
theorem cut_fromS (U : List Str) (j : Nat) : cutV (strV U) (some (j : Int)) none = strV (U.drop j) := (cut_from j).trans (List.map_drop ..).symm
theorem cut_fromS1 (U : List Str) (j : Nat) : cutV (strV U) (some ((j : Int) + 1)) none = strV (U.drop (j + 1)) := cut_fromS U (j + 1)
theorem cut_fromS2 (U : List Str) (j : Nat) : cutV (strV U) (some ((j : Int) + 2)) none = strV (U.drop (j + 2)) := cut_fromS U (j + 2)
theorem cat_size {a b : List Str} (ha : a.length ≤ 1000) (hb : b.length ≤ 1000) : (strV a).length + (strV b).length ≤ sizeLine := by
  rw [List.length_map, List.length_map]
  exact Nat.le_of_lt (smallB (by omega))
/-! ### _law_spoilt_row -/
abbrev sSpRow : Stmt := topS 51 -- @_law_spoilt_row
def spSpRow : Sp := fun vs H Q _ => ∃ (wl : Addr) (r : Str) (B W : Nat), vs = [.ref wl, .str r] ∧ WellAt wl H ∧ RowB B W r ∧ B ≤ 200 ∧ W ≤ 60 ∧ ∀ (r' : Str) H', RowB (B + max B 61 + 2) (W + 1) r' → Dr wl H H' → Q (.str r') H'
section
variable {P : Program} {w : World} {K : PySem.W.Frag} {mg : Str → Option Value} {base : Heap}
abbrev nSpRow : List Str := ["_law_well_here", "_law_row", "_law_words", "_law_at", "_law_way"]
theorem scSpRow : FnScope nSpRow ["_law_well_here", "_law_row"] (defScope sSpRow) := ⟨rfl, rfl, rfl, by decide +kernel, rfl, by decide +kernel, by decide +kernel⟩
abbrev DOdd (P : Program) (w : World) (K : PySem.W.Frag) (mg : Str → Option Value) (base : Heap) := Df P w K mg base 3 "_law_odd" ["_law_well_here", "_law_words"] (spOdd K)
theorem ok_spRow {f fD fO : Addr} {fd fdD fdO : FuncData} (F : Fun K "_law_spoilt_row" "_law_spoilt_row" sSpRow f fd) (BT : Bt mg) (DD : DDraw P w K mg base fD fdD) (DOd : DOdd P w K mg base fO fdO) : FnOk P w K mg base CX0 4 f fd ["_law_well_here", "_law_row"] spSpRow := by
  refine F.ok scSpRow (fun vs H Q E h => ?_) (fun cdv A outer s H vs Q E hr h => ?_)
  · obtain ⟨wl, r, _, _, rfl, _⟩ := h
    rfl
  · obtain ⟨wl, r, B, W, rfl, hw, hB, hB2, hW2, q⟩ := h
    have nd := scSpRow.nd
    refine ⟨_, pss_cons (ps_set (i := 2) nd rfl (.inl rfl) (pe_split (pv 1) pe_str)) <|
        pss_cons (ps_set (i := 3) nd rfl (.inl rfl) (pe_call DD.ok (hr.mono (by decide)) (by rfl) DD.mg DD.kp DD.bd .nil pass0 (pa_cons (pv 0) (pa_cons (pe_callB call_len_seq (by rfl) BT.len PySem.boot_len (pa_cons (pv 2) pa_nil)) pa_nil)))) <|
        pss_cons (ps_set (i := 4) nd rfl (.inl rfl) (pe_call DD.ok (hr.mono (by decide)) (by rfl) DD.mg DD.kp DD.bd .nil pass0 (pa_cons (pv 0) (pa_cons pe_int pa_nil)))) <|
        Evl.pss_cut (ps_if (pt_cmpR op_eq (pv 4) pe_int (nomark _)) (pss_one (ps_set (i := 2) nd rfl (.inl rfl) (pe_op op_cat (pe_slice sl_list (pv 2) po_none (po_some (pv 3))) (pe_slice sl_list (pv 2) (po_some (pe_op op_add (pv 3) pe_int)) po_none)))) (pss_one (ps_if (pt_cmpR op_eq (pv 4) pe_int (nomark _)) (pss_one (ps_set (i := 2) nd rfl (.inl rfl) (pe_op op_cat (pe_op op_cat (pe_slice sl_list (pv 2) po_none (po_some (pv 3))) (pe_lst (pa_cons (pe_ix ix_list (pv 2) (pv 3) (fun _ _ => rfl)) pa_nil))) (pe_slice sl_list (pv 2) (po_some (pv 3)) po_none)))) (pss_one (ps_if (pt_cmpR op_eq (pv 4) pe_int (nomark _)) (pss_one (ps_set (i := 2) nd rfl (.inl rfl) (pe_op op_cat (pe_op op_cat (pe_slice sl_list (pv 2) po_none (po_some (pv 3))) (pe_lst (pa_cons (pe_call DOd.ok (hr.mono (by decide)) (by rfl) DOd.mg DOd.kp DOd.bd .nil pass0 (pa_cons (pv 0) (pa_cons (pv 2) pa_nil))) pa_nil))) (pe_slice sl_list (pv 2) (po_some (pe_op op_add (pv 3) pe_int)) po_none)))) (pss_one (ps_if (pt_cmpR op_eq (pv 4) pe_int (nomark _)) (pss_one (ps_set (i := 2) nd rfl (.inl rfl) (pe_op op_cat (pe_op op_cat (pe_slice sl_list (pv 2) po_none (po_some (pv 3))) (pe_lst (pa_cons (pe_call DOd.ok (hr.mono (by decide)) (by rfl) DOd.mg DOd.kp DOd.bd .nil pass0 (pa_cons (pv 0) (pa_cons (pv 2) pa_nil))) pa_nil))) (pe_slice sl_list (pv 2) (po_some (pv 3)) po_none)))) (pss_one (ps_set (i := 2) nd rfl (.inl rfl) (pe_op op_cat (pv 2) (pe_lst (pa_cons (pe_call DOd.ok (hr.mono (by decide)) (by rfl) DOd.mg DOd.kp DOd.bd .nil pass0 (pa_cons (pv 0) (pa_cons (pv 2) pa_nil))) pa_nil)))))))))))) <|
        pss_one (ps_ret (pe_join pe_str (pv 2))), ?_⟩
    have hrl := hB.len
    refine ⟨_, rfl, ⟨_, rfl⟩, _, _, rfl, rfl, (by decide +kernel), size24 (by omega), fun l0 hl0 => ?_⟩
    have s0 : Same H (upd H l0 (.lst (strV (Txt.split r " ")))) := same_new hl0
    have hl : (upd H l0 (.lst (strV (Txt.split r " ")))) l0 = some (.lst (strV (Txt.split r " "))) := upd_same
    have n0 : l0 ≠ wl := (hw.ne hl0).symm
    generalize upd H l0 (.lst (strV (Txt.split r " "))) = H0 at s0 hl
    have E0' : Dr wl H H0 := Dr.ofSame hw s0
    refine gn_norm (σ' := [some (.ref wl), some (.str r), some (.ref l0), none, none]) rfl ?_
    have hne := LW.words_ne r
    have hUl : (Txt.split r " ").length ≤ 61 := by rw [words_count]; have := hB.cb; omega
    have wd0 := hB.words
    have hsum := hB.sum
    obtain ⟨U, hU⟩ : ∃ U, U = Txt.split r " " := ⟨_, rfl⟩
    rw [← hU] at hl hne hUl wd0 hsum
    have rc : ∀ {i j : Nat}, i ≤ j → RowB (B + max B 61 + 2) (W + 1) (Txt.join " " (U.take i ++ U.drop j)) ∧ sumL (U.take i ++ U.drop j) ≤ 100000 := fun h => ⟨by rw [hU]; exact row_cut hB h, by rw [sum_app]; have := sum_take U _ _ h; omega⟩
    have rp : ∀ {u : Str} {i j : Nat}, WordB (max B 61) u → i ≤ j → RowB (B + max B 61 + 2) (W + 1) (Txt.join " " (U.take i ++ [u] ++ U.drop j)) ∧ sumL (U.take i ++ [u] ++ U.drop j) ≤ 100000 := fun {u i j} h1 h2 => ⟨by rw [hU]; exact row_put hB h1 h2, by
      rw [sum_app, sum_app]
      have := sum_take U _ _ h2
      have e : sumL [u] = u.length := by
        unfold sumL
        simp
      have := h1.len
      omega⟩
    have wd : ∀ u, (WordB 61 u ∨ u ∈ U) → WordB (max B 61) u := fun u hu => by
      rcases hu with h | h
      · exact ⟨Nat.le_trans h.len (Nat.le_max_right ..), h.asc, h.nb, h.nf⟩
      · have h := wd0 u h
        exact ⟨Nat.le_trans h.len (Nat.le_max_left ..), h.asc, h.nb, h.nf⟩
    have hpos : 0 < U.length := List.length_pos_iff.mpr hne
    refine ⟨_, rfl, _, rfl, l0, _, rfl, .inl (SqL.of hl), wl, _, rfl, by rw [List.length_map]; omega, by rw [List.length_map]; omega, E0'.well, fun d HA d0 d1 EA => ?_⟩
    rw [List.length_map] at d1
    obtain ⟨j, rfl⟩ : ∃ j : Nat, d = j := ⟨d.toNat, by omega⟩
    have hj : j < U.length := by omega
    refine gn_norm (σ' := [some (.ref wl), some (.str r), some (.ref l0), some (.int (j : Nat)), none]) rfl ?_
    refine ⟨_, rfl, wl, 5, rfl, by decide, by decide, EA.well, fun y HB y0 y1 EB0 => ?_⟩
    refine gn_norm (σ' := [some (.ref wl), some (.str r), some (.ref l0), some (.int (j : Nat)), some (.int y)]) rfl ?_
    have hl := EB0.but _ _ n0 (EA.but _ _ n0 hl)
    have EB : Dr wl H HB := (E0'.trans EA).trans EB0
    refine ⟨fun σ H' => ∃ (p : Addr) (Vs : List Str), σ = [some (.ref wl), some (.str r), some (.ref p), some (.int (j : Nat)), some (.int y)] ∧ Dr wl H H' ∧ H' p = some (.lst (strV Vs)) ∧ Vs.length ≤ 100 ∧ RowB (B + max B 61 + 2) (W + 1) (Txt.join " " Vs) ∧ sumL Vs ≤ 100000, ?_, ?_⟩
    rotate_left
    · rintro σ H' ⟨p, Vs, rfl, EV, hV, hVl, hR, hS⟩
      refine ⟨⟨_, rfl⟩, _, rfl, " ", p, Vs, rfl, rfl, .inl (SqL.of hV), ?_, q _ H' hR EV⟩
      rw [blank_len]
      unfold sumL at hS
      omega
    have fin : ∀ (p : Addr) (Vs : List Str) (H' : Hp), Dr wl H H' → H' p = some (.lst (strV Vs)) → Vs.length ≤ 100 → (RowB (B + max B 61 + 2) (W + 1) (Txt.join " " Vs) ∧ sumL Vs ≤ 100000) → ∃ (p' : Addr) (Vs : List Str), ([some (.ref wl), some (.str r), some (.ref p), some (.int (j : Nat)), some (.int y)] : L2.St) = ([some (.ref wl), some (.str r), some (.ref p'), some (.int (j : Nat)), some (.int y)] : L2.St) ∧ Dr wl H H' ∧ H' p' = some (.lst (strV Vs)) ∧ Vs.length ≤ 100 ∧ RowB (B + max B 61 + 2) (W + 1) (Txt.join " " Vs) ∧ sumL Vs ≤ 100000 := fun p Vs H' EV hV hVl hR => by
      exact ⟨p, Vs, rfl, EV, hV, hVl, hR.1, hR.2⟩
    refine ⟨_, rfl, rfl, _, rfl, ite2 (fun _ => ?_) (fun _ => ?_)⟩
    · refine ⟨_, rfl, _, rfl, _, rfl, l0, _, rfl, SqL.of hl, fun p1 hp1 => ?_⟩
      rw [cut_toS]
      have s1 : Same HB (upd HB p1 (.lst (strV (U.take j)))) := same_new hp1
      have e1 : (upd HB p1 (.lst (strV (U.take j)))) p1 = some (.lst (strV (U.take j))) := upd_same
      have n1 : p1 ≠ wl := (EB.well.ne hp1).symm
      generalize upd HB p1 (.lst (strV (U.take j))) = H1 at s1 e1
      have E1 : Dr wl H H1 := EB.trans (Dr.ofSame EB.well s1)
      have hl1 := s1 _ _ hl
      have H3eq := e1
      refine ⟨_, rfl, _, rfl, _, _, rfl, rfl, _, rfl, l0, _, rfl, SqL.of hl1, fun p4 hp4 => ?_⟩
      rw [cut_fromS1]
      have s4 : Same H1 (upd H1 p4 (.lst (strV (U.drop (j + 1))))) := same_new hp4
      have e4 : (upd H1 p4 (.lst (strV (U.drop (j + 1))))) p4 = some (.lst (strV (U.drop (j + 1)))) := upd_same
      generalize upd H1 p4 (.lst (strV (U.drop (j + 1)))) = H4 at s4 e4
      have E4 : Dr wl H H4 := E1.trans (Dr.ofSame E1.well s4)
      refine ⟨p1, p4, _, _, rfl, rfl, s4 _ _ e1, e4, cat_size (by rw [List.length_take]; omega) (by rw [List.length_drop]; omega), fun p5 hp5 => ?_⟩
      rw [strV_app]
      exact fin p5 _ _ (E4.trans (Dr.new E4.well hp5)) upd_same (by simp only [List.length_append, List.length_take, List.length_drop, List.length_singleton]; omega) (rc (by omega))
    refine ⟨_, rfl, rfl, _, rfl, ite2 (fun _ => ?_) (fun _ => ?_)⟩
    · refine ⟨_, rfl, _, rfl, _, rfl, l0, _, rfl, SqL.of hl, fun p1 hp1 => ?_⟩
      rw [cut_toS]
      have s1 : Same HB (upd HB p1 (.lst (strV (U.take j)))) := same_new hp1
      have e1 : (upd HB p1 (.lst (strV (U.take j)))) p1 = some (.lst (strV (U.take j))) := upd_same
      have n1 : p1 ≠ wl := (EB.well.ne hp1).symm
      generalize upd HB p1 (.lst (strV (U.take j))) = H1 at s1 e1
      have E1 : Dr wl H H1 := EB.trans (Dr.ofSame EB.well s1)
      have hl1 := s1 _ _ hl
      refine ⟨_, rfl, _, rfl, l0, _, _, _, rfl, rfl, SqL.of hl1, atI_nat (j := j) (by rw [List.getElem?_map, List.getElem?_eq_getElem hj]; rfl), (by show 1 ≤ sizeLine; decide), fun p2 hp2 => ?_⟩
      have s2 : Same H1 (upd H1 p2 (.lst (strV [U[j]]))) := same_new hp2
      have e2 : (upd H1 p2 (.lst (strV [U[j]]))) p2 = some (.lst (strV [U[j]])) := upd_same
      obtain ⟨H2, hH2⟩ : ∃ H2, H2 = upd H1 p2 (.lst (strV [U[j]])) := ⟨_, rfl⟩
      rw [← hH2] at s2 e2
      have E2 : Dr wl H H2 := E1.trans (Dr.ofSame E1.well s2)
      have e12 := s2 _ _ e1
      have hl2 := s2 _ _ hl1
      show _
      generalize hH3 : upd H1 p2 (.lst [.str U[j]]) = H2z
      have hH4 : H2 = H2z := by rw [hH2, ← hH3]; rfl
      subst hH4
      clear hH2 hH3
      refine ⟨p1, p2, _, _, rfl, rfl, e12, e2, cat_size (by rw [List.length_take]; omega) (by show 1 ≤ 1000; decide), fun p3 hp3 => ?_⟩
      rw [strV_app]
      have s3 : Same H2 (upd H2 p3 (.lst (strV (U.take j ++ [U[j]])))) := same_new hp3
      have e3 : (upd H2 p3 (.lst (strV (U.take j ++ [U[j]])))) p3 = some (.lst (strV (U.take j ++ [U[j]]))) := upd_same
      generalize upd H2 p3 (.lst (strV (U.take j ++ [U[j]]))) = H3 at s3 e3
      have E3 : Dr wl H H3 := E2.trans (Dr.ofSame E2.well s3)
      have hl3 := s3 _ _ hl2
      refine ⟨_, rfl, _, rfl, _, rfl, l0, _, rfl, SqL.of hl3, fun p4 hp4 => ?_⟩
      rw [cut_fromS]
      have s4 : Same H3 (upd H3 p4 (.lst (strV (U.drop j)))) := same_new hp4
      have e4 : (upd H3 p4 (.lst (strV (U.drop j)))) p4 = some (.lst (strV (U.drop j))) := upd_same
      generalize upd H3 p4 (.lst (strV (U.drop j))) = H4 at s4 e4
      have E4 : Dr wl H H4 := E3.trans (Dr.ofSame E3.well s4)
      refine ⟨p3, p4, _, _, rfl, rfl, s4 _ _ e3, e4, cat_size (by rw [List.length_append, List.length_take]; show _ + 1 ≤ _; omega) (by rw [List.length_drop]; omega), fun p5 hp5 => ?_⟩
      rw [strV_app]
      exact fin p5 _ _ (E4.trans (Dr.new E4.well hp5)) upd_same (by simp only [List.length_append, List.length_take, List.length_drop, List.length_singleton]; omega) (rp (wd _ (.inr (List.getElem_mem hj))) (by omega))
    refine ⟨_, rfl, rfl, _, rfl, ite2 (fun _ => ?_) (fun _ => ?_)⟩
    · refine ⟨_, rfl, _, rfl, _, rfl, l0, _, rfl, SqL.of hl, fun p1 hp1 => ?_⟩
      rw [cut_toS]
      have s1 : Same HB (upd HB p1 (.lst (strV (U.take j)))) := same_new hp1
      have e1 : (upd HB p1 (.lst (strV (U.take j)))) p1 = some (.lst (strV (U.take j))) := upd_same
      have n1 : p1 ≠ wl := (EB.well.ne hp1).symm
      generalize upd HB p1 (.lst (strV (U.take j))) = H1 at s1 e1
      have E1 : Dr wl H H1 := EB.trans (Dr.ofSame EB.well s1)
      have hl1 := s1 _ _ hl
      refine ⟨_, rfl, _, rfl, wl, l0, U, rfl, E1.well, n0, hl1, hne, by omega, fun u H1' hu EO => ?_⟩
      have E1' := E1.trans EO
      have e11 := EO.but _ _ n1 e1
      have hl11 := EO.but _ _ n0 hl1
      have hub := wd u hu
      refine ⟨(by show 1 ≤ sizeLine; decide), fun p2 hp2 => ?_⟩
      have s2 : Same H1' (upd H1' p2 (.lst (strV [u]))) := same_new hp2
      have e2 : (upd H1' p2 (.lst (strV [u]))) p2 = some (.lst (strV [u])) := upd_same
      obtain ⟨H2, hH2⟩ : ∃ H2, H2 = upd H1' p2 (.lst (strV [u])) := ⟨_, rfl⟩
      rw [← hH2] at s2 e2
      have E2 : Dr wl H H2 := E1'.trans (Dr.ofSame E1'.well s2)
      have e12 := s2 _ _ e11
      have hl2 := s2 _ _ hl11
      show _
      generalize hH3 : upd H1' p2 (.lst [.str u]) = H2'
      have hH4 : H2 = H2' := by rw [hH2, ← hH3]; rfl
      subst hH4
      clear hH2 hH3
      refine ⟨p1, p2, _, _, rfl, rfl, e12, e2, cat_size (by rw [List.length_take]; omega) (by show 1 ≤ 1000; decide), fun p3 hp3 => ?_⟩
      rw [strV_app]
      have s3 : Same H2 (upd H2 p3 (.lst (strV (U.take j ++ [u])))) := same_new hp3
      have e3 : (upd H2 p3 (.lst (strV (U.take j ++ [u])))) p3 = some (.lst (strV (U.take j ++ [u]))) := upd_same
      generalize upd H2 p3 (.lst (strV (U.take j ++ [u]))) = H3 at s3 e3
      have E3 : Dr wl H H3 := E2.trans (Dr.ofSame E2.well s3)
      have hl3 := s3 _ _ hl2
      refine ⟨_, rfl, _, rfl, _, _, rfl, rfl, _, rfl, l0, _, rfl, SqL.of hl3, fun p4 hp4 => ?_⟩
      rw [cut_fromS1]
      have s4 : Same H3 (upd H3 p4 (.lst (strV (U.drop (j + 1))))) := same_new hp4
      have e4 : (upd H3 p4 (.lst (strV (U.drop (j + 1))))) p4 = some (.lst (strV (U.drop (j + 1)))) := upd_same
      generalize upd H3 p4 (.lst (strV (U.drop (j + 1)))) = H4 at s4 e4
      have E4 : Dr wl H H4 := E3.trans (Dr.ofSame E3.well s4)
      refine ⟨p3, p4, _, _, rfl, rfl, s4 _ _ e3, e4, cat_size (by rw [List.length_append, List.length_take]; show _ + 1 ≤ _; omega) (by rw [List.length_drop]; omega), fun p5 hp5 => ?_⟩
      rw [strV_app]
      exact fin p5 _ _ (E4.trans (Dr.new E4.well hp5)) upd_same (by simp only [List.length_append, List.length_take, List.length_drop, List.length_singleton]; omega) (rp hub (by omega))
    refine ⟨_, rfl, rfl, _, rfl, ite2 (fun _ => ?_) (fun _ => ?_)⟩
    · refine ⟨_, rfl, _, rfl, _, rfl, l0, _, rfl, SqL.of hl, fun p1 hp1 => ?_⟩
      rw [cut_toS]
      have s1 : Same HB (upd HB p1 (.lst (strV (U.take j)))) := same_new hp1
      have e1 : (upd HB p1 (.lst (strV (U.take j)))) p1 = some (.lst (strV (U.take j))) := upd_same
      have n1 : p1 ≠ wl := (EB.well.ne hp1).symm
      generalize upd HB p1 (.lst (strV (U.take j))) = H1 at s1 e1
      have E1 : Dr wl H H1 := EB.trans (Dr.ofSame EB.well s1)
      have hl1 := s1 _ _ hl
      refine ⟨_, rfl, _, rfl, wl, l0, U, rfl, E1.well, n0, hl1, hne, by omega, fun u H1' hu EO => ?_⟩
      have E1' := E1.trans EO
      have e11 := EO.but _ _ n1 e1
      have hl11 := EO.but _ _ n0 hl1
      have hub := wd u hu
      refine ⟨(by show 1 ≤ sizeLine; decide), fun p2 hp2 => ?_⟩
      have s2 : Same H1' (upd H1' p2 (.lst (strV [u]))) := same_new hp2
      have e2 : (upd H1' p2 (.lst (strV [u]))) p2 = some (.lst (strV [u])) := upd_same
      obtain ⟨H2, hH2⟩ : ∃ H2, H2 = upd H1' p2 (.lst (strV [u])) := ⟨_, rfl⟩
      rw [← hH2] at s2 e2
      have E2 : Dr wl H H2 := E1'.trans (Dr.ofSame E1'.well s2)
      have e12 := s2 _ _ e11
      have hl2 := s2 _ _ hl11
      show _
      generalize hH3 : upd H1' p2 (.lst [.str u]) = H2'
      have hH4 : H2 = H2' := by rw [hH2, ← hH3]; rfl
      subst hH4
      clear hH2 hH3
      refine ⟨p1, p2, _, _, rfl, rfl, e12, e2, cat_size (by rw [List.length_take]; omega) (by show 1 ≤ 1000; decide), fun p3 hp3 => ?_⟩
      rw [strV_app]
      have s3 : Same H2 (upd H2 p3 (.lst (strV (U.take j ++ [u])))) := same_new hp3
      have e3 : (upd H2 p3 (.lst (strV (U.take j ++ [u])))) p3 = some (.lst (strV (U.take j ++ [u]))) := upd_same
      generalize upd H2 p3 (.lst (strV (U.take j ++ [u]))) = H3 at s3 e3
      have E3 : Dr wl H H3 := E2.trans (Dr.ofSame E2.well s3)
      have hl3 := s3 _ _ hl2
      refine ⟨_, rfl, _, rfl, _, rfl, l0, _, rfl, SqL.of hl3, fun p4 hp4 => ?_⟩
      rw [cut_fromS]
      have s4 : Same H3 (upd H3 p4 (.lst (strV (U.drop j)))) := same_new hp4
      have e4 : (upd H3 p4 (.lst (strV (U.drop j)))) p4 = some (.lst (strV (U.drop j))) := upd_same
      generalize upd H3 p4 (.lst (strV (U.drop j))) = H4 at s4 e4
      have E4 : Dr wl H H4 := E3.trans (Dr.ofSame E3.well s4)
      refine ⟨p3, p4, _, _, rfl, rfl, s4 _ _ e3, e4, cat_size (by rw [List.length_append, List.length_take]; show _ + 1 ≤ _; omega) (by rw [List.length_drop]; omega), fun p5 hp5 => ?_⟩
      rw [strV_app]
      exact fin p5 _ _ (E4.trans (Dr.new E4.well hp5)) upd_same (by simp only [List.length_append, List.length_take, List.length_drop, List.length_singleton]; omega) (rp hub (by omega))
    refine ⟨_, rfl, _, rfl, _, rfl, wl, l0, U, rfl, EB.well, n0, hl, hne, by omega, fun u H1' hu EO => ?_⟩
    have E1' := EB.trans EO
    have hl11 := EO.but _ _ n0 hl
    have hub := wd u hu
    refine ⟨(by show 1 ≤ sizeLine; decide), fun p2 hp2 => ?_⟩
    have s2 : Same H1' (upd H1' p2 (.lst (strV [u]))) := same_new hp2
    have e2 : (upd H1' p2 (.lst (strV [u]))) p2 = some (.lst (strV [u])) := upd_same
    obtain ⟨H2, hH2⟩ : ∃ H2, H2 = upd H1' p2 (.lst (strV [u])) := ⟨_, rfl⟩
    rw [← hH2] at s2 e2
    have E2 : Dr wl H H2 := E1'.trans (Dr.ofSame E1'.well s2)
    have hl2 := s2 _ _ hl11
    show _
    generalize hH3 : upd H1' p2 (.lst [.str u]) = H2'
    have hH4 : H2 = H2' := by rw [hH2, ← hH3]; rfl
    subst hH4
    clear hH2 hH3
    refine ⟨l0, p2, _, _, rfl, rfl, hl2, e2, cat_size (by omega) (by show 1 ≤ 1000; decide), fun p5 hp5 => ?_⟩
    rw [strV_app]
    have eU : U ++ [u] = U.take U.length ++ [u] ++ U.drop U.length := by rw [List.take_length, List.drop_length, List.append_nil]
    rw [eU]
    exact fin p5 _ _ (E2.trans (Dr.new E2.well hp5)) upd_same (by simp only [List.length_append, List.length_take, List.length_drop, List.length_singleton]; omega) (rp hub (Nat.le_refl _))
end
end Lag

set_option maxRecDepth 100000
set_option maxHeartbeats 8000000
namespace Lag
open PySem PySem.Spec PyProof.Rows L2
theorem strV_rev (a : List Str) : (strV a).reverse = strV a.reverse := (List.map_reverse ..).symm
theorem cut_midS (U : List Str) (j : Nat) : cutV (strV U) (some (j : Int)) (some ((j : Int) + 2)) = strV ((U.take (j + 2)).drop j) := (cut_mid (xs := strV U) j (j + 2)).trans (by
  show _ = (List.drop j (List.take (j + 2) U)).map V.str
  rw [List.map_drop, List.map_take])
theorem mem2 {U : List Str} {P : Str → Prop} (h : ∀ v ∈ U, P v) {i j : Nat} : ∀ v ∈ U.take i ++ U.drop j, P v := fun v hv => by
  rcases List.mem_append.mp hv with z | z
  · exact h v (List.mem_of_mem_take z)
  · exact h v (List.mem_of_mem_drop z)
theorem mem3 {U : List Str} {P : Str → Prop} (h : ∀ v ∈ U, P v) {u : Str} (hu : P u) {i j : Nat} : ∀ v ∈ U.take i ++ [u] ++ U.drop j, P v := fun v hv => by
  rcases List.mem_append.mp hv with z | z
  · rcases List.mem_append.mp z with z | z
    · exact h v (List.mem_of_mem_take z)
    · rw [List.mem_singleton.mp z]
      exact hu
  · exact h v (List.mem_of_mem_drop z)
theorem mem3r {U : List Str} {P : Str → Prop} (h : ∀ v ∈ U, P v) {i k l m : Nat} : ∀ v ∈ U.take i ++ ((U.take k).drop l).reverse ++ U.drop m, P v := fun v hv => by
  rcases List.mem_append.mp hv with z | z
  · rcases List.mem_append.mp z with z | z
    · exact h v (List.mem_of_mem_take z)
    · exact h v (List.mem_of_mem_take (List.mem_of_mem_drop (List.mem_reverse.mp z)))
  · exact h v (List.mem_of_mem_drop z)
theorem rows_ne (t : Str) : Txt.split t "\n" ≠ [] := fun e => by
  have h := rows_join2 t
  rw [e] at h
  have : t = "" := h.symm.trans (by decide +kernel)
  rw [this, empty_split] at e
  cases e
theorem join_last (y s a : Str) : ∀ l : List Str, Txt.join y (l ++ [a]) ++ s = Txt.join y (l ++ [a ++ s])
  | [] => by rw [List.nil_append, List.nil_append, join_one, join_one]
  | [b] => by
    show Txt.join y [b, a] ++ s = Txt.join y [b, a ++ s]
    rw [join_two, join_two, join_one, join_one, str_assoc]
  | b :: c :: l => by
    show Txt.join y (b :: c :: (l ++ [a])) ++ s = Txt.join y (b :: c :: (l ++ [a ++ s]))
    rw [join_two, join_two, str_assoc]
    congr 1
    exact join_last y s a (c :: l)
theorem join_snoc (y s : Str) : ∀ l : List Str, l ≠ [] → Txt.join y l ++ (y ++ s) = Txt.join y (l ++ [s])
  | [], h => absurd rfl h
  | [b], _ => by
    show Txt.join y [b] ++ (y ++ s) = Txt.join y [b, s]
    rw [join_two, join_one, join_one, str_assoc]
  | b :: c :: l, _ => by
    show Txt.join y (b :: c :: l) ++ (y ++ s) = Txt.join y (b :: c :: (l ++ [s]))
    rw [join_two, join_two, str_assoc]
    congr 1
    exact join_snoc y s (c :: l) (by simp)
abbrev seven : List Str := ["", "gate", "wire", "gate sum 1", "wire 0 0 5", "net", " "]
abbrev five : List Str := ["\n", " ", " 1", "\n ", "~"]
theorem lit_row {u : Str} {B W : Nat} (h : u.length ≤ B ∧ cb u ≤ W ∧ (LW.ws u).all (fun c => decide (c < 128 ∧ c ≠ 10)) = true) : RowB B W u := by
  have k := fun c hc => of_decide_eq_true (List.all_eq_true.mp h.2.2 c hc)
  exact ⟨h.1, h.2.1, fun c hc => (k c hc).1, fun z => (k 10 z).2 rfl⟩
theorem seven_ok {B W : Nat} (hW : 3 ≤ W) : ∀ u ∈ seven, RowB (B + max B 61 + 2) (W + 1) u := by
  have h : ∀ u ∈ seven, u.length ≤ 61 ∧ cb u ≤ 3 ∧ (LW.ws u).all (fun c => decide (c < 128 ∧ c ≠ 10)) = true := by decide +kernel
  exact fun u hu => (lit_row (h u hu)).mono (by omega) (by omega)
theorem five_len : ∀ u ∈ five, u.length ≤ 2 := by decide +kernel
theorem bd_app {B R W : Nat} {t u : Str} (h : Bd B R W t) (hW : 3 ≤ W) (hu : u ∈ five) : Bd (B + max B 61 + 2) (R + 1) (W + 1) (t ++ u) := by
  have hne := rows_ne t
  have ht := rows_join2 t
  have hr := h.rows
  have hrow := h.row
  generalize Txt.split t "\n" = L at hne ht hr hrow
  have old : ∀ p ∈ L, RowB (B + max B 61 + 2) (W + 1) p := fun p hp => (hrow p hp).mono (by omega) (by omega)
  have more : ∀ s : Str, RowB 1 1 s → Bd (B + max B 61 + 2) (R + 1) (W + 1) (t ++ ("\n" ++ s)) := fun s hs => by
    rw [← ht, join_snoc _ _ _ hne]
    refine bd_join (by omega) (by rw [List.length_append]; show _ + 1 ≤ _; omega) fun p hp => ?_
    rcases List.mem_append.mp hp with z | z
    · exact old p z
    · rw [List.mem_singleton.mp z]
      exact hs.mono (by omega) (by omega)
  have last : ∀ s : Str, RowB 2 1 s → Bd (B + max B 61 + 2) (R + 1) (W + 1) (t ++ s) := fun s hs => by
    obtain ⟨l, a, rfl⟩ : ∃ l a, L = l ++ [a] := ⟨L.dropLast, L.getLast hne, (List.dropLast_concat_getLast hne).symm⟩
    rw [← ht, join_last]
    refine bd_join (by omega) (by rw [List.length_append] at hr ⊢; exact Nat.le_succ_of_le hr) fun p hp => ?_
    rcases List.mem_append.mp hp with z | z
    · exact old p (List.mem_append_left _ z)
    · rw [List.mem_singleton.mp z]
      have ha := hrow a (List.mem_append_right _ (List.mem_singleton.mpr rfl))
      refine ⟨?_, ?_, ha.asc.app hs.asc, fun y => ?_⟩
      · rw [Str.length_append]
        have := ha.len
        have := hs.len
        omega
      · unfold cb
        rw [LW.ws_app, List.count_append]
        have := ha.cb
        have := hs.cb
        unfold cb at *
        omega
      · rw [LW.ws_app] at y
        rcases List.mem_append.mp y with y | y
        · exact ha.nf y
        · exact hs.nf y
  have e1 : ("\n" : Str) = "\n" ++ "" := by decide +kernel
  have e2 : ("\n " : Str) = "\n" ++ " " := by decide +kernel
  simp only [List.mem_cons, List.not_mem_nil, or_false] at hu
  rcases hu with rfl | rfl | rfl | rfl | rfl
  · rw [e1]
    exact more "" (lit_row (by decide +kernel))
  · exact last _ (lit_row (by decide +kernel))
  · exact last _ (lit_row (by decide +kernel))
  · rw [e2]
    exact more " " (lit_row (by decide +kernel))
  · exact last _ (lit_row (by decide +kernel))
/-! ### _law_spoilt -/
abbrev sSpoilt : Stmt := topS 52 -- @_law_spoilt
def spSpoilt : Sp := fun vs H Q _ => ∃ (wl : Addr) (t : Str) (B R W : Nat), vs = [.ref wl, .str t] ∧ WellAt wl H ∧ Bd B R W t ∧ B ≤ 200 ∧ R ≤ 90 ∧ 3 ≤ W ∧ W ≤ 60 ∧ t.length ≤ 100000 ∧ ∀ (u : Str) H', Bd (B + max B 61 + 2) (R + 1) (W + 1) u → Dr wl H H' → Q (.str u) H'
section
variable {P : Program} {w : World} {K : PySem.W.Frag} {mg : Str → Option Value} {base : Heap}
abbrev nSpoilt : List Str := ["_law_well_here", "_law_text_here", "_law_rows", "_law_at", "_law_way"]
theorem scSpoilt : FnScope nSpoilt ["_law_well_here", "_law_text_here"] (defScope sSpoilt) := ⟨rfl, rfl, rfl, by decide +kernel, rfl, by decide +kernel, by decide +kernel⟩
abbrev DSpRow (P : Program) (w : World) (K : PySem.W.Frag) (mg : Str → Option Value) (base : Heap) := Df P w K mg base 4 "_law_spoilt_row" ["_law_well_here", "_law_row"] spSpRow
theorem ok_spoilt {f fD fO fS : Addr} {fd fdD fdO fdS : FuncData} (F : Fun K "_law_spoilt" "_law_spoilt" sSpoilt f fd) (BT : Bt mg) (DD : DDraw P w K mg base fD fdD) (DOn : DOne P w K mg base fO fdO) (DSr : DSpRow P w K mg base fS fdS) : FnOk P w K mg base CX0 5 f fd ["_law_well_here", "_law_text_here"] spSpoilt := by
  refine F.ok scSpoilt (fun vs H Q E h => ?_) (fun cdv A outer s H vs Q E hr h => ?_)
  · obtain ⟨wl, r, _, _, _, rfl, _⟩ := h
    rfl
  · obtain ⟨wl, t, B, R, W, rfl, hw, hB0, hB2, hR2, hB3, hW2, htl, q⟩ := h
    have hW3 := hB3
    have nd := scSpoilt.nd
    refine ⟨_, pss_cons (ps_set (i := 2) nd rfl (.inl rfl) (pe_split (pv 1) pe_str)) <|
        pss_cons (ps_set (i := 3) nd rfl (.inl rfl) (pe_call DD.ok (hr.mono (by decide)) (by rfl) DD.mg DD.kp DD.bd .nil pass0 (pa_cons (pv 0) (pa_cons (pe_callB call_len_seq (by rfl) BT.len PySem.boot_len (pa_cons (pv 2) pa_nil)) pa_nil)))) <|
        pss_cons (ps_set (i := 4) nd rfl (.inl rfl) (pe_call DD.ok (hr.mono (by decide)) (by rfl) DD.mg DD.kp DD.bd .nil pass0 (pa_cons (pv 0) (pa_cons pe_int pa_nil)))) <|
        Evl.pss_cut (ps_if (pt_cmpR op_eq (pv 4) pe_int (nomark _)) (pss_one (ps_set (i := 2) nd rfl (.inl rfl) (pe_op op_cat (pe_slice sl_list (pv 2) po_none (po_some (pv 3))) (pe_slice sl_list (pv 2) (po_some (pe_op op_add (pv 3) pe_int)) po_none)))) (pss_one (ps_if (pt_cmpR op_eq (pv 4) pe_int (nomark _)) (pss_one (ps_set (i := 2) nd rfl (.inl rfl) (pe_op op_cat (pe_op op_cat (pe_slice sl_list (pv 2) po_none (po_some (pv 3))) (pe_lst (pa_cons (pe_ix ix_list (pv 2) (pv 3) (fun _ _ => rfl)) pa_nil))) (pe_slice sl_list (pv 2) (po_some (pv 3)) po_none)))) (pss_one (ps_if (pt_cmpR op_eq (pv 4) pe_int (nomark _)) (pss_one (ps_set (i := 2) nd rfl (.inl rfl) (pe_op op_cat (pe_op op_cat (pe_slice sl_list (pv 2) po_none (po_some (pv 3))) (pe_revL (pe_slice sl_list (pv 2) (po_some (pv 3)) (po_some (pe_op op_add (pv 3) pe_int))))) (pe_slice sl_list (pv 2) (po_some (pe_op op_add (pv 3) pe_int)) po_none)))) (pss_one (ps_if (pt_cmpR op_eq (pv 4) pe_int (nomark _)) (pss_one (ps_set (i := 2) nd rfl (.inl rfl) (pe_op op_cat (pe_op op_cat (pe_slice sl_list (pv 2) po_none (po_some (pv 3))) (pe_lst (pa_cons (pe_call DOn.ok (hr.mono (by decide)) (by rfl) DOn.mg DOn.kp DOn.bd .nil pass0 (pa_cons (pv 0) (pa_cons (pe_lst (pa_cons pe_str (pa_cons pe_str (pa_cons pe_str (pa_cons pe_str (pa_cons pe_str (pa_cons pe_str (pa_cons pe_str pa_nil)))))))) pa_nil))) pa_nil))) (pe_slice sl_list (pv 2) (po_some (pv 3)) po_none)))) (pss_one (ps_if (pt_cmpR op_eq (pv 4) pe_int (nomark _)) (pss_one (ps_ret (pe_op op_add_str (pv 1) (pe_call DOn.ok (hr.mono (by decide)) (by rfl) DOn.mg DOn.kp DOn.bd .nil pass0 (pa_cons (pv 0) (pa_cons (pe_lst (pa_cons pe_str (pa_cons pe_str (pa_cons pe_str (pa_cons pe_str (pa_cons pe_str pa_nil)))))) pa_nil)))))) (pss_one (ps_set (i := 2) nd rfl (.inl rfl) (pe_op op_cat (pe_op op_cat (pe_slice sl_list (pv 2) po_none (po_some (pv 3))) (pe_lst (pa_cons (pe_call DSr.ok (hr.mono (by decide)) (by rfl) DSr.mg DSr.kp DSr.bd .nil pass0 (pa_cons (pv 0) (pa_cons (pe_ix ix_list (pv 2) (pv 3) (fun _ _ => rfl)) pa_nil))) pa_nil))) (pe_slice sl_list (pv 2) (po_some (pe_op op_add (pv 3) pe_int)) po_none))))))))))))) <|
        pss_one (ps_ret (pe_join pe_str (pv 2))), ?_⟩
    refine ⟨_, rfl, ⟨_, rfl⟩, _, _, rfl, rfl, (by decide +kernel), size24 (by omega), fun l0 hl0 => ?_⟩
    have s0 : Same H (upd H l0 (.lst (strV (Txt.split t "\n")))) := same_new hl0
    have hl : (upd H l0 (.lst (strV (Txt.split t "\n")))) l0 = some (.lst (strV (Txt.split t "\n"))) := upd_same
    have n0 : l0 ≠ wl := (hw.ne hl0).symm
    generalize upd H l0 (.lst (strV (Txt.split t "\n"))) = H0 at s0 hl
    have E0' : Dr wl H H0 := Dr.ofSame hw s0
    refine gn_norm (σ' := [some (.ref wl), some (.str t), some (.ref l0), none, none]) rfl ?_
    have hne := rows_ne t
    have hUl := hB0.rows
    have hB := hB0.row
    obtain ⟨U, hU⟩ : ∃ U, U = Txt.split t "\n" := ⟨_, rfl⟩
    rw [← hU] at hl hne hUl hB
    have wd : ∀ u ∈ U, RowB (B + max B 61 + 2) (W + 1) u := fun u hu => (hB u hu).mono (by omega) (by omega)
    have hpos : 0 < U.length := List.length_pos_iff.mpr hne
    refine ⟨_, rfl, _, rfl, l0, _, rfl, .inl (SqL.of hl), wl, _, rfl, by rw [List.length_map]; omega, by rw [List.length_map]; omega, E0'.well, fun d HA d0 d1 EA => ?_⟩
    rw [List.length_map] at d1
    obtain ⟨j, rfl⟩ : ∃ j : Nat, d = j := ⟨d.toNat, by omega⟩
    have hj : j < U.length := by omega
    refine gn_norm (σ' := [some (.ref wl), some (.str t), some (.ref l0), some (.int (j : Nat)), none]) rfl ?_
    refine ⟨_, rfl, wl, 9, rfl, by decide, by decide, EA.well, fun y HB y0 y1 EB0 => ?_⟩
    refine gn_norm (σ' := [some (.ref wl), some (.str t), some (.ref l0), some (.int (j : Nat)), some (.int y)]) rfl ?_
    have hl := EB0.but _ _ n0 (EA.but _ _ n0 hl)
    have EB : Dr wl H HB := (E0'.trans EA).trans EB0
    refine ⟨fun σ H' => ∃ (p : Addr) (Vs : List Str), σ = [some (.ref wl), some (.str t), some (.ref p), some (.int (j : Nat)), some (.int y)] ∧ Dr wl H H' ∧ H' p = some (.lst (strV Vs)) ∧ Vs.length ≤ R + 1 ∧ ∀ v ∈ Vs, RowB (B + max B 61 + 2) (W + 1) v, ?_, ?_⟩
    rotate_left
    · rintro σ H' ⟨p, Vs, rfl, EV, hV, hVl, hR⟩
      refine ⟨⟨_, rfl⟩, _, rfl, "\n", p, Vs, rfl, rfl, .inl (SqL.of hV), ?_, q _ H' (bd_join (by omega) hVl hR) EV⟩
      have h1 : ("\n" : Str).length = 1 := by decide +kernel
      rw [h1]
      have h2 : sumL Vs ≤ _ := sum_bd fun p hp => (hR p hp).len
      have h3 : Vs.length * (B + max B 61 + 2) ≤ 100 * 500 := Nat.mul_le_mul (by omega) (by omega)
      unfold sumL at h2
      omega
    have fin : ∀ (p : Addr) (Vs : List Str) (H' : Hp), Dr wl H H' → H' p = some (.lst (strV Vs)) → Vs.length ≤ R + 1 → (∀ v ∈ Vs, RowB (B + max B 61 + 2) (W + 1) v) → ∃ (p' : Addr) (Vs : List Str), ([some (.ref wl), some (.str t), some (.ref p), some (.int (j : Nat)), some (.int y)] : L2.St) = ([some (.ref wl), some (.str t), some (.ref p'), some (.int (j : Nat)), some (.int y)] : L2.St) ∧ Dr wl H H' ∧ H' p' = some (.lst (strV Vs)) ∧ Vs.length ≤ R + 1 ∧ ∀ v ∈ Vs, RowB (B + max B 61 + 2) (W + 1) v := fun p Vs H' EV hV hVl hR => by
      exact ⟨p, Vs, rfl, EV, hV, hVl, hR⟩
    refine ⟨_, rfl, rfl, _, rfl, ite2 (fun _ => ?_) (fun _ => ?_)⟩
    · refine ⟨_, rfl, _, rfl, _, rfl, l0, _, rfl, SqL.of hl, fun p1 hp1 => ?_⟩
      rw [cut_toS]
      have s1 : Same HB (upd HB p1 (.lst (strV (U.take j)))) := same_new hp1
      have e1 : (upd HB p1 (.lst (strV (U.take j)))) p1 = some (.lst (strV (U.take j))) := upd_same
      have n1 : p1 ≠ wl := (EB.well.ne hp1).symm
      generalize upd HB p1 (.lst (strV (U.take j))) = H1 at s1 e1
      have E1 : Dr wl H H1 := EB.trans (Dr.ofSame EB.well s1)
      have hl1 := s1 _ _ hl
      refine ⟨_, rfl, _, rfl, _, _, rfl, rfl, _, rfl, l0, _, rfl, SqL.of hl1, fun p4 hp4 => ?_⟩
      rw [cut_fromS1]
      have s4 : Same H1 (upd H1 p4 (.lst (strV (U.drop (j + 1))))) := same_new hp4
      have e4 : (upd H1 p4 (.lst (strV (U.drop (j + 1))))) p4 = some (.lst (strV (U.drop (j + 1)))) := upd_same
      generalize upd H1 p4 (.lst (strV (U.drop (j + 1)))) = H4 at s4 e4
      have E4 : Dr wl H H4 := E1.trans (Dr.ofSame E1.well s4)
      refine ⟨p1, p4, _, _, rfl, rfl, s4 _ _ e1, e4, cat_size (by rw [List.length_take]; omega) (by rw [List.length_drop]; omega), fun p5 hp5 => ?_⟩
      rw [strV_app]
      exact fin p5 _ _ (E4.trans (Dr.new E4.well hp5)) upd_same (by simp only [List.length_append, List.length_take, List.length_drop, List.length_singleton, List.length_reverse]; omega) (mem2 wd)
    refine ⟨_, rfl, rfl, _, rfl, ite2 (fun _ => ?_) (fun _ => ?_)⟩
    · refine ⟨_, rfl, _, rfl, _, rfl, l0, _, rfl, SqL.of hl, fun p1 hp1 => ?_⟩
      rw [cut_toS]
      have s1 : Same HB (upd HB p1 (.lst (strV (U.take j)))) := same_new hp1
      have e1 : (upd HB p1 (.lst (strV (U.take j)))) p1 = some (.lst (strV (U.take j))) := upd_same
      have n1 : p1 ≠ wl := (EB.well.ne hp1).symm
      generalize upd HB p1 (.lst (strV (U.take j))) = H1 at s1 e1
      have E1 : Dr wl H H1 := EB.trans (Dr.ofSame EB.well s1)
      have hl1 := s1 _ _ hl
      refine ⟨_, rfl, _, rfl, l0, _, _, _, rfl, rfl, SqL.of hl1, atI_nat (j := j) (by rw [List.getElem?_map, List.getElem?_eq_getElem hj]; rfl), (by show 1 ≤ sizeLine; decide), fun p2 hp2 => ?_⟩
      have s2 : Same H1 (upd H1 p2 (.lst (strV [U[j]]))) := same_new hp2
      have e2 : (upd H1 p2 (.lst (strV [U[j]]))) p2 = some (.lst (strV [U[j]])) := upd_same
      obtain ⟨H2, hH2⟩ : ∃ H2, H2 = upd H1 p2 (.lst (strV [U[j]])) := ⟨_, rfl⟩
      rw [← hH2] at s2 e2
      have E2 : Dr wl H H2 := E1.trans (Dr.ofSame E1.well s2)
      have e12 := s2 _ _ e1
      have hl2 := s2 _ _ hl1
      show _
      generalize hH3 : upd H1 p2 (.lst [.str U[j]]) = H2z
      have hH4 : H2 = H2z := by rw [hH2, ← hH3]; rfl
      subst hH4
      clear hH2 hH3
      refine ⟨p1, p2, _, _, rfl, rfl, e12, e2, cat_size (by rw [List.length_take]; omega) (by show 1 ≤ 1000; decide), fun p3 hp3 => ?_⟩
      rw [strV_app]
      have s3 : Same H2 (upd H2 p3 (.lst (strV (U.take j ++ [U[j]])))) := same_new hp3
      have e3 : (upd H2 p3 (.lst (strV (U.take j ++ [U[j]])))) p3 = some (.lst (strV (U.take j ++ [U[j]]))) := upd_same
      generalize upd H2 p3 (.lst (strV (U.take j ++ [U[j]]))) = H3 at s3 e3
      have E3 : Dr wl H H3 := E2.trans (Dr.ofSame E2.well s3)
      have hl3 := s3 _ _ hl2
      refine ⟨_, rfl, _, rfl, _, rfl, l0, _, rfl, SqL.of hl3, fun p4 hp4 => ?_⟩
      rw [cut_fromS]
      have s4 : Same H3 (upd H3 p4 (.lst (strV (U.drop j)))) := same_new hp4
      have e4 : (upd H3 p4 (.lst (strV (U.drop j)))) p4 = some (.lst (strV (U.drop j))) := upd_same
      generalize upd H3 p4 (.lst (strV (U.drop j))) = H4 at s4 e4
      have E4 : Dr wl H H4 := E3.trans (Dr.ofSame E3.well s4)
      refine ⟨p3, p4, _, _, rfl, rfl, s4 _ _ e3, e4, cat_size (by rw [List.length_append, List.length_take]; show _ + 1 ≤ _; omega) (by rw [List.length_drop]; omega), fun p5 hp5 => ?_⟩
      rw [strV_app]
      exact fin p5 _ _ (E4.trans (Dr.new E4.well hp5)) upd_same (by simp only [List.length_append, List.length_take, List.length_drop, List.length_singleton, List.length_reverse]; omega) (mem3 wd (wd _ (List.getElem_mem hj)))
    refine ⟨_, rfl, rfl, _, rfl, ite2 (fun _ => ?_) (fun _ => ?_)⟩
    · refine ⟨_, rfl, _, rfl, _, rfl, l0, _, rfl, SqL.of hl, fun p1 hp1 => ?_⟩
      rw [cut_toS]
      have s1 : Same HB (upd HB p1 (.lst (strV (U.take j)))) := same_new hp1
      have e1 : (upd HB p1 (.lst (strV (U.take j)))) p1 = some (.lst (strV (U.take j))) := upd_same
      have n1 : p1 ≠ wl := (EB.well.ne hp1).symm
      generalize upd HB p1 (.lst (strV (U.take j))) = H1 at s1 e1
      have E1 : Dr wl H H1 := EB.trans (Dr.ofSame EB.well s1)
      have hl1 := s1 _ _ hl
      refine ⟨_, rfl, _, rfl, _, rfl, _, rfl, _, _, rfl, rfl, _, rfl, l0, _, rfl, SqL.of hl1, fun p6 hp6 => ?_⟩
      rw [cut_midS]
      have s6 : Same H1 (upd H1 p6 (.lst (strV ((U.take (j + 2)).drop j)))) := same_new hp6
      have e6 : (upd H1 p6 (.lst (strV ((U.take (j + 2)).drop j)))) p6 = some (.lst (strV ((U.take (j + 2)).drop j))) := upd_same
      generalize upd H1 p6 (.lst (strV ((U.take (j + 2)).drop j))) = H6 at s6 e6
      have E6 : Dr wl H H6 := E1.trans (Dr.ofSame E1.well s6)
      refine ⟨p6, _, rfl, SqL.of e6, fun p2 hp2 => ?_⟩
      rw [strV_rev]
      have s2 : Same H6 (upd H6 p2 (.lst (strV ((U.take (j + 2)).drop j).reverse))) := same_new hp2
      have e2 : (upd H6 p2 (.lst (strV ((U.take (j + 2)).drop j).reverse))) p2 = some (.lst (strV ((U.take (j + 2)).drop j).reverse)) := upd_same
      generalize upd H6 p2 (.lst (strV ((U.take (j + 2)).drop j).reverse)) = H2 at s2 e2
      have E2 : Dr wl H H2 := E6.trans (Dr.ofSame E6.well s2)
      have e12 := s2 _ _ (s6 _ _ e1)
      have hl2 := s2 _ _ (s6 _ _ hl1)
      refine ⟨p1, p2, _, _, rfl, rfl, e12, e2, cat_size (by rw [List.length_take]; omega) (by rw [List.length_reverse, List.length_drop, List.length_take]; omega), fun p3 hp3 => ?_⟩
      rw [strV_app]
      have s3 : Same H2 (upd H2 p3 (.lst (strV (U.take j ++ ((U.take (j + 2)).drop j).reverse)))) := same_new hp3
      have e3 : (upd H2 p3 (.lst (strV (U.take j ++ ((U.take (j + 2)).drop j).reverse)))) p3 = some (.lst (strV (U.take j ++ ((U.take (j + 2)).drop j).reverse))) := upd_same
      generalize upd H2 p3 (.lst (strV (U.take j ++ ((U.take (j + 2)).drop j).reverse))) = H3 at s3 e3
      have E3 : Dr wl H H3 := E2.trans (Dr.ofSame E2.well s3)
      have hl3 := s3 _ _ hl2
      refine ⟨_, rfl, _, rfl, _, _, rfl, rfl, _, rfl, l0, _, rfl, SqL.of hl3, fun p4 hp4 => ?_⟩
      rw [cut_fromS2]
      have s4 : Same H3 (upd H3 p4 (.lst (strV (U.drop (j + 2))))) := same_new hp4
      have e4 : (upd H3 p4 (.lst (strV (U.drop (j + 2))))) p4 = some (.lst (strV (U.drop (j + 2)))) := upd_same
      generalize upd H3 p4 (.lst (strV (U.drop (j + 2)))) = H4 at s4 e4
      have E4 : Dr wl H H4 := E3.trans (Dr.ofSame E3.well s4)
      refine ⟨p3, p4, _, _, rfl, rfl, s4 _ _ e3, e4, cat_size (by rw [List.length_append, List.length_take, List.length_reverse, List.length_drop, List.length_take]; omega) (by rw [List.length_drop]; omega), fun p5 hp5 => ?_⟩
      rw [strV_app]
      exact fin p5 _ _ (E4.trans (Dr.new E4.well hp5)) upd_same (by simp only [List.length_append, List.length_take, List.length_drop, List.length_singleton, List.length_reverse]; omega) (mem3r wd)
    refine ⟨_, rfl, rfl, _, rfl, ite2 (fun _ => ?_) (fun _ => ?_)⟩
    · refine ⟨_, rfl, _, rfl, _, rfl, l0, _, rfl, SqL.of hl, fun p1 hp1 => ?_⟩
      rw [cut_toS]
      have s1 : Same HB (upd HB p1 (.lst (strV (U.take j)))) := same_new hp1
      have e1 : (upd HB p1 (.lst (strV (U.take j)))) p1 = some (.lst (strV (U.take j))) := upd_same
      have n1 : p1 ≠ wl := (EB.well.ne hp1).symm
      generalize upd HB p1 (.lst (strV (U.take j))) = H1 at s1 e1
      have E1 : Dr wl H H1 := EB.trans (Dr.ofSame EB.well s1)
      have hl1 := s1 _ _ hl
      refine ⟨_, rfl, (by show 7 ≤ sizeLine; decide), fun p7 hp7 => ?_⟩
      have n7 : p7 ≠ wl := (E1.well.ne hp7).symm
      have E7 : Dr wl H (upd H1 p7 (.lst (strV seven))) := E1.trans (Dr.new E1.well hp7)
      have e7 : (upd H1 p7 (.lst (strV seven))) p7 = some (.lst (strV seven)) := upd_same
      have s7 : Same H1 (upd H1 p7 (.lst (strV seven))) := same_new hp7
      have e17 := s7 _ _ e1
      have hl17 := s7 _ _ hl1
      refine ⟨wl, p7, strV seven, rfl, n7, E7.well, SqL.of e7, by simp, by show 7 < 1000000; decide, fun v H1' hv EO => ?_⟩
      obtain ⟨u, hu, rfl⟩ := List.mem_map.mp hv
      have hub := seven_ok (B := B) hB3 u hu
      have E1' := E7.trans EO
      have e11 := EO.but _ _ n1 e17
      have hl11 := EO.but _ _ n0 hl17
      refine ⟨(by show 1 ≤ sizeLine; decide), fun p2 hp2 => ?_⟩
      have s2 : Same H1' (upd H1' p2 (.lst (strV [u]))) := same_new hp2
      have e2 : (upd H1' p2 (.lst (strV [u]))) p2 = some (.lst (strV [u])) := upd_same
      obtain ⟨H2, hH2⟩ : ∃ H2, H2 = upd H1' p2 (.lst (strV [u])) := ⟨_, rfl⟩
      rw [← hH2] at s2 e2
      have E2 : Dr wl H H2 := E1'.trans (Dr.ofSame E1'.well s2)
      have e12 := s2 _ _ e11
      have hl2 := s2 _ _ hl11
      show _
      generalize hH3 : upd H1' p2 (.lst [.str u]) = H2'
      have hH4 : H2 = H2' := by rw [hH2, ← hH3]; rfl
      subst hH4
      clear hH2 hH3
      refine ⟨p1, p2, _, _, rfl, rfl, e12, e2, cat_size (by rw [List.length_take]; omega) (by show 1 ≤ 1000; decide), fun p3 hp3 => ?_⟩
      rw [strV_app]
      have s3 : Same H2 (upd H2 p3 (.lst (strV (U.take j ++ [u])))) := same_new hp3
      have e3 : (upd H2 p3 (.lst (strV (U.take j ++ [u])))) p3 = some (.lst (strV (U.take j ++ [u]))) := upd_same
      generalize upd H2 p3 (.lst (strV (U.take j ++ [u]))) = H3 at s3 e3
      have E3 : Dr wl H H3 := E2.trans (Dr.ofSame E2.well s3)
      have hl3 := s3 _ _ hl2
      refine ⟨_, rfl, _, rfl, _, rfl, l0, _, rfl, SqL.of hl3, fun p4 hp4 => ?_⟩
      rw [cut_fromS]
      have s4 : Same H3 (upd H3 p4 (.lst (strV (U.drop j)))) := same_new hp4
      have e4 : (upd H3 p4 (.lst (strV (U.drop j)))) p4 = some (.lst (strV (U.drop j))) := upd_same
      generalize upd H3 p4 (.lst (strV (U.drop j))) = H4 at s4 e4
      have E4 : Dr wl H H4 := E3.trans (Dr.ofSame E3.well s4)
      refine ⟨p3, p4, _, _, rfl, rfl, s4 _ _ e3, e4, cat_size (by rw [List.length_append, List.length_take]; show _ + 1 ≤ _; omega) (by rw [List.length_drop]; omega), fun p5 hp5 => ?_⟩
      rw [strV_app]
      exact fin p5 _ _ (E4.trans (Dr.new E4.well hp5)) upd_same (by simp only [List.length_append, List.length_take, List.length_drop, List.length_singleton, List.length_reverse]; omega) (mem3 wd hub)
    refine ⟨_, rfl, rfl, _, rfl, ite2 (fun _ => ?_) (fun _ => ?_)⟩
    · refine ⟨_, rfl, ?_⟩
      refine ⟨_, rfl, (by show 5 ≤ sizeLine; decide), fun p7 hp7 => ?_⟩
      have n7 : p7 ≠ wl := (EB.well.ne hp7).symm
      have E7 : Dr wl H (upd HB p7 (.lst (strV five))) := EB.trans (Dr.new EB.well hp7)
      have e7 : (upd HB p7 (.lst (strV five))) p7 = some (.lst (strV five)) := upd_same
      have s7 : Same HB (upd HB p7 (.lst (strV five))) := same_new hp7
      refine ⟨wl, p7, strV five, rfl, n7, E7.well, SqL.of e7, by simp, by show 5 < 1000000; decide, fun v H1' hv EO => ?_⟩
      obtain ⟨u, hu, rfl⟩ := List.mem_map.mp hv
      refine ⟨_, _, rfl, rfl, size24 ?_, ?_⟩
      · have := five_len u hu
        omega
      · exact q _ H1' (bd_app hB0 hW3 hu) (E7.trans EO)
    refine ⟨_, rfl, _, rfl, _, rfl, l0, _, rfl, SqL.of hl, fun p1 hp1 => ?_⟩
    rw [cut_toS]
    have s1 : Same HB (upd HB p1 (.lst (strV (U.take j)))) := same_new hp1
    have e1 : (upd HB p1 (.lst (strV (U.take j)))) p1 = some (.lst (strV (U.take j))) := upd_same
    have n1 : p1 ≠ wl := (EB.well.ne hp1).symm
    generalize upd HB p1 (.lst (strV (U.take j))) = H1 at s1 e1
    have E1 : Dr wl H H1 := EB.trans (Dr.ofSame EB.well s1)
    have hl1 := s1 _ _ hl
    refine ⟨_, rfl, _, rfl, _, rfl, l0, _, _, _, rfl, rfl, SqL.of hl1, atI_nat (j := j) (by rw [List.getElem?_map, List.getElem?_eq_getElem hj]; rfl), wl, U[j], B, W, rfl, E1.well, hB _ (List.getElem_mem hj), hB2, hW2, fun u H1' hub EO => ?_⟩
    have E1' := E1.trans EO
    have e11 := EO.but _ _ n1 e1
    have hl11 := EO.but _ _ n0 hl1
    refine ⟨(by show 1 ≤ sizeLine; decide), fun p2 hp2 => ?_⟩
    have s2 : Same H1' (upd H1' p2 (.lst (strV [u]))) := same_new hp2
    have e2 : (upd H1' p2 (.lst (strV [u]))) p2 = some (.lst (strV [u])) := upd_same
    obtain ⟨H2, hH2⟩ : ∃ H2, H2 = upd H1' p2 (.lst (strV [u])) := ⟨_, rfl⟩
    rw [← hH2] at s2 e2
    have E2 : Dr wl H H2 := E1'.trans (Dr.ofSame E1'.well s2)
    have e12 := s2 _ _ e11
    have hl2 := s2 _ _ hl11
    show _
    generalize hH3 : upd H1' p2 (.lst [.str u]) = H2'
    have hH4 : H2 = H2' := by rw [hH2, ← hH3]; rfl
    subst hH4
    clear hH2 hH3
    refine ⟨p1, p2, _, _, rfl, rfl, e12, e2, cat_size (by rw [List.length_take]; omega) (by show 1 ≤ 1000; decide), fun p3 hp3 => ?_⟩
    rw [strV_app]
    have s3 : Same H2 (upd H2 p3 (.lst (strV (U.take j ++ [u])))) := same_new hp3
    have e3 : (upd H2 p3 (.lst (strV (U.take j ++ [u])))) p3 = some (.lst (strV (U.take j ++ [u]))) := upd_same
    generalize upd H2 p3 (.lst (strV (U.take j ++ [u]))) = H3 at s3 e3
    have E3 : Dr wl H H3 := E2.trans (Dr.ofSame E2.well s3)
    have hl3 := s3 _ _ hl2
    refine ⟨_, rfl, _, rfl, _, _, rfl, rfl, _, rfl, l0, _, rfl, SqL.of hl3, fun p4 hp4 => ?_⟩
    rw [cut_fromS1]
    have s4 : Same H3 (upd H3 p4 (.lst (strV (U.drop (j + 1))))) := same_new hp4
    have e4 : (upd H3 p4 (.lst (strV (U.drop (j + 1))))) p4 = some (.lst (strV (U.drop (j + 1)))) := upd_same
    generalize upd H3 p4 (.lst (strV (U.drop (j + 1)))) = H4 at s4 e4
    have E4 : Dr wl H H4 := E3.trans (Dr.ofSame E3.well s4)
    refine ⟨p3, p4, _, _, rfl, rfl, s4 _ _ e3, e4, cat_size (by rw [List.length_append, List.length_take]; show _ + 1 ≤ _; omega) (by rw [List.length_drop]; omega), fun p5 hp5 => ?_⟩
    rw [strV_app]
    exact fin p5 _ _ (E4.trans (Dr.new E4.well hp5)) upd_same (by simp only [List.length_append, List.length_take, List.length_drop, List.length_singleton, List.length_reverse]; omega) (mem3 wd hub)
end
end Lag

set_option maxRecDepth 100000
set_option maxHeartbeats 8000000
namespace Lag
open PySem PySem.Spec PyProof.Rows L2
/-! ### _law_right -/
def bnd : Nat → Nat
  | 0 => 21
  | n + 1 => bnd n + max (bnd n) 61 + 2
theorem Bd.mono {B R W B' R' W' : Nat} {t : Str} (h : Bd B R W t) (hb : B ≤ B') (hr : R ≤ R') (hw : W ≤ W') : Bd B' R' W' t := ⟨Nat.le_trans h.rows hr, fun r hr => (h.row r hr).mono hb hw⟩
theorem Bd.end {i : Nat} {t : Str} (h : Bd (bnd i) (80 + i) (4 + i) t) (hi : i ≤ 2) : Bd 170 82 6 t := h.mono (by
  match i, hi with
  | 0, _ => decide
  | 1, _ => decide
  | 2, _ => decide) (by omega) (by omega)
theorem digits_asc {n : Nat} : LW.Asc (natT n) := fun c hc => by
  have := natT_digits n c hc
  omega
theorem kinds_asc : ∀ k ∈ kinds, LW.Asc k := by
  have h : ∀ k ∈ kinds, (LW.ws k).all (fun c => decide (c < 128)) = true := by decide +kernel
  exact fun k hk c hc => of_decide_eq_true (List.all_eq_true.mp (h k hk) c hc)
theorem lit_asc {u : Str} (h : (LW.ws u).all (fun c => decide (c < 128)) = true) : LW.Asc u := fun c hc => of_decide_eq_true (List.all_eq_true.mp h c hc)
theorem num_asc {i : Int} (h : 0 ≤ i) : LW.Asc (numT i) := by
  rw [nat_of h]
  exact digits_asc
theorem start_row {gs : List Gt} {ws : List Wr} (N : NetOk gs ws) (h2 : ∀ x ∈ ws, x.2.2.length ≤ 2) : ∀ r ∈ rowsT gs ws, RowB 21 4 r := fun r hr => by
  have nf := row_free N r hr
  rcases List.mem_append.mp hr with h | h
  · obtain ⟨g, hg, rfl⟩ := List.mem_map.mp h
    have G := N.gok g hg
    have hc := words_count (gateT g)
    rw [gateT_split G] at hc
    have hc : 3 = cb (gateT g) + 1 := hc
    refine ⟨by have := gateT_len G; omega, by omega, ?_, nf⟩
    rw [gateT_join]
    refine LW.Asc.join (lit_asc (by decide +kernel)) fun p hp => ?_
    simp only [List.mem_cons, List.not_mem_nil, or_false] at hp
    rcases hp with rfl | rfl | rfl
    · exact lit_asc (by decide +kernel)
    · exact kinds_asc _ G.1
    · exact num_asc G.2.1
  · obtain ⟨x, hx, rfl⟩ := List.mem_map.mp h
    have W := N.wok x hx
    have hx2 := h2 x hx
    have hc := words_count (wireT x)
    rw [wireT_split W.r, List.length_cons, List.length_map, wireN_len] at hc
    refine ⟨?_, by omega, ?_, nf⟩
    · unfold wireT
      rw [Str.length_append]
      have h1 := join_len " " ((wireN x).map numT)
      rw [blank_len, List.length_map, wireN_len] at h1
      have h3 : sumL ((wireN x).map numT) ≤ ((wireN x).map numT).length * 3 := sum_bd fun p hp => by
        obtain ⟨i, hi, rfl⟩ := List.mem_map.mp hp
        have := wireN_bd N hx i hi
        exact num_len this.1 this.2
      rw [List.length_map, wireN_len] at h3
      have h5 : ("wire " : Str).length = 5 := by decide +kernel
      unfold sumL at h3
      omega
    · rw [wireT_join]
      refine LW.Asc.join (lit_asc (by decide +kernel)) fun p hp => ?_
      rcases List.mem_cons.mp hp with rfl | hp
      · exact lit_asc (by decide +kernel)
      · obtain ⟨i, hi, rfl⟩ := List.mem_map.mp hp
        exact num_asc (wireN_pos W.r i hi)
theorem start_bd {gs : List Gt} {ws : List Wr} (N : NetOk gs ws) (hg : gs.length ≤ 20) (hw : ws.length ≤ 60) (h2 : ∀ x ∈ ws, x.2.2.length ≤ 2) : Bd (bnd 0) (80 + 0) (4 + 0) (netT gs ws) :=
  bd_join (by omega) (by unfold rowsT; rw [List.length_append, List.length_map, List.length_map]; omega) (start_row N h2)
theorem empty_bad : ¬ GoodN "" := fun ⟨gs, ws, N, e⟩ => by
  have h := good_words N e
  have h2 : wordsOf "" = [[("" : Str)]] := by decide +kernel
  rw [h2] at h
  match gs, N.ne with
  | g :: r, _ =>
    unfold rdW at h
    injection h with h _
    unfold gW at h
    injection h with h _
    exact absurd h (by decide +kernel)
theorem empty_tb : TextB "" := ⟨by decide +kernel, by decide +kernel, by decide +kernel⟩
/-- all that is asked of the class -/
structure NZ (P : Program) (w : World) (K : PySem.W.Frag) (mg : Str → Option Value) (base : Heap) (C fI fE : Addr) (fdI fdE : FuncData) : Prop where
  T : NT K mg C
  Y : NTy K C
  mk0 : Mk K C fI
  init : FnOk P w K mg base CX0 6 fI fdI ["self", "gates", "wires"] (spInit K C)
  bI : Binds K fdI ["self", "gates", "wires"] []
  eq : FnOk P w K mg base CX0 1 fE fdE ["self", "other"] (spEqN K C)
  sE : PySem.W.findIn K (.ref C) "__eq__" = some (some (.ref fE))
  fnE : PySem.W.isFn K (.ref fE) = true
  bE : Binds K fdE ["self", "other"] []
  sN : PySem.W.findIn K (.ref C) "__ne__" = some (some (.builtin "object.__ne__"))
  k3 : PySem.W.kitOne K (.type "str") (.ref C) = some false
  n3 : PySem.W.notFirst K C (.type "str") = true
theorem first_selfZ {K : PySem.W.Frag} (C : Addr) : PySem.W.notFirst K C (.ref C) = true := by simp [PySem.W.notFirst]
def DueN (K : PySem.W.Frag) (C : Addr) (t : Str) (due : V) (H : Hp) : Prop := (∃ p ng nw gs ws, due = .ref p ∧ NetAt K C H p ng nw gs ws ∧ NetOk gs ws ∧ netT gs ws = t) ∨ (due = .str "no text" ∧ ¬ GoodN t)
theorem DueN.same {K : PySem.W.Frag} {C : Addr} {t : Str} {due : V} {H H' : Hp} (h : DueN K C t due H) (s : Same H H') : DueN K C t due H' := by
  rcases h with ⟨p, ng, nw, gs, ws, e, NA, N, et⟩ | h
  · exact .inl ⟨p, ng, nw, gs, ws, e, NA.same s, N, et⟩
  · exact .inr h
theorem raw_bounds {t : Str} (T : TextB t) {gs : List Gt} {ws : List Wr} (e : wordsOf t = rdW gs ws) : gs.length ≤ 90 ∧ ws.length ≤ 90 ∧ ∀ x ∈ ws, x.2.2.length ≤ 50 := by
  have h1 := T.rows
  have h2 : (wordsOf t).length = (Txt.split t "\n").length := List.length_map ..
  rw [e] at h2
  unfold rdW at h2
  rw [List.length_append, List.length_map, List.length_map] at h2
  refine ⟨by omega, by omega, fun x hx => ?_⟩
  have hm : wW x ∈ wordsOf t := by
    rw [e]
    exact List.mem_append_right _ (List.mem_map_of_mem hx)
  obtain ⟨r, hr, er⟩ := List.mem_map.mp hm
  have h3 := T.words r hr
  have er : Txt.split r " " = wW x := er
  rw [er] at h3
  unfold wW at h3
  rw [List.length_cons, List.length_map, wireN_len] at h3
  omega
def spRight : Sp := fun vs H Q _ => ∃ wl : Addr, vs = [.ref wl] ∧ WellAt wl H ∧ ∀ H', Dr wl H H' → Q (.bl true) H'
section
variable {P : Program} {w : World} {K : PySem.W.Frag} {mg : Str → Option Value} {base : Heap}
abbrev nRight : List Str := ["_law_well_here", "_law_gates", "_law_wires", "_law_text_here", "_law_turn", "_law_parts_here", "_law_due", "_law_found", "_law_odd_here"]
theorem scRight : FnScope nRight ["_law_well_here"] (defScope sRight) := ⟨rfl, rfl, rfl, by decide +kernel, rfl, by decide +kernel, by decide +kernel⟩
abbrev DSpoilt (P : Program) (w : World) (K : PySem.W.Frag) (mg : Str → Option Value) (base : Heap) := Df P w K mg base 5 "_law_spoilt" ["_law_well_here", "_law_text_here"] spSpoilt
abbrev DRowsOf (P : Program) (w : World) (K : PySem.W.Frag) (mg : Str → Option Value) (base : Heap) := Df P w K mg base 2 "_law_rows_of" ["_law_text_here"] (spRowsOf K)
abbrev DIsNet (P : Program) (w : World) (K : PySem.W.Frag) (mg : Str → Option Value) (base : Heap) := Df P w K mg base 1 "_law_is_net" ["_law_gates", "_law_wires"] (spIsNet K)
abbrev DLRead (P : Program) (w : World) (K : PySem.W.Frag) (mg : Str → Option Value) (base : Heap) (C : Addr) := Df P w K mg base 9 "_law_read" ["_law_text_here"] (spLRead K C)
abbrev DRight (P : Program) (w : World) (K : PySem.W.Frag) (mg : Str → Option Value) (base : Heap) := Df P w K mg base 11 "_law_right" ["_law_well_here"] spRight
theorem ok_right {f C fI fE fDD fDO fPa fTx fSp fRo fIs fRe fNt : Addr} {fd fdI fdE fdDD fdDO fdPa fdTx fdSp fdRo fdIs fdRe fdNt : FuncData} (F : Fun K "_law_right" "_law_right" sRight f fd) (B : Bt mg) (Z : NZ P w K mg base C fI fE fdI fdE)
    (DD : DDraw P w K mg base fDD fdDD) (DOn : DOne P w K mg base fDO fdDO) (DPa : DParts P w K mg base fPa fdPa) (DTx : DLText P w K mg base fTx fdTx) (DSp : DSpoilt P w K mg base fSp fdSp) (DRo : DRowsOf P w K mg base fRo fdRo) (DIs : DIsNet P w K mg base fIs fdIs) (DRe : DLRead P w K mg base C fRe fdRe) (DNt : DNetT P w K mg base C fNt fdNt) :
    FnOk P w K mg base CX0 11 f fd ["_law_well_here"] spRight := by
  refine F.ok scRight (fun vs H Q E h => ?_) (fun cdv A outer s H vs Q E hr h => ?_)
  · obtain ⟨wl, rfl, _⟩ := h
    rfl
  · obtain ⟨wl, rfl, hw, q⟩ := h
    have nd := scRight.nd
    have hr7 : Room 7 _ := hr.mono (by decide)
    have hr2 : Room 2 _ := hr.mono (by decide)
    refine ⟨_, pss_cons (ps_asg (pe_call DPa.ok (hr.mono (by decide)) (by rfl) DPa.mg DPa.kp DPa.bd .nil pass0 (pa_cons (pv 0) (pa_cons pe_int pa_nil))) (pg_tup rfl (pgs_cons (pg_name (i := 1) nd rfl (.inl rfl)) (pgs_cons (pg_name (i := 2) nd rfl (.inl rfl)) pgs_nil)))) <|
        pss_cons (ps_set (i := 3) nd rfl (.inl rfl) (pe_call DTx.ok (hr.mono (by decide)) (by rfl) DTx.mg DTx.kp DTx.bd .nil pass0 (pa_cons (pv 1) (pa_cons (pv 2) pa_nil)))) <|
        pss_cons (ps_for PassesOwn.never rfl (pi_range1 (by rfl) B.range (pa_cons (pe_call DD.ok (hr.mono (by decide)) (by rfl) DD.mg DD.kp DD.bd .nil pass0 (pa_cons (pv 0) (pa_cons pe_int pa_nil))) pa_nil)) (pg_name (i := 4) nd rfl (.inl rfl)) (pss_one (ps_set (i := 3) nd rfl (.inl rfl) (pe_call DSp.ok (hr.mono (by decide)) (by rfl) DSp.mg DSp.kp DSp.bd .nil pass0 (pa_cons (pv 0) (pa_cons (pv 3) pa_nil)))))) <|
        pss_cons (ps_set (i := 5) nd rfl (.inl rfl) (pe_call DRo.ok (hr.mono (by decide)) (by rfl) DRo.mg DRo.kp DRo.bd .nil pass0 (pa_cons (pv 3) pa_nil))) <|
        pss_cons (ps_set (i := 6) nd rfl (.inl rfl) pe_str) <|
        Evl.pss_cut (ps_if (PW.pt (pw_and (pt_cmpR op_notN (pv 5) pe_non (nomark _)) (pw_and1 (pt_val (pe_call DIs.ok (hr.mono (by decide)) (by rfl) DIs.mg DIs.kp DIs.bd .nil pass0 (pa_cons (pe_ix ix_tup (pv 5) pe_int (fun _ _ => rfl)) (pa_cons (pe_ix ix_tup (pv 5) pe_int (fun _ _ => rfl)) pa_nil))))))) (pss_one (ps_set (i := 6) nd rfl (.inl rfl) (pe_make Z.mk0 Z.init hr7 (by rfl) Z.T.mg Z.bI .nil pass0 (pa_cons (pe_ix ix_tup (pv 5) pe_int (fun _ _ => rfl)) (pa_cons (pe_ix ix_tup (pv 5) pe_int (fun _ _ => rfl)) pa_nil))))) pss_nil) <|
        pss_cons (ps_for PassesOwn.never rfl (pi_range1 (by rfl) B.range (pa_cons pe_int pa_nil)) (pg_name (i := 4) nd rfl (.inl rfl)) (pss_cons (ps_set (i := 7) nd rfl (.inl rfl) (pe_call DRe.ok (hr.mono (by decide)) (by rfl) DRe.mg DRe.kp DRe.bd .nil pass0 (pa_cons (pv 3) pa_nil))) <|
        pss_one (ps_if (PW.pt (pw_or (pt_cmpR (OpR.or (op_neO Z.eq Z.sE Z.sN Z.Y.hm Z.fnE Z.bE hr2) op_ne) (pv 7) (pv 6) (nomark _)) (pw_or1 (PW.pt (pw_and (pt_cmpR (OpR.or (op_neO Z.eq Z.sE Z.sN Z.Y.hm Z.fnE Z.bE hr2) op_ne) (pv 6) pe_str (nomark _)) (pw_and1 (pt_cmpR op_ne (pe_call DNt.ok (hr.mono (by decide)) (by rfl) DNt.mg DNt.kp DNt.bd .nil pass0 (pa_cons (pv 7) pa_nil)) (pv 3) (nomark _)))))))) (pss_one (ps_ret pe_bl)) pss_nil))) <|
        pss_cons (ps_set (i := 8) nd rfl (.inl rfl) (pe_call DOn.ok (hr.mono (by decide)) (by rfl) DOn.mg DOn.kp DOn.bd .nil pass0 (pa_cons (pv 0) (pa_cons (pe_lst (pa_cons pe_non (pa_cons pe_int (pa_cons (pe_lst (pa_cons (pv 3) pa_nil)) (pa_cons (pe_tup (pa_cons (pv 3) pa_nil)) (pa_cons pe_bl (pa_cons (pv 1) (pa_cons pe_dnewK pa_nil)))))))) pa_nil)))) <|
        pss_one (ps_ret (pe_and (pe_cmpR op_eq (pe_call DRe.ok (hr.mono (by decide)) (by rfl) DRe.mg DRe.kp DRe.bd .nil pass0 (pa_cons (pv 8) pa_nil)) pe_str (nomark _)) (pe_one (pe_cmpR op_eq (pe_call DRe.ok (hr.mono (by decide)) (by rfl) DRe.mg DRe.kp DRe.bd .nil pass0 (pa_cons pe_str pa_nil)) pe_str (nomark _))))), ?_⟩
    refine ⟨_, rfl, wl, 6, rfl, by decide, by decide, hw, fun gs0 ws0 lg lw p0 H1 N0 hgl hwr hwl60 E1 hlg hlw nlw G1 W1 hp0 => ?_⟩
    refine ⟨p0, _, rfl, .inl (.inl hp0), rfl, _, _, rfl, _, _, rfl, rfl, ?_⟩
    have nlg : lg ≠ wl := (hw.ne hlg).symm
    obtain ⟨gv, hgv, ga⟩ := id G1
    refine ⟨_, rfl, _, rfl, lg, lw, gs0, ws0, rfl, G1, W1, N0, fun H2 s2 => ?_⟩
    have E2 : Dr wl H H2 := E1.trans (Dr.ofSame E1.well s2)
    have hgv2 := s2 _ _ hgv
    refine gn_norm (σ' := [some (.ref wl), some (.ref lg), some (.ref lw), some (.str (netT gs0 ws0)), none, none, none, none, none]) rfl ?_
    -- spoilt
    refine ⟨_, rfl, wl, 3, rfl, by decide, by decide, E2.well, fun d H3 d0 d1 E3 => ?_⟩
    refine ⟨d, rfl, by omega, by omega, for_range (lo := 0) (n := d.toNat) (fun i σ H' => ∃ (t : Str) (s4 : Option V), σ = [some (.ref wl), some (.ref lg), some (.ref lw), some (.str t), s4, none, none, none, none] ∧ Dr wl H H' ∧ Bd (bnd i) (80 + i) (4 + i) t ∧ H' lg = some (.lst gv)) ⟨_, none, rfl, E2.trans E3, start_bd N0 hgl hwl60 hwr, E3.but _ _ nlg hgv2⟩ ?_ ?_⟩
    · rintro i σ H4 hi ⟨t, s4, rfl, E4, hB, hg4⟩
      have hi2 : i ≤ 1 := by omega
      have TB := (hB.end (by omega)).tb (by decide) (by decide) (by decide)
      have hb : bnd i ≤ 84 := by
        match i, hi2 with
        | 0, _ => decide
        | 1, _ => decide
      refine ⟨_, rfl, _, rfl, wl, t, bnd i, 80 + i, 4 + i, rfl, E4.well, hB, by omega, by omega, by omega, by omega, by have := TB.len; omega, fun u H5 hu E5 => ?_⟩
      exact ⟨u, _, rfl, E4.trans E5, hu, E5.but _ _ nlg hg4⟩
    rintro σ H4 ⟨t, s4, rfl, E4, hB, hg4⟩
    have hB := hB.end (by omega)
    have TB := hB.tb (by decide) (by decide) (by decide)
    have has := hB.asc
    -- the rows
    refine ⟨_, rfl, t, rfl, TB, has, fun v H5 s5 RP => ?_⟩
    refine gn_norm (σ' := [some (.ref wl), some (.ref lg), some (.ref lw), some (.str t), s4, some v, none, none, none]) rfl ?_
    have E5 : Dr wl H H5 := E4.trans (Dr.ofSame E4.well s5)
    have hg5 := s5 _ _ hg4
    refine ⟨fun σ H' => ∃ due, σ = [some (.ref wl), some (.ref lg), some (.ref lw), some (.str t), s4, some v, some due, none, none] ∧ Same H5 H' ∧ DueN K C t due H', ?_, ?_⟩
    · rcases RP with ⟨gs, ws, p, lg', lw', rfl, Raw, ew, hp, LGa, LWa⟩ | ⟨rfl, bad⟩
      · obtain ⟨b1, b2, b3⟩ := raw_bounds TB ew
        refine ⟨_, rfl, rfl, true, ?_, iteT ?_⟩
        · show V.bl (!decide (V.ref p = V.non)) = V.bl true
          rw [decide_eq_false (fun z => by cases z)]
          rfl
        refine ⟨_, rfl, p, _, 0, _, rfl, rfl, SqT.of hp, atI_nat (j := 0) rfl, _, rfl, p, _, 1, _, rfl, rfl, SqT.of hp, atI_nat (j := 1) rfl, lg', lw', gs, ws, rfl, LGa, LWa, Raw, b1, b2, b3, fun b H6 s6 hb => ⟨b, rfl, ?_⟩⟩
        have hp6 := s6 _ _ hp
        cases b with
        | true =>
          have N := hb.mp rfl
          refine iteT ?_
          refine ⟨_, rfl, p, _, 0, _, rfl, rfl, SqT.of hp6, atI_nat (j := 0) rfl, _, rfl, p, _, 1, _, rfl, rfl, SqT.of hp6, atI_nat (j := 1) rfl, ?_⟩
          refine net_in (LGa.same s6).rg (LWa.same s6).rw N fun pn ng nw H7 NA s7 hpn hng hnw => ?_
          exact ⟨_, rfl, s6.trans s7, .inl ⟨pn, ng, nw, gs, ws, rfl, NA, N, words_text ew⟩⟩
        | false =>
          refine iteF ⟨_, rfl, s6, .inr ⟨rfl, fun good => ?_⟩⟩
          obtain ⟨gs', ws', N', e'⟩ := good
          have e2 := good_words N' e'
          obtain ⟨rfl, rfl⟩ := rd_inj Raw N'.raw (ew.symm.trans e2)
          exact absurd (hb.mpr N') (by decide)
      · refine ⟨_, rfl, rfl, false, ?_, iteF (iteF ⟨_, rfl, Same.refl _, .inr ⟨rfl, bad⟩⟩)⟩
        show V.bl (!decide (V.non = V.non)) = V.bl false
        rw [decide_eq_true rfl]
        rfl
    rintro σ H6 ⟨due, rfl, s6, DU⟩
    have E6 : Dr wl H H6 := E5.trans (Dr.ofSame E5.well s6)
    have hg6 := s6 _ _ hg5
    refine ⟨2, rfl, by decide, by decide, for_range (lo := 0) (n := (2 : Int).toNat) (fun i σ H' => ∃ s4 s7 : Option V, σ = [some (.ref wl), some (.ref lg), some (.ref lw), some (.str t), s4, some v, some due, s7, none] ∧ Same H6 H') ⟨_, _, rfl, Same.refl _⟩ ?_ ?_⟩
    · rintro i σ H7 hi ⟨s4', s7', rfl, sm⟩
      refine gn_norm (σ' := [some (.ref wl), some (.ref lg), some (.ref lw), some (.str t), some (.int (0 + (i : Int))), some v, some due, s7', none]) rfl ?_
      have DU7 := DU.same sm
      have neq : ∀ x : Str, V.bl (!decide (V.str x = V.str x)) = V.bl false := fun x => by
        rw [decide_eq_true rfl]
        rfl
      rcases DU7 with ⟨p, ng, nw, gs, ws, rfl, NA, N, et⟩ | ⟨rfl, bad⟩
      · refine ⟨_, rfl, .str t, rfl, .inl ⟨gs, ws, by rw [et], N, fun p' ng' nw' H8 s8 NA' hp' => ?_⟩⟩
        refine gn_norm (σ' := [some (.ref wl), some (.ref lg), some (.ref lw), some (.str t), some (.int (0 + (i : Int))), some v, some (.ref p), some (.ref p'), none]) rfl ?_
        have NA8 := NA.same s8
        obtain ⟨dx', ob'⟩ := NA'.ob
        obtain ⟨dx, ob⟩ := NA8.ob
        refine ⟨_, rfl, _, rfl, .inl ⟨p', dx', _, .ref C, rfl, ob', ty_net Z.T Z.Y ob, first_selfZ C, p', ng', nw', gs, ws, .ref p, rfl, NA', .inl ⟨p, ng, nw, gs, ws, rfl, NA8, N.gok, N.gok, _, rfl, false, ?_, iteF ?_⟩⟩⟩
        · rw [decide_eq_true rfl, decide_eq_true rfl]
          rfl
        refine ⟨_, rfl, .inl ⟨p, dx, _, .type "str", rfl, ob, .str _, Z.n3, p, ng, nw, gs, ws, .str "no text", rfl, NA8, .inr ⟨.type "str", .base (.str _), Z.k3, false, rfl, true, rfl, iteT ?_⟩⟩⟩
        refine ⟨_, rfl, p', ng', nw', gs, ws, rfl, NA', N, fun H9 s9 => ?_⟩
        refine ⟨_, rfl, rfl, false, by rw [et]; exact neq t, iteF ⟨_, _, rfl, (sm.trans s8).trans s9⟩⟩
      · refine ⟨_, rfl, .str t, rfl, .inr ⟨.inl ⟨t, rfl, TB, bad⟩, fun H8 s8 => ?_⟩⟩
        refine gn_norm (σ' := [some (.ref wl), some (.ref lg), some (.ref lw), some (.str t), some (.int (0 + (i : Int))), some v, some (.str "no text"), some (.str "no text"), none]) rfl ?_
        refine ⟨_, rfl, _, rfl, .inr ⟨rfl, false, neq _, iteF ?_⟩⟩
        exact ⟨_, rfl, .inr ⟨rfl, false, neq _, iteF (iteF ⟨_, _, rfl, sm.trans s8⟩)⟩⟩
    rintro σ H7 ⟨s4', s7', rfl, sm⟩
    have E7 : Dr wl H H7 := E6.trans (Dr.ofSame E6.well sm)
    have hg7 := sm _ _ hg6
    -- what is no text
    refine ⟨_, rfl, _, rfl, (by show 1 ≤ sizeLine; decide), fun a1 ha1 => ?_⟩
    have sa : Same H7 (upd H7 a1 (.lst [.str t])) := same_new ha1
    have ea : (upd H7 a1 (.lst [.str t])) a1 = some (.lst [.str t]) := upd_same
    have n1 : a1 ≠ wl := (E7.well.ne ha1).symm
    generalize upd H7 a1 (.lst [.str t]) = Ha at sa ea
    have Ea : Dr wl H Ha := E7.trans (Dr.ofSame E7.well sa)
    refine ⟨_, rfl, (by show 1 ≤ sizeLine; decide), fun a2 ha2 => ?_⟩
    have sb : Same Ha (upd Ha a2 (.tup [.str t])) := same_new ha2
    have eb : (upd Ha a2 (.tup [.str t])) a2 = some (.tup [.str t]) := upd_same
    have n2 : a2 ≠ wl := (Ea.well.ne ha2).symm
    generalize upd Ha a2 (.tup [.str t]) = Hb at sb eb
    have Eb : Dr wl H Hb := Ea.trans (Dr.ofSame Ea.well sb)
    refine ⟨_, rfl, fun a3 ha3 => ?_⟩
    have sc : Same Hb (upd Hb a3 (.dK [])) := same_new ha3
    have ec : (upd Hb a3 (.dK [])) a3 = some (.dK []) := upd_same
    have n3 : a3 ≠ wl := (Eb.well.ne ha3).symm
    generalize upd Hb a3 (.dK []) = Hc at sc ec
    have Ec : Dr wl H Hc := Eb.trans (Dr.ofSame Eb.well sc)
    refine ⟨(by show 7 ≤ sizeLine; decide), fun l7 hl7 => ?_⟩
    have sd : Same Hc (upd Hc l7 (.lst [.non, .int 5, .ref a1, .ref a2, .bl true, .ref lg, .ref a3])) := same_new hl7
    have ed : (upd Hc l7 (.lst [.non, .int 5, .ref a1, .ref a2, .bl true, .ref lg, .ref a3])) l7 = some (.lst [.non, .int 5, .ref a1, .ref a2, .bl true, .ref lg, .ref a3]) := upd_same
    have n7 : l7 ≠ wl := (Ec.well.ne hl7).symm
    generalize upd Hc l7 (.lst [.non, .int 5, .ref a1, .ref a2, .bl true, .ref lg, .ref a3]) = Hd at sd ed
    have Ed : Dr wl H Hd := Ec.trans (Dr.ofSame Ec.well sd)
    refine ⟨wl, l7, _, rfl, n7, Ed.well, SqL.of ed, by simp, by show 7 < 1000000; decide, fun y H8 hy E8 => ?_⟩
    have f1 := E8.but _ _ n1 (sd _ _ (sc _ _ (sb _ _ ea)))
    have f2 := E8.but _ _ n2 (sd _ _ (sc _ _ eb))
    have f3 := E8.but _ _ n3 (sd _ _ ec)
    have fg := E8.but _ _ nlg (sd _ _ (sc _ _ (sb _ _ (sa _ _ hg7))))
    have NS : NoStr K H8 y := by
      simp only [List.mem_cons, List.not_mem_nil, or_false] at hy
      rcases hy with rfl | rfl | rfl | rfl | rfl | rfl | rfl
      · exact ⟨"NoneType", .base .non, by decide +kernel⟩
      · exact ⟨"int", .base (.int _), by decide +kernel⟩
      · exact ⟨"list", .base (.lst f1), by decide +kernel⟩
      · exact ⟨"tuple", .base (.tup f2), by decide +kernel⟩
      · exact ⟨"bool", .base (.bl _), by decide +kernel⟩
      · exact ⟨"list", .base (.lst fg), by decide +kernel⟩
      · exact ⟨"dict", .base (.dK f3), by decide +kernel⟩
    have E8' := Ed.trans E8
    refine gn_norm (σ' := [some (.ref wl), some (.ref lg), some (.ref lw), some (.str t), s4', some v, some due, s7', some y]) rfl ?_
    refine ⟨_, rfl, y, rfl, .inr ⟨.inr NS, fun H9 s9 => ?_⟩⟩
    refine ⟨rfl, true, by rw [decide_eq_true rfl], iteT ?_⟩
    refine ⟨.str "", rfl, .inr ⟨.inl ⟨"", rfl, empty_tb, empty_bad⟩, fun H10 s10 => ?_⟩⟩
    refine ⟨rfl, ?_⟩
    rw [decide_eq_true rfl]
    exact q H10 (E8'.trans (Dr.ofSame E8'.well (s9.trans s10)))
def spLaw (K : PySem.W.Frag) : Sp := fun vs H Q _ => ∃ (a : Addr) (ns : List Int), vs = [.ref a] ∧ SqL K H a (ns.map V.int) ∧ ns.length ≤ 63 ∧ ∀ H', Q (.bl true) H'
theorem mem_cutZ {xs : List V} {lo hi : Option Int} {v : V} (h : v ∈ cutV xs lo hi) : v ∈ xs := by
  unfold cutV at h
  exact List.mem_of_mem_drop (List.mem_of_mem_take h)
theorem scLaw : FnScope ["_law_script", "_law_cell"] ["_law_script"] (defScope sLaw) := ⟨rfl, rfl, rfl, by decide +kernel, rfl, by decide +kernel, by decide +kernel⟩
theorem ok_law {f fC fW fR : Addr} {fd fdC fdW fdR : FuncData} (F : Fun K "law" "law" sLaw f fd) (DC : DCellAt P w K mg base fC fdC) (DW : DWell P w K mg base fW fdW) (DR : DRight P w K mg base fR fdR) : FnOk P w K mg base CX0 12 f fd ["_law_script"] (spLaw K) := by
  refine F.ok scLaw (fun vs H Q E h => ?_) (fun cdv A outer s H vs Q E hr h => ?_)
  · obtain ⟨a, ns, rfl, _⟩ := h
    rfl
  · obtain ⟨a, ns, rfl, hS, hlen, q⟩ := h
    have nd := scLaw.nd
    have hr1 : Room 1 _ := hr.mono (by decide)
    refine ⟨_, pss_cons (ps_for PassesOwn.never rfl (pi_list (pe_op op_cat (pe_lst (pa_cons (pe_call DC.ok hr1 (by rfl) DC.mg DC.kp DC.bd .nil pass0 (pa_cons (pv 0) (pa_cons pe_int pa_nil))) pa_nil)) (pe_slice sl_list (pv 0) (po_some pe_int) (po_some pe_int)))) (pg_name (i := 1) nd rfl (.inl rfl)) <|
        pss_one <| ps_if (pt_not (pt_val (pe_call DR.ok hr (by rfl) DR.mg DR.kp DR.bd .nil pass0 (pa_cons (pe_call DW.ok hr1 (by rfl) DW.mg DW.kp DW.bd .nil pass0 (pa_cons (pv 1) pa_nil)) pa_nil)))) (pss_one (ps_ret pe_bl)) pss_nil) <|
      pss_one (ps_ret pe_bl), ?_⟩
    refine ⟨_, rfl, a, ns, 0, rfl, Int.le_refl 0, hS, fun z => ?_⟩
    refine ⟨(by show 1 ≤ sizeLine; decide), fun l1 hl1 => ?_⟩
    have s1 : Same H (upd H l1 (.lst [.int z])) := same_new hl1
    refine ⟨_, rfl, _, rfl, _, rfl, a, _, rfl, s1.seq hS, fun l2 hl2 => ?_⟩
    have hcl : (cutV (ns.map V.int) (some 1) (some 10)).length ≤ 63 := by
      have := cutV_length (ns.map V.int) (some 1) (some 10)
      rw [List.length_map] at this
      omega
    refine ⟨l1, l2, _, _, rfl, rfl, same_new hl2 _ _ upd_same, upd_same, ?_, fun l3 hl3 => ?_⟩
    · show 1 + _ ≤ sizeLine
      exact Nat.le_of_lt (small1000 (by omega))
    refine ⟨l3, rfl, ⟨_, SqL.of upd_same⟩, for_list (K := K) (a := l3) (xs := [.int z] ++ cutV (ns.map V.int) (some 1) (some 10)) (fun i σ H' => ∃ s1 : Option V, σ = [some (.ref a), s1] ∧ H' l3 = some (.lst ([.int z] ++ cutV (ns.map V.int) (some 1) (some 10))))
      ⟨_, rfl, upd_same⟩ (fun i σ H' _ ⟨_, _, e⟩ => SqL.of e) ?_ ?_⟩
    · rintro i x σ H' hx ⟨s1', rfl, e3⟩
      obtain ⟨c, rfl⟩ : ∃ c, x = V.int c := by
        rcases List.mem_append.mp (List.mem_of_getElem? hx) with hm | hm
        · simp at hm
          exact ⟨z, hm⟩
        · obtain ⟨c, _, rfl⟩ := List.mem_map.mp (mem_cutZ hm)
          exact ⟨c, rfl⟩
      refine ⟨_, rfl, c, rfl, fun wl H1 hwl sm W => ?_⟩
      refine ⟨wl, rfl, W, fun H2 D => ⟨true, rfl, iteF ⟨_, rfl, ?_⟩⟩⟩
      exact D.but _ _ (ne_of_none e3 hwl) (sm _ _ e3)
    · rintro σ H' ⟨s1', rfl, e3⟩
      exact q H'
end
end Lag

set_option maxRecDepth 100000
set_option maxHeartbeats 8000000
namespace Lag
open PySem PySem.Spec PyProof.Rows L2
theorem exm_of {K : PySem.W.Frag} {S C : Addr} (h1 : PySem.W.subIn K (.ref C) (.type "BaseException") = some true) (h2 : PySem.W.isClsIn K C = true) (h3 : PySem.W.typeIn K (.ref C) = some (.type "type")) (h4 : PySem.W.subIn K (.ref S) (.ref C) = some true) :
    PySem.W.exmOne K (.ref S) (.ref C) = some true := by
  have e1 : (PySem.W.subIn K (.ref C) (.type "BaseException") == some true) = true := by rw [h1] <;> rfl
  have e2 : ((PySem.W.clsIn K C).isSome && PySem.W.typeIn K (.ref C) == some (.type "type")) = true := by
    have h2' : (PySem.W.clsIn K C).isSome = true := h2
    rw [h2', h3] <;> rfl
  show (if (PySem.W.subIn K (.ref C) (.type "BaseException") == some true) = true then (if ((PySem.W.clsIn K C).isSome && PySem.W.typeIn K (.ref C) == some (.type "type")) = true then PySem.W.subIn K (.ref S) (.ref C) else none) else none) = some true
  rw [if_pos e1, if_pos e2]
  exact h4
theorem kit_type {K : PySem.W.Frag} {S : Addr} {T : String} {b : Bool} (h1 : PySem.W.kitMeta T = true) (h2 : PySem.W.subIn K (.ref S) (.type T) = some b) : PySem.W.kitOne K (.ref S) (.type T) = some b := by
  have e0 : ((Value.ref S) == (Value.type T)) = false := rfl
  show (if ((Value.ref S) == (Value.type T)) = true then some true else (if PySem.W.kitMeta T = true then PySem.W.subIn K (.ref S) (.type T) else none)) = some b
  rw [e0, if_neg (by decide), if_pos h1]
  exact h2
theorem kit_not {K : PySem.W.Frag} {S C : Addr} (h2 : PySem.W.isClsIn K C = true) (h3 : PySem.W.typeIn K (.ref C) = some (.type "type")) (h4 : PySem.W.subIn K (.ref S) (.ref S) = some true) (h5 : PySem.W.subIn K (.ref S) (.ref C) = some false) :
    PySem.W.kitOne K (.ref S) (.ref C) = some false := by
  have ne : ¬ (((Value.ref S) == (Value.ref C)) = true) := fun z => by
    have z' : S = C := by
      have z2 := beq_iff_eq.mp z
      cases z2
      rfl
    rw [z'] at h4 h5
    rw [h4] at h5
    cases h5
  have e2 : ((PySem.W.clsIn K C).isSome && PySem.W.typeIn K (.ref C) == some (.type "type")) = true := by
    have h2' : (PySem.W.clsIn K C).isSome = true := h2
    rw [h2', h3] <;> rfl
  show (if ((Value.ref S) == (Value.ref C)) = true then some true else (if ((PySem.W.clsIn K C).isSome && PySem.W.typeIn K (.ref C) == some (.type "type")) = true then PySem.W.subIn K (.ref S) (.ref C) else none)) = some false
  rw [if_neg ne, if_pos e2]
  exact h5
theorem exm_any {K : PySem.W.Frag} {S C : Addr} {b : Bool} (h1 : PySem.W.subIn K (.ref C) (.type "BaseException") = some true) (h2 : PySem.W.isClsIn K C = true) (h3 : PySem.W.typeIn K (.ref C) = some (.type "type")) (h4 : PySem.W.subIn K (.ref S) (.ref C) = some b) :
    PySem.W.exmOne K (.ref S) (.ref C) = some b := by
  have e1 : (PySem.W.subIn K (.ref C) (.type "BaseException") == some true) = true := by rw [h1] <;> rfl
  have e2 : ((PySem.W.clsIn K C).isSome && PySem.W.typeIn K (.ref C) == some (.type "type")) = true := by
    have h2' : (PySem.W.clsIn K C).isSome = true := h2
    rw [h2', h3] <;> rfl
  show (if (PySem.W.subIn K (.ref C) (.type "BaseException") == some true) = true then (if ((PySem.W.clsIn K C).isSome && PySem.W.typeIn K (.ref C) == some (.type "type")) = true then PySem.W.subIn K (.ref S) (.ref C) else none) else none) = some b
  rw [if_pos e1, if_pos e2]
  exact h4
theorem kitAny_cons {K : PySem.W.Frag} {t c : Value} {r : List Value} {b : Bool} (h : PySem.W.kitOne K t c = some false) (h2 : PySem.W.kitAny K t r = some b) : PySem.W.kitAny K t (c :: r) = some b := by
  unfold PySem.W.kitAny
  rw [h]
  exact h2
theorem exm_three {K : PySem.W.Frag} {t a b c : Value} {x y z r : Bool} (h1 : PySem.W.exmOne K t a = some x) (h2 : PySem.W.exmOne K t b = some y) (h3 : PySem.W.exmOne K t c = some z) (e : (x || (y || (z || false))) = r) : PySem.W.exmAny K t [a, b, c] = some r := by
  unfold PySem.W.exmAny
  unfold PySem.W.exmAny
  unfold PySem.W.exmAny
  unfold PySem.W.exmAny
  rw [h1, h2, h3, ← e]
theorem kit_noZ {K : PySem.W.Frag} {C : Addr} {T : String} (h1 : PySem.W.isClsIn K C = true) (h2 : PySem.W.typeIn K (.ref C) = some (.type "type")) (h3 : PySem.W.subIn K (.type T) (.ref C) = some false) : PySem.W.kitOne K (.type T) (.ref C) = some false := by
  unfold PySem.W.kitOne
  rw [if_neg (by simp)]
  show (if ((PySem.W.clsIn K C).isSome && PySem.W.typeIn K (.ref C) == some (.type "type")) = true then PySem.W.subIn K (.type T) (.ref C) else none) = some false
  have h1' : (PySem.W.clsIn K C).isSome = true := h1
  rw [h1', h2]
  exact h3
theorem not_firstZ {K : PySem.W.Frag} {C : Addr} {T : String} (h3 : PySem.W.subIn K (.type T) (.ref C) = some false) : PySem.W.notFirst K C (.type T) = true := by
  unfold PySem.W.notFirst
  rw [h3]
  simp
theorem all_mk {l : PySem.W.OpenLaw} {w : World} {K : PySem.W.Frag} {h : Heap} {mg : Str → Option Value} {fa C : Addr} (X : K.In h) (G : h.Ns mainGlobals mg) (hfa : mg "law" = some (.ref fa))
    {C0 CT CG CW CR fN fM : Addr} {nmNW qNW : Str} {NTNW : Addr} {bsNW : List Value} {snNW : List Str} {subNW : List Value} {abNW : Bool} {colNW : Option Bool} {ddNW : Option Addr} {m0NW m1NW m2NW m3NW m5NW : Option Value} {odNW anNW : Option Addr} {slNW : Array (Option Value)} {ocNW kVNW dcNW pmNW cdvNW ctNW : Value} {nmNR qNR : Str} {NTNR : Addr} {bsNR : List Value} {snNR : List Str} {subNR : List Value} {abNR : Bool} {colNR : Option Bool} {ddNR : Option Addr} {m0NR m1NR m2NR m3NR m5NR : Option Value} {odNR anNR : Option Addr} {slNR : Array (Option Value)} {ocNR kVNR dcNR pmNR cdvNR ctNR : Value}
    {fd0 : Addr} {odd0 and0 : Option Addr} {sld0 : Array (Option Value)} {ocd0 kVd0 dcd0 pmd0 cdd0 ctd0 : Value}
    {fd1 : Addr} {odd1 and1 : Option Addr} {sld1 : Array (Option Value)} {ocd1 kVd1 dcd1 pmd1 cdd1 ctd1 : Value}
    {fd2 : Addr} {odd2 and2 : Option Addr} {sld2 : Array (Option Value)} {ocd2 kVd2 dcd2 pmd2 cdd2 ctd2 : Value}
    {fd3 : Addr} {odd3 and3 : Option Addr} {sld3 : Array (Option Value)} {ocd3 kVd3 dcd3 pmd3 cdd3 ctd3 : Value}
    {fd4 : Addr} {odd4 and4 : Option Addr} {sld4 : Array (Option Value)} {ocd4 kVd4 dcd4 pmd4 cdd4 ctd4 : Value}
    {fd5 : Addr} {odd5 and5 : Option Addr} {sld5 : Array (Option Value)} {ocd5 kVd5 dcd5 pmd5 cdd5 ctd5 : Value}
    {fd6 : Addr} {odd6 and6 : Option Addr} {sld6 : Array (Option Value)} {ocd6 kVd6 dcd6 pmd6 cdd6 ctd6 : Value}
    {fd7 : Addr} {odd7 and7 : Option Addr} {sld7 : Array (Option Value)} {ocd7 kVd7 dcd7 pmd7 cdd7 ctd7 : Value}
    {fd8 : Addr} {odd8 and8 : Option Addr} {sld8 : Array (Option Value)} {ocd8 kVd8 dcd8 pmd8 cdd8 ctd8 : Value}
    {fd9 : Addr} {odd9 and9 : Option Addr} {sld9 : Array (Option Value)} {ocd9 kVd9 dcd9 pmd9 cdd9 ctd9 : Value}
    {fd10 : Addr} {odd10 and10 : Option Addr} {sld10 : Array (Option Value)} {ocd10 kVd10 dcd10 pmd10 cdd10 ctd10 : Value}
    {fd11 : Addr} {odd11 and11 : Option Addr} {sld11 : Array (Option Value)} {ocd11 kVd11 dcd11 pmd11 cdd11 ctd11 : Value}
    {fd12 : Addr} {odd12 and12 : Option Addr} {sld12 : Array (Option Value)} {ocd12 kVd12 dcd12 pmd12 cdd12 ctd12 : Value}
    {fd13 : Addr} {odd13 and13 : Option Addr} {sld13 : Array (Option Value)} {ocd13 kVd13 dcd13 pmd13 cdd13 ctd13 : Value}
    {fd14 : Addr} {odd14 and14 : Option Addr} {sld14 : Array (Option Value)} {ocd14 kVd14 dcd14 pmd14 cdd14 ctd14 : Value}
    {fd15 : Addr} {odd15 and15 : Option Addr} {sld15 : Array (Option Value)} {ocd15 kVd15 dcd15 pmd15 cdd15 ctd15 : Value}
    {fd16 : Addr} {odd16 and16 : Option Addr} {sld16 : Array (Option Value)} {ocd16 kVd16 dcd16 pmd16 cdd16 ctd16 : Value}
    {fd17 : Addr} {odd17 and17 : Option Addr} {sld17 : Array (Option Value)} {ocd17 kVd17 dcd17 pmd17 cdd17 ctd17 : Value}
    {fd18 : Addr} {odd18 and18 : Option Addr} {sld18 : Array (Option Value)} {ocd18 kVd18 dcd18 pmd18 cdd18 ctd18 : Value}
    {fd19 : Addr} {odd19 and19 : Option Addr} {sld19 : Array (Option Value)} {ocd19 kVd19 dcd19 pmd19 cdd19 ctd19 : Value}
    {fd20 : Addr} {odd20 and20 : Option Addr} {sld20 : Array (Option Value)} {ocd20 kVd20 dcd20 pmd20 cdd20 ctd20 : Value}
    {fd21 : Addr} {odd21 and21 : Option Addr} {sld21 : Array (Option Value)} {ocd21 kVd21 dcd21 pmd21 cdd21 ctd21 : Value}
    {fd22 : Addr} {odd22 and22 : Option Addr} {sld22 : Array (Option Value)} {ocd22 kVd22 dcd22 pmd22 cdd22 ctd22 : Value}
    {fd23 : Addr} {odd23 and23 : Option Addr} {sld23 : Array (Option Value)} {ocd23 kVd23 dcd23 pmd23 cdd23 ctd23 : Value}
    {fd24 : Addr} {odd24 and24 : Option Addr} {sld24 : Array (Option Value)} {ocd24 kVd24 dcd24 pmd24 cdd24 ctd24 : Value}
    {fd25 : Addr} {odd25 and25 : Option Addr} {sld25 : Array (Option Value)} {ocd25 kVd25 dcd25 pmd25 cdd25 ctd25 : Value}
    {fd26 : Addr} {odd26 and26 : Option Addr} {sld26 : Array (Option Value)} {ocd26 kVd26 dcd26 pmd26 cdd26 ctd26 : Value}
    {fd27 : Addr} {odd27 and27 : Option Addr} {sld27 : Array (Option Value)} {ocd27 kVd27 dcd27 pmd27 cdd27 ctd27 : Value}
    {fd28 : Addr} {odd28 and28 : Option Addr} {sld28 : Array (Option Value)} {ocd28 kVd28 dcd28 pmd28 cdd28 ctd28 : Value}
    {fd29 : Addr} {odd29 and29 : Option Addr} {sld29 : Array (Option Value)} {ocd29 kVd29 dcd29 pmd29 cdd29 ctd29 : Value}
    {fd30 : Addr} {odd30 and30 : Option Addr} {sld30 : Array (Option Value)} {ocd30 kVd30 dcd30 pmd30 cdd30 ctd30 : Value}
    {fd31 : Addr} {odd31 and31 : Option Addr} {sld31 : Array (Option Value)} {ocd31 kVd31 dcd31 pmd31 cdd31 ctd31 : Value}
    {fd32 : Addr} {odd32 and32 : Option Addr} {sld32 : Array (Option Value)} {ocd32 kVd32 dcd32 pmd32 cdd32 ctd32 : Value}
    {fd33 : Addr} {odd33 and33 : Option Addr} {sld33 : Array (Option Value)} {ocd33 kVd33 dcd33 pmd33 cdd33 ctd33 : Value}
    {fd34 : Addr} {odd34 and34 : Option Addr} {sld34 : Array (Option Value)} {ocd34 kVd34 dcd34 pmd34 cdd34 ctd34 : Value}
    {fd35 : Addr} {odd35 and35 : Option Addr} {sld35 : Array (Option Value)} {ocd35 kVd35 dcd35 pmd35 cdd35 ctd35 : Value}
    {fd36 : Addr} {odd36 and36 : Option Addr} {sld36 : Array (Option Value)} {ocd36 kVd36 dcd36 pmd36 cdd36 ctd36 : Value}
    {fm0 : Addr} {odm0 anm0 : Option Addr} {slm0 : Array (Option Value)} {ocm0 kVm0 dcm0 pmm0 cdm0 ctm0 : Value}
    {fm1 : Addr} {odm1 anm1 : Option Addr} {slm1 : Array (Option Value)} {ocm1 kVm1 dcm1 pmm1 cdm1 ctm1 : Value}
    {tGW tGA tMF : Tok}
    {aK nnK : Nat} {ddK : Option Addr} {ssK : Array (Option Value)} {tK0 tK1 tK2 tK3 tK4 tK5 tK6 tK7 : Tok}
    {aW nnW : Nat} {ddW : Option Addr} {ssW : Array (Option Value)} {tW0 tW1 : Tok}
    {aF nnF : Nat} {ddF : Option Addr} {ssF : Array (Option Value)} {tF0 tF1 : Tok}
    (aC : PySem.W.nsIn K mainGlobals "Net" = some (some (.ref C)))
    (ad0 : PySem.W.nsIn K mainGlobals "is_whole" = some (some (.ref fd0)))
    (ld0 : K.lookup fd0 = some ⟨ocd0, odd0, .func (PySem.W.fnOf "is_whole" "is_whole" (defArgs sWhole) (defBody sWhole) (defScope sWhole) .none kVd0 dcd0 pmd0 and0 cdd0 ctd0), sld0⟩)
    (cd0 : PySem.W.codeIn K cdd0 "is_whole" = true)
    (kd0 : PySem.W.keepIn K (.ref fd0) = true)
    (ad1 : PySem.W.nsIn K mainGlobals "is_whole_from_to" = some (some (.ref fd1)))
    (ld1 : K.lookup fd1 = some ⟨ocd1, odd1, .func (PySem.W.fnOf "is_whole_from_to" "is_whole_from_to" (defArgs sFromTo) (defBody sFromTo) (defScope sFromTo) .none kVd1 dcd1 pmd1 and1 cdd1 ctd1), sld1⟩)
    (cd1 : PySem.W.codeIn K cdd1 "is_whole_from_to" = true)
    (kd1 : PySem.W.keepIn K (.ref fd1) = true)
    (ad2 : PySem.W.nsIn K mainGlobals "is_worth" = some (some (.ref fd2)))
    (ld2 : K.lookup fd2 = some ⟨ocd2, odd2, .func (PySem.W.fnOf "is_worth" "is_worth" (defArgs sWorth) (defBody sWorth) (defScope sWorth) .none kVd2 dcd2 pmd2 and2 cdd2 ctd2), sld2⟩)
    (cd2 : PySem.W.codeIn K cdd2 "is_worth" = true)
    (kd2 : PySem.W.keepIn K (.ref fd2) = true)
    (ad3 : PySem.W.nsIn K mainGlobals "is_gate" = some (some (.ref fd3)))
    (ld3 : K.lookup fd3 = some ⟨ocd3, odd3, .func (PySem.W.fnOf "is_gate" "is_gate" (defArgs sIsGate) (defBody sIsGate) (defScope sIsGate) .none kVd3 dcd3 pmd3 and3 cdd3 ctd3), sld3⟩)
    (cd3 : PySem.W.codeIn K cdd3 "is_gate" = true)
    (kd3 : PySem.W.keepIn K (.ref fd3) = true)
    (ad4 : PySem.W.nsIn K mainGlobals "check_gates" = some (some (.ref fd4)))
    (ld4 : K.lookup fd4 = some ⟨ocd4, odd4, .func (PySem.W.fnOf "check_gates" "check_gates" (defArgs sChkGates) (defBody sChkGates) (defScope sChkGates) .none kVd4 dcd4 pmd4 and4 cdd4 ctd4), sld4⟩)
    (cd4 : PySem.W.codeIn K cdd4 "check_gates" = true)
    (kd4 : PySem.W.keepIn K (.ref fd4) = true)
    (ad5 : PySem.W.nsIn K mainGlobals "is_wire" = some (some (.ref fd5)))
    (ld5 : K.lookup fd5 = some ⟨ocd5, odd5, .func (PySem.W.fnOf "is_wire" "is_wire" (defArgs sIsWire) (defBody sIsWire) (defScope sIsWire) .none kVd5 dcd5 pmd5 and5 cdd5 ctd5), sld5⟩)
    (cd5 : PySem.W.codeIn K cdd5 "is_wire" = true)
    (kd5 : PySem.W.keepIn K (.ref fd5) = true)
    (ad6 : PySem.W.nsIn K mainGlobals "is_taken" = some (some (.ref fd6)))
    (ld6 : K.lookup fd6 = some ⟨ocd6, odd6, .func (PySem.W.fnOf "is_taken" "is_taken" (defArgs sTaken) (defBody sTaken) (defScope sTaken) .none kVd6 dcd6 pmd6 and6 cdd6 ctd6), sld6⟩)
    (cd6 : PySem.W.codeIn K cdd6 "is_taken" = true)
    (kd6 : PySem.W.keepIn K (.ref fd6) = true)
    (ad7 : PySem.W.nsIn K mainGlobals "check_wires" = some (some (.ref fd7)))
    (ld7 : K.lookup fd7 = some ⟨ocd7, odd7, .func (PySem.W.fnOf "check_wires" "check_wires" (defArgs sChkWires) (defBody sChkWires) (defScope sChkWires) .none kVd7 dcd7 pmd7 and7 cdd7 ctd7), sld7⟩)
    (cd7 : PySem.W.codeIn K cdd7 "check_wires" = true)
    (kd7 : PySem.W.keepIn K (.ref fd7) = true)
    (ad8 : PySem.W.nsIn K mainGlobals "order_along" = some (some (.ref fd8)))
    (ld8 : K.lookup fd8 = some ⟨ocd8, odd8, .func (PySem.W.fnOf "order_along" "order_along" (defArgs sAlong) (defBody sAlong) (defScope sAlong) .none kVd8 dcd8 pmd8 and8 cdd8 ctd8), sld8⟩)
    (cd8 : PySem.W.codeIn K cdd8 "order_along" = true)
    (kd8 : PySem.W.keepIn K (.ref fd8) = true)
    (ad9 : PySem.W.nsIn K mainGlobals "bare_order" = some (some (.ref fd9)))
    (ld9 : K.lookup fd9 = some ⟨ocd9, odd9, .func (PySem.W.fnOf "bare_order" "bare_order" (defArgs sOrder) (defBody sOrder) (defScope sOrder) .none kVd9 dcd9 pmd9 and9 cdd9 ctd9), sld9⟩)
    (cd9 : PySem.W.codeIn K cdd9 "bare_order" = true)
    (kd9 : PySem.W.keepIn K (.ref fd9) = true)
    (ad10 : PySem.W.nsIn K mainGlobals "check_rings" = some (some (.ref fd10)))
    (ld10 : K.lookup fd10 = some ⟨ocd10, odd10, .func (PySem.W.fnOf "check_rings" "check_rings" (defArgs sChkRings) (defBody sChkRings) (defScope sChkRings) .none kVd10 dcd10 pmd10 and10 cdd10 ctd10), sld10⟩)
    (cd10 : PySem.W.codeIn K cdd10 "check_rings" = true)
    (kd10 : PySem.W.keepIn K (.ref fd10) = true)
    (ad11 : PySem.W.nsIn K mainGlobals "ring_from" = some (some (.ref fd11)))
    (ld11 : K.lookup fd11 = some ⟨ocd11, odd11, .func (PySem.W.fnOf "ring_from" "ring_from" (defArgs sRingFrom) (defBody sRingFrom) (defScope sRingFrom) .none kVd11 dcd11 pmd11 and11 cdd11 ctd11), sld11⟩)
    (cd11 : PySem.W.codeIn K cdd11 "ring_from" = true)
    (kd11 : PySem.W.keepIn K (.ref fd11) = true)
    (ad12 : PySem.W.nsIn K mainGlobals "bare_ring" = some (some (.ref fd12)))
    (ld12 : K.lookup fd12 = some ⟨ocd12, odd12, .func (PySem.W.fnOf "bare_ring" "bare_ring" (defArgs sBareRing) (defBody sBareRing) (defScope sBareRing) .none kVd12 dcd12 pmd12 and12 cdd12 ctd12), sld12⟩)
    (cd12 : PySem.W.codeIn K cdd12 "bare_ring" = true)
    (kd12 : PySem.W.keepIn K (.ref fd12) = true)
    (ad13 : PySem.W.nsIn K mainGlobals "numbers_text" = some (some (.ref fd13)))
    (ld13 : K.lookup fd13 = some ⟨ocd13, odd13, .func (PySem.W.fnOf "numbers_text" "numbers_text" (defArgs sNumsT) (defBody sNumsT) (defScope sNumsT) .none kVd13 dcd13 pmd13 and13 cdd13 ctd13), sld13⟩)
    (cd13 : PySem.W.codeIn K cdd13 "numbers_text" = true)
    (kd13 : PySem.W.keepIn K (.ref fd13) = true)
    (ad14 : PySem.W.nsIn K mainGlobals "net_text" = some (some (.ref fd14)))
    (ld14 : K.lookup fd14 = some ⟨ocd14, odd14, .func (PySem.W.fnOf "net_text" "net_text" (defArgs sNetT) (defBody sNetT) (defScope sNetT) .none kVd14 dcd14 pmd14 and14 cdd14 ctd14), sld14⟩)
    (cd14 : PySem.W.codeIn K cdd14 "net_text" = true)
    (kd14 : PySem.W.keepIn K (.ref fd14) = true)
    (ad15 : PySem.W.nsIn K mainGlobals "check_text" = some (some (.ref fd15)))
    (ld15 : K.lookup fd15 = some ⟨ocd15, odd15, .func (PySem.W.fnOf "check_text" "check_text" (defArgs sChkText) (defBody sChkText) (defScope sChkText) .none kVd15 dcd15 pmd15 and15 cdd15 ctd15), sld15⟩)
    (cd15 : PySem.W.codeIn K cdd15 "check_text" = true)
    (kd15 : PySem.W.keepIn K (.ref fd15) = true)
    (ad16 : PySem.W.nsIn K mainGlobals "read_number" = some (some (.ref fd16)))
    (ld16 : K.lookup fd16 = some ⟨ocd16, odd16, .func (PySem.W.fnOf "read_number" "read_number" (defArgs sReadNum) (defBody sReadNum) (defScope sReadNum) .none kVd16 dcd16 pmd16 and16 cdd16 ctd16), sld16⟩)
    (cd16 : PySem.W.codeIn K cdd16 "read_number" = true)
    (kd16 : PySem.W.keepIn K (.ref fd16) = true)
    (ad17 : PySem.W.nsIn K mainGlobals "read_gate" = some (some (.ref fd17)))
    (ld17 : K.lookup fd17 = some ⟨ocd17, odd17, .func (PySem.W.fnOf "read_gate" "read_gate" (defArgs sReadGate) (defBody sReadGate) (defScope sReadGate) .none kVd17 dcd17 pmd17 and17 cdd17 ctd17), sld17⟩)
    (cd17 : PySem.W.codeIn K cdd17 "read_gate" = true)
    (kd17 : PySem.W.keepIn K (.ref fd17) = true)
    (ad18 : PySem.W.nsIn K mainGlobals "read_wire" = some (some (.ref fd18)))
    (ld18 : K.lookup fd18 = some ⟨ocd18, odd18, .func (PySem.W.fnOf "read_wire" "read_wire" (defArgs sReadWire) (defBody sReadWire) (defScope sReadWire) .none kVd18 dcd18 pmd18 and18 cdd18 ctd18), sld18⟩)
    (cd18 : PySem.W.codeIn K cdd18 "read_wire" = true)
    (kd18 : PySem.W.keepIn K (.ref fd18) = true)
    (ad19 : PySem.W.nsIn K mainGlobals "read_net" = some (some (.ref fd19)))
    (ld19 : K.lookup fd19 = some ⟨ocd19, odd19, .func (PySem.W.fnOf "read_net" "read_net" (defArgs sReadNet) (defBody sReadNet) (defScope sReadNet) .none kVd19 dcd19 pmd19 and19 cdd19 ctd19), sld19⟩)
    (cd19 : PySem.W.codeIn K cdd19 "read_net" = true)
    (kd19 : PySem.W.keepIn K (.ref fd19) = true)
    (ad20 : PySem.W.nsIn K mainGlobals "_law_cell_at" = some (some (.ref fd20)))
    (ld20 : K.lookup fd20 = some ⟨ocd20, odd20, .func (PySem.W.fnOf "_law_cell_at" "_law_cell_at" (defArgs sCellAt) (defBody sCellAt) (defScope sCellAt) .none kVd20 dcd20 pmd20 and20 cdd20 ctd20), sld20⟩)
    (cd20 : PySem.W.codeIn K cdd20 "_law_cell_at" = true)
    (kd20 : PySem.W.keepIn K (.ref fd20) = true)
    (ad21 : PySem.W.nsIn K mainGlobals "_law_well" = some (some (.ref fd21)))
    (ld21 : K.lookup fd21 = some ⟨ocd21, odd21, .func (PySem.W.fnOf "_law_well" "_law_well" (defArgs sWell) (defBody sWell) (defScope sWell) .none kVd21 dcd21 pmd21 and21 cdd21 ctd21), sld21⟩)
    (cd21 : PySem.W.codeIn K cdd21 "_law_well" = true)
    (kd21 : PySem.W.keepIn K (.ref fd21) = true)
    (ad22 : PySem.W.nsIn K mainGlobals "_law_draw" = some (some (.ref fd22)))
    (ld22 : K.lookup fd22 = some ⟨ocd22, odd22, .func (PySem.W.fnOf "_law_draw" "_law_draw" (defArgs sDraw) (defBody sDraw) (defScope sDraw) .none kVd22 dcd22 pmd22 and22 cdd22 ctd22), sld22⟩)
    (cd22 : PySem.W.codeIn K cdd22 "_law_draw" = true)
    (kd22 : PySem.W.keepIn K (.ref fd22) = true)
    (ad23 : PySem.W.nsIn K mainGlobals "_law_one" = some (some (.ref fd23)))
    (ld23 : K.lookup fd23 = some ⟨ocd23, odd23, .func (PySem.W.fnOf "_law_one" "_law_one" (defArgs sOne) (defBody sOne) (defScope sOne) .none kVd23 dcd23 pmd23 and23 cdd23 ctd23), sld23⟩)
    (cd23 : PySem.W.codeIn K cdd23 "_law_one" = true)
    (kd23 : PySem.W.keepIn K (.ref fd23) = true)
    (ad24 : PySem.W.nsIn K mainGlobals "_law_gate" = some (some (.ref fd24)))
    (ld24 : K.lookup fd24 = some ⟨ocd24, odd24, .func (PySem.W.fnOf "_law_gate" "_law_gate" (defArgs sGate) (defBody sGate) (defScope sGate) .none kVd24 dcd24 pmd24 and24 cdd24 ctd24), sld24⟩)
    (cd24 : PySem.W.codeIn K cdd24 "_law_gate" = true)
    (kd24 : PySem.W.keepIn K (.ref fd24) = true)
    (ad25 : PySem.W.nsIn K mainGlobals "_law_wire" = some (some (.ref fd25)))
    (ld25 : K.lookup fd25 = some ⟨ocd25, odd25, .func (PySem.W.fnOf "_law_wire" "_law_wire" (defArgs sWire) (defBody sWire) (defScope sWire) .none kVd25 dcd25 pmd25 and25 cdd25 ctd25), sld25⟩)
    (cd25 : PySem.W.codeIn K cdd25 "_law_wire" = true)
    (kd25 : PySem.W.keepIn K (.ref fd25) = true)
    (ad26 : PySem.W.nsIn K mainGlobals "_law_parts" = some (some (.ref fd26)))
    (ld26 : K.lookup fd26 = some ⟨ocd26, odd26, .func (PySem.W.fnOf "_law_parts" "_law_parts" (defArgs sParts) (defBody sParts) (defScope sParts) .none kVd26 dcd26 pmd26 and26 cdd26 ctd26), sld26⟩)
    (cd26 : PySem.W.codeIn K cdd26 "_law_parts" = true)
    (kd26 : PySem.W.keepIn K (.ref fd26) = true)
    (ad27 : PySem.W.nsIn K mainGlobals "_law_text" = some (some (.ref fd27)))
    (ld27 : K.lookup fd27 = some ⟨ocd27, odd27, .func (PySem.W.fnOf "_law_text" "_law_text" (defArgs sLText) (defBody sLText) (defScope sLText) .none kVd27 dcd27 pmd27 and27 cdd27 ctd27), sld27⟩)
    (cd27 : PySem.W.codeIn K cdd27 "_law_text" = true)
    (kd27 : PySem.W.keepIn K (.ref fd27) = true)
    (ad28 : PySem.W.nsIn K mainGlobals "_law_number" = some (some (.ref fd28)))
    (ld28 : K.lookup fd28 = some ⟨ocd28, odd28, .func (PySem.W.fnOf "_law_number" "_law_number" (defArgs sLNumb) (defBody sLNumb) (defScope sLNumb) .none kVd28 dcd28 pmd28 and28 cdd28 ctd28), sld28⟩)
    (cd28 : PySem.W.codeIn K cdd28 "_law_number" = true)
    (kd28 : PySem.W.keepIn K (.ref fd28) = true)
    (ad29 : PySem.W.nsIn K mainGlobals "_law_rows_of" = some (some (.ref fd29)))
    (ld29 : K.lookup fd29 = some ⟨ocd29, odd29, .func (PySem.W.fnOf "_law_rows_of" "_law_rows_of" (defArgs sRowsOf) (defBody sRowsOf) (defScope sRowsOf) .none kVd29 dcd29 pmd29 and29 cdd29 ctd29), sld29⟩)
    (cd29 : PySem.W.codeIn K cdd29 "_law_rows_of" = true)
    (kd29 : PySem.W.keepIn K (.ref fd29) = true)
    (ad30 : PySem.W.nsIn K mainGlobals "_law_is_net" = some (some (.ref fd30)))
    (ld30 : K.lookup fd30 = some ⟨ocd30, odd30, .func (PySem.W.fnOf "_law_is_net" "_law_is_net" (defArgs sIsNet) (defBody sIsNet) (defScope sIsNet) .none kVd30 dcd30 pmd30 and30 cdd30 ctd30), sld30⟩)
    (cd30 : PySem.W.codeIn K cdd30 "_law_is_net" = true)
    (kd30 : PySem.W.keepIn K (.ref fd30) = true)
    (ad31 : PySem.W.nsIn K mainGlobals "_law_odd" = some (some (.ref fd31)))
    (ld31 : K.lookup fd31 = some ⟨ocd31, odd31, .func (PySem.W.fnOf "_law_odd" "_law_odd" (defArgs sOdd) (defBody sOdd) (defScope sOdd) .none kVd31 dcd31 pmd31 and31 cdd31 ctd31), sld31⟩)
    (cd31 : PySem.W.codeIn K cdd31 "_law_odd" = true)
    (kd31 : PySem.W.keepIn K (.ref fd31) = true)
    (ad32 : PySem.W.nsIn K mainGlobals "_law_spoilt_row" = some (some (.ref fd32)))
    (ld32 : K.lookup fd32 = some ⟨ocd32, odd32, .func (PySem.W.fnOf "_law_spoilt_row" "_law_spoilt_row" (defArgs sSpRow) (defBody sSpRow) (defScope sSpRow) .none kVd32 dcd32 pmd32 and32 cdd32 ctd32), sld32⟩)
    (cd32 : PySem.W.codeIn K cdd32 "_law_spoilt_row" = true)
    (kd32 : PySem.W.keepIn K (.ref fd32) = true)
    (ad33 : PySem.W.nsIn K mainGlobals "_law_spoilt" = some (some (.ref fd33)))
    (ld33 : K.lookup fd33 = some ⟨ocd33, odd33, .func (PySem.W.fnOf "_law_spoilt" "_law_spoilt" (defArgs sSpoilt) (defBody sSpoilt) (defScope sSpoilt) .none kVd33 dcd33 pmd33 and33 cdd33 ctd33), sld33⟩)
    (cd33 : PySem.W.codeIn K cdd33 "_law_spoilt" = true)
    (kd33 : PySem.W.keepIn K (.ref fd33) = true)
    (ad34 : PySem.W.nsIn K mainGlobals "_law_read" = some (some (.ref fd34)))
    (ld34 : K.lookup fd34 = some ⟨ocd34, odd34, .func (PySem.W.fnOf "_law_read" "_law_read" (defArgs sLRead) (defBody sLRead) (defScope sLRead) .none kVd34 dcd34 pmd34 and34 cdd34 ctd34), sld34⟩)
    (cd34 : PySem.W.codeIn K cdd34 "_law_read" = true)
    (kd34 : PySem.W.keepIn K (.ref fd34) = true)
    (ad35 : PySem.W.nsIn K mainGlobals "_law_right" = some (some (.ref fd35)))
    (ld35 : K.lookup fd35 = some ⟨ocd35, odd35, .func (PySem.W.fnOf "_law_right" "_law_right" (defArgs sRight) (defBody sRight) (defScope sRight) .none kVd35 dcd35 pmd35 and35 cdd35 ctd35), sld35⟩)
    (cd35 : PySem.W.codeIn K cdd35 "_law_right" = true)
    (kd35 : PySem.W.keepIn K (.ref fd35) = true)
    (ad36 : PySem.W.nsIn K mainGlobals "law" = some (some (.ref fd36)))
    (ld36 : K.lookup fd36 = some ⟨ocd36, odd36, .func (PySem.W.fnOf "law" "law" (defArgs sLaw) (defBody sLaw) (defScope sLaw) .none kVd36 dcd36 pmd36 and36 cdd36 ctd36), sld36⟩)
    (cd36 : PySem.W.codeIn K cdd36 "law" = true)
    (kd36 : PySem.W.keepIn K (.ref fd36) = true)
    (am0 : PySem.W.findIn K (.ref C) "__init__" = some (some (.ref fm0)))
    (im0 : PySem.W.isFn K (.ref fm0) = true)
    (lm0 : K.lookup fm0 = some ⟨ocm0, odm0, .func (PySem.W.fnOf "__init__" "Net.__init__" (defArgs sInit) (defBody sInit) (defScope sInit) .none kVm0 dcm0 pmm0 anm0 cdm0 ctm0), slm0⟩)
    (cm0 : PySem.W.codeIn K cdm0 "Net.__init__" = true)
    (km0 : PySem.W.keepIn K (.ref fm0) = true)
    (am1 : PySem.W.findIn K (.ref C) "__eq__" = some (some (.ref fm1)))
    (im1 : PySem.W.isFn K (.ref fm1) = true)
    (lm1 : K.lookup fm1 = some ⟨ocm1, odm1, .func (PySem.W.fnOf "__eq__" "Net.__eq__" (defArgs sEq) (defBody sEq) (defScope sEq) .none kVm1 dcm1 pmm1 anm1 cdm1 ctm1), slm1⟩)
    (cm1 : PySem.W.codeIn K cdm1 "Net.__eq__" = true)
    (km1 : PySem.W.keepIn K (.ref fm1) = true)
    (pgC : PySem.W.plainGet K C Str.empty = true)
    (hdC : PySem.W.hasDictIn K C = true)
    (poC : PySem.W.plainOver K C = true)
    (saC : PySem.W.findIn K (.ref C) "__setattr__" = some (some (.builtin "object.__setattr__")))
    (mkC : PySem.W.makesIn K C = true)
    (kcC : PySem.W.keepIn K (.ref C) = true)
    (nG : PySem.W.findIn K (.ref C) "gates" = some none)
    (nW : PySem.W.findIn K (.ref C) "wires" = some none)
    (ha : PySem.W.findIn K (.ref C) "__class__" = some (some (.builtin "object.__class__")))
    (hn : PySem.W.specialIn K (.builtin "object.__class__") "__get__" = some (some (.builtin "getset_descriptor.__get__")))
    (htk : PySem.W.takesIn K (.builtin "object.__class__") = some true)
    (hmo : PySem.W.mroIn K C (.type "object") = some true)
    (sN : PySem.W.findIn K (.ref C) "__ne__" = some (some (.builtin "object.__ne__")))
    (aL0 : PySem.W.nsIn K mainGlobals "LagError" = some (some (.ref C0)))
    (gL : PySem.W.specialIn K (.ref C0) "__getattribute__" = some (some (.builtin "type.__getattribute__")))
    (rL : PySem.W.readsIn K C0 (.type "type") = true)
    (vL : PySem.W.findCls K (.ref C0) (.type "type") "__init__" = some (.val (.builtin "ValueError.__init__")))
    (tC0 : PySem.W.typeIn K (.ref C0) = some (.type "type"))
    (q3 : PySem.W.subIn K (.type "str") (.ref C) = some false)
    (icC : PySem.W.isClsIn K C = true)
    (tyC : PySem.W.typeIn K (.ref C) = some (.type "type"))
    (aNT : PySem.W.nsIn K mainGlobals "NoText" = some (some (.ref CT)))
    (qNT : PySem.W.excIn K CT [.type "ValueError", .type "Exception", .type "BaseException", .type "object"] "ValueError.__new__" = true)
    (kkNT : PySem.W.keepIn K (.ref CT) = true)
    (eNT : PySem.W.subIn K (.ref CT) (.type "BaseException") = some true)
    (ttNT : PySem.W.typeIn K (.ref CT) = some (.type "type"))
    (ciNT : PySem.W.isClsIn K CT = true)
    (sNT : PySem.W.subIn K (.ref CT) (.ref CT) = some true)
    (aNG : PySem.W.nsIn K mainGlobals "NoGates" = some (some (.ref CG)))
    (qNG : PySem.W.excIn K CG [.type "ValueError", .type "Exception", .type "BaseException", .type "object"] "ValueError.__new__" = true)
    (kkNG : PySem.W.keepIn K (.ref CG) = true)
    (eNG : PySem.W.subIn K (.ref CG) (.type "BaseException") = some true)
    (ttNG : PySem.W.typeIn K (.ref CG) = some (.type "type"))
    (ciNG : PySem.W.isClsIn K CG = true)
    (sNG : PySem.W.subIn K (.ref CG) (.ref CG) = some true)
    (aNW : PySem.W.nsIn K mainGlobals "NoWires" = some (some (.ref CW)))
    (xNW : K.lookup CW = some (excClassObj nmNW qNW CW NTNW bsNW [.ref C0, .type "ValueError", .type "Exception", .type "BaseException", .type "object"] true snNW subNW abNW colNW ddNW m0NW m1NW m2NW m3NW m5NW "ValueError.__new__"))
    (saNW : PySem.W.findIn K (.ref CW) "__setattr__" = some (some (.builtin "object.__setattr__")))
    (noNW : PySem.W.findIn K (.ref CW) "place" = some none)
    (iNW : PySem.W.findIn K (.ref CW) "__init__" = some (some (.ref fN)))
    (ftNW : PySem.W.typeIn K (.ref fN) = some (.type "function"))
    (lNW : K.lookup fN = some ⟨ocNW, odNW, .func (PySem.W.fnOf "__init__" "NoWires.__init__" (defArgs sNWinit) (defBody sNWinit) (defScope sNWinit) .none kVNW dcNW pmNW anNW cdvNW ctNW), slNW⟩)
    (cdNW : PySem.W.codeIn K cdvNW "NoWires.__init__" = true)
    (kfNW : PySem.W.keepIn K (.ref fN) = true)
    (kkNW : PySem.W.keepIn K (.ref CW) = true)
    (eNW : PySem.W.subIn K (.ref CW) (.type "BaseException") = some true)
    (ttNW : PySem.W.typeIn K (.ref CW) = some (.type "type"))
    (ciNW : PySem.W.isClsIn K CW = true)
    (sNW : PySem.W.subIn K (.ref CW) (.ref CW) = some true)
    (aNR : PySem.W.nsIn K mainGlobals "NoRing" = some (some (.ref CR)))
    (xNR : K.lookup CR = some (excClassObj nmNR qNR CR NTNR bsNR [.ref C0, .type "ValueError", .type "Exception", .type "BaseException", .type "object"] true snNR subNR abNR colNR ddNR m0NR m1NR m2NR m3NR m5NR "ValueError.__new__"))
    (saNR : PySem.W.findIn K (.ref CR) "__setattr__" = some (some (.builtin "object.__setattr__")))
    (noNR : PySem.W.findIn K (.ref CR) "ring" = some none)
    (iNR : PySem.W.findIn K (.ref CR) "__init__" = some (some (.ref fM)))
    (ftNR : PySem.W.typeIn K (.ref fM) = some (.type "function"))
    (lNR : K.lookup fM = some ⟨ocNR, odNR, .func (PySem.W.fnOf "__init__" "NoRing.__init__" (defArgs sNRinit) (defBody sNRinit) (defScope sNRinit) .none kVNR dcNR pmNR anNR cdvNR ctNR), slNR⟩)
    (cdNR : PySem.W.codeIn K cdvNR "NoRing.__init__" = true)
    (kfNR : PySem.W.keepIn K (.ref fM) = true)
    (kkNR : PySem.W.keepIn K (.ref CR) = true)
    (eNR : PySem.W.subIn K (.ref CR) (.type "BaseException") = some true)
    (ttNR : PySem.W.typeIn K (.ref CR) = some (.type "type"))
    (ciNR : PySem.W.isClsIn K CR = true)
    (sNR : PySem.W.subIn K (.ref CR) (.ref CR) = some true)
    (xgNT : PySem.W.findIn K (.ref CT) "__getattribute__" = some (some (.builtin "BaseException.__getattribute__")))
    (xkNT : PySem.W.findIn K (.ref CT) "__getattr__" = some none)
    (xdNT : PySem.W.hasDictIn K CT = true)
    (xaNT : PySem.W.findIn K (.ref CT) "__class__" = some (some (.builtin "object.__class__")))
    (xmNT : PySem.W.mroIn K CT (.type "object") = some true)
    (xgNG : PySem.W.findIn K (.ref CG) "__getattribute__" = some (some (.builtin "BaseException.__getattribute__")))
    (xkNG : PySem.W.findIn K (.ref CG) "__getattr__" = some none)
    (xdNG : PySem.W.hasDictIn K CG = true)
    (xaNG : PySem.W.findIn K (.ref CG) "__class__" = some (some (.builtin "object.__class__")))
    (xmNG : PySem.W.mroIn K CG (.type "object") = some true)
    (xgNW : PySem.W.findIn K (.ref CW) "__getattribute__" = some (some (.builtin "BaseException.__getattribute__")))
    (xkNW : PySem.W.findIn K (.ref CW) "__getattr__" = some none)
    (xdNW : PySem.W.hasDictIn K CW = true)
    (xaNW : PySem.W.findIn K (.ref CW) "__class__" = some (some (.builtin "object.__class__")))
    (xmNW : PySem.W.mroIn K CW (.type "object") = some true)
    (xgNR : PySem.W.findIn K (.ref CR) "__getattribute__" = some (some (.builtin "BaseException.__getattribute__")))
    (xkNR : PySem.W.findIn K (.ref CR) "__getattr__" = some none)
    (xdNR : PySem.W.hasDictIn K CR = true)
    (xaNR : PySem.W.findIn K (.ref CR) "__class__" = some (some (.builtin "object.__class__")))
    (xmNR : PySem.W.mroIn K CR (.type "object") = some true)
    (uNTNG : PySem.W.subIn K (.ref CT) (.ref CG) = some false)
    (uNTNW : PySem.W.subIn K (.ref CT) (.ref CW) = some false)
    (uNTNR : PySem.W.subIn K (.ref CT) (.ref CR) = some false)
    (uNGNW : PySem.W.subIn K (.ref CG) (.ref CW) = some false)
    (uNGNR : PySem.W.subIn K (.ref CG) (.ref CR) = some false)
    (uNWNG : PySem.W.subIn K (.ref CW) (.ref CG) = some false)
    (uNWNR : PySem.W.subIn K (.ref CW) (.ref CR) = some false)
    (uNRNG : PySem.W.subIn K (.ref CR) (.ref CG) = some false)
    (uNRNW : PySem.W.subIn K (.ref CR) (.ref CW) = some false)
    (vNT : PySem.W.subIn K (.ref CT) (.type "ValueError") = some true)
    (xn : PySem.W.specialIn K (.builtin "object.__class__") "__get__" = some (some (.builtin "getset_descriptor.__get__")))
    (xt : PySem.W.takesIn K (.builtin "object.__class__") = some true)
    (zisi : PySem.W.nsIn K mainGlobals "isinstance" = some none)
    (zint : PySem.W.nsIn K mainGlobals "int" = some none)
    (zbool : PySem.W.nsIn K mainGlobals "bool" = some none)
    (zlen : PySem.W.nsIn K mainGlobals "len" = some none)
    (ztuple : PySem.W.nsIn K mainGlobals "tuple" = some none)
    (zstr : PySem.W.nsIn K mainGlobals "str" = some none)
    (zlist : PySem.W.nsIn K mainGlobals "list" = some none)
    (zall : PySem.W.nsIn K mainGlobals "all" = some none)
    (zenum : PySem.W.nsIn K mainGlobals "enumerate" = some none)
    (zzip : PySem.W.nsIn K mainGlobals "zip" = some none)
    (zrange : PySem.W.nsIn K mainGlobals "range" = some none)
    (zmax : PySem.W.nsIn K mainGlobals "max" = some none)
    (zmin : PySem.W.nsIn K mainGlobals "min" = some none)
    (zVE : PySem.W.nsIn K mainGlobals "ValueError" = some none)
    (gGW : PySem.W.nsIn K mainGlobals "GREATEST_WORTH" = some (some (.int 96 tGW)))
    (gGA : PySem.W.nsIn K mainGlobals "GREATEST_WAIT" = some (some (.int 100 tGA)))
    (gMF : PySem.W.nsIn K mainGlobals "MOST_FIGURES" = some (some (.int 60 tMF)))
    (gK : PySem.W.nsIn K mainGlobals "KINDS" = some (some (.ref aK)))
    (oK : K.lookup aK = some ⟨.type "tuple", ddK, .seq #[.str "in" tK0, .str "out" tK1, .str "sum" tK2, .str "times" tK3, .str "most" tK4, .str "least" tK5, .str "first" tK6, .str "one" tK7] nnK, ssK⟩)
    (gW : PySem.W.nsIn K mainGlobals "OUTER_KINDS" = some (some (.ref aW)))
    (oW : K.lookup aW = some ⟨.type "tuple", ddW, .seq #[.str "in" tW0, .str "out" tW1] nnW, ssW⟩)
    (gF : PySem.W.nsIn K mainGlobals "KINDS_WITH_A_WIRE" = some (some (.ref aF)))
    (oF : K.lookup aF = some ⟨.type "tuple", ddF, .seq #[.str "out" tF0, .str "first" tF1] nnF, ssF⟩) :
    ∃ fd : FuncData, (∀ (s : Shared) (v : Value), BindsTo s fd ⟨[v], []⟩ [("_law_script", v)]) ∧ ∀ base : Heap, K.In base → base.Ns mainGlobals mg → FnOk l.prog w K mg base CX0 12 fa fd ["_law_script"] (spLaw K) := by
  have e := hfa.symm.trans (PySem.W.mg_of X G ad36)
  cases e
  have Fd0 := fun_mk (st := sWhole) ld0 cd0 kd0
  have Fd1 := fun_mk (st := sFromTo) ld1 cd1 kd1
  have Fd2 := fun_mk (st := sWorth) ld2 cd2 kd2
  have Fd3 := fun_mk (st := sIsGate) ld3 cd3 kd3
  have Fd4 := fun_mk (st := sChkGates) ld4 cd4 kd4
  have Fd5 := fun_mk (st := sIsWire) ld5 cd5 kd5
  have Fd6 := fun_mk (st := sTaken) ld6 cd6 kd6
  have Fd7 := fun_mk (st := sChkWires) ld7 cd7 kd7
  have Fd8 := fun_mk (st := sAlong) ld8 cd8 kd8
  have Fd9 := fun_mk (st := sOrder) ld9 cd9 kd9
  have Fd10 := fun_mk (st := sChkRings) ld10 cd10 kd10
  have Fd11 := fun_mk (st := sRingFrom) ld11 cd11 kd11
  have Fd12 := fun_mk (st := sBareRing) ld12 cd12 kd12
  have Fd13 := fun_mk (st := sNumsT) ld13 cd13 kd13
  have Fd14 := fun_mk (st := sNetT) ld14 cd14 kd14
  have Fd15 := fun_mk (st := sChkText) ld15 cd15 kd15
  have Fd16 := fun_mk (st := sReadNum) ld16 cd16 kd16
  have Fd17 := fun_mk (st := sReadGate) ld17 cd17 kd17
  have Fd18 := fun_mk (st := sReadWire) ld18 cd18 kd18
  have Fd19 := fun_mk (st := sReadNet) ld19 cd19 kd19
  have Fd20 := fun_mk (st := sCellAt) ld20 cd20 kd20
  have Fd21 := fun_mk (st := sWell) ld21 cd21 kd21
  have Fd22 := fun_mk (st := sDraw) ld22 cd22 kd22
  have Fd23 := fun_mk (st := sOne) ld23 cd23 kd23
  have Fd24 := fun_mk (st := sGate) ld24 cd24 kd24
  have Fd25 := fun_mk (st := sWire) ld25 cd25 kd25
  have Fd26 := fun_mk (st := sParts) ld26 cd26 kd26
  have Fd27 := fun_mk (st := sLText) ld27 cd27 kd27
  have Fd28 := fun_mk (st := sLNumb) ld28 cd28 kd28
  have Fd29 := fun_mk (st := sRowsOf) ld29 cd29 kd29
  have Fd30 := fun_mk (st := sIsNet) ld30 cd30 kd30
  have Fd31 := fun_mk (st := sOdd) ld31 cd31 kd31
  have Fd32 := fun_mk (st := sSpRow) ld32 cd32 kd32
  have Fd33 := fun_mk (st := sSpoilt) ld33 cd33 kd33
  have Fd34 := fun_mk (st := sLRead) ld34 cd34 kd34
  have Fd35 := fun_mk (st := sRight) ld35 cd35 kd35
  have Fd36 := fun_mk (st := sLaw) ld36 cd36 kd36
  have Fm0 := fun_mk (st := sInit) lm0 cm0 km0
  have Fm1 := fun_mk (st := sEq) lm1 cm1 km1
  have B : Bt mg := ⟨PySem.W.mg_none_of X G zisi, PySem.W.mg_none_of X G zint, PySem.W.mg_none_of X G zbool, PySem.W.mg_none_of X G zlen, PySem.W.mg_none_of X G ztuple, PySem.W.mg_none_of X G zstr, PySem.W.mg_none_of X G zlist, PySem.W.mg_none_of X G zall, PySem.W.mg_none_of X G zenum, PySem.W.mg_none_of X G zzip, PySem.W.mg_none_of X G zrange, PySem.W.mg_none_of X G zmax⟩
  have b_min := PySem.W.mg_none_of X G zmin
  have b_VE := PySem.W.mg_none_of X G zVE
  have Cn : Cns K mg aK aW aF := ⟨⟨_, PySem.W.mg_of X G gGW⟩, ⟨_, PySem.W.mg_of X G gGA⟩, PySem.W.mg_of X G gK, fun _ => .inr ⟨_, _, _, oK, rfl, rfl, (by show 8 ≤ sizeLine; decide), .cons ⟨_, rfl⟩ (.cons ⟨_, rfl⟩ (.cons ⟨_, rfl⟩ (.cons ⟨_, rfl⟩ (.cons ⟨_, rfl⟩ (.cons ⟨_, rfl⟩ (.cons ⟨_, rfl⟩ (.cons ⟨_, rfl⟩ (.nil))))))))⟩, PySem.W.mg_of X G gW, fun _ => .inr ⟨_, _, _, oW, rfl, rfl, (by show 2 ≤ sizeLine; decide), .cons ⟨_, rfl⟩ (.cons ⟨_, rfl⟩ (.nil))⟩, PySem.W.mg_of X G gF, fun _ => .inr ⟨_, _, _, oF, rfl, rfl, (by show 2 ≤ sizeLine; decide), .cons ⟨_, rfl⟩ (.cons ⟨_, rfl⟩ (.nil))⟩⟩
  have i_MF : ∃ t, mg "MOST_FIGURES" = some (.int 60 t) := ⟨_, PySem.W.mg_of X G gMF⟩
  have T : NT K mg C := ⟨⟨pgC, hdC, poC, saC⟩, nG, nW, PySem.W.mg_of X G aC⟩
  have Y : NTy K C := ⟨ha, hn, htk, hmo⟩
  have bm0 := Fm0.binds (ps := ["self", "gates", "wires"]) fun _ _ _ _ _ _ us hl => match us, hl with | [_, _, _], _ => rfl
  have bm1 := Fm1.binds (ps := ["self", "other"]) fun _ _ _ _ _ _ us hl => match us, hl with | [_, _], _ => rfl
  refine ⟨PySem.W.fnOf "law" "law" (defArgs sLaw) (defBody sLaw) (defScope sLaw) .none kVd36 dcd36 pmd36 and36 cdd36 ctd36, fun s v => .of_eq rfl, fun base _ _ => ?_⟩
  have whole := ok_whole (P := l.prog) (w := w) (base := base) Fd0 (PySem.W.mg_of X G ad0) B
  have ft := ok_fromTo (P := l.prog) (w := w) (base := base) Fd1 (PySem.W.mg_of X G ad1) whole
  have wo := ok_worth (P := l.prog) (w := w) (base := base) Fd2 (PySem.W.mg_of X G ad2) Cn ft
  have ig := ok_isGate (P := l.prog) (w := w) (base := base) Fd3 (PySem.W.mg_of X G ad3) B Cn ft
  have cg := ok_chkGates (P := l.prog) (w := w) (base := base) Fd4 (PySem.W.mg_of X G ad4) B ig
  have iw := ok_isWire (P := l.prog) (w := w) (base := base) Fd5 (PySem.W.mg_of X G ad5) B ft wo
  have tk := ok_taken (P := l.prog) (w := w) (base := base) Fd6 (PySem.W.mg_of X G ad6)
  have cw := ok_chkWires (P := l.prog) (w := w) (base := base) Fd7 (PySem.W.mg_of X G ad7) B Cn iw tk
  have al := ok_along (P := l.prog) (w := w) (base := base) Fd8 (PySem.W.mg_of X G ad8) B
  have od := ok_order (P := l.prog) (w := w) (base := base) Fd9 (PySem.W.mg_of X G ad9) B al
  have cr := ok_chkRings (P := l.prog) (w := w) (base := base) Fd10 (PySem.W.mg_of X G ad10) B od
  have init := ok_init (P := l.prog) (w := w) (base := base) Fm0 T B cg cw cr
  have MK : Mk K C fm0 := ⟨mkC, am0, im0, kcC⟩
  have bd19 := Fd19.binds (ps := ["text"]) fun _ _ _ _ _ _ us hl => match us, hl with | [_], _ => rfl
  have bd16 := Fd16.binds (ps := ["word"]) fun _ _ _ _ _ _ us hl => match us, hl with | [_], _ => rfl
  have bd28 := Fd28.binds (ps := ["_law_word", "_law_high"]) fun _ _ _ _ _ _ us hl => match us, hl with | [_, _], _ => rfl
  have bd29 := Fd29.binds (ps := ["_law_text_here"]) fun _ _ _ _ _ _ us hl => match us, hl with | [_], _ => rfl
  have bd30 := Fd30.binds (ps := ["_law_gates", "_law_wires"]) fun _ _ _ _ _ _ us hl => match us, hl with | [_, _], _ => rfl
  have bd31 := Fd31.binds (ps := ["_law_well_here", "_law_words"]) fun _ _ _ _ _ _ us hl => match us, hl with | [_, _], _ => rfl
  have bd32 := Fd32.binds (ps := ["_law_well_here", "_law_row"]) fun _ _ _ _ _ _ us hl => match us, hl with | [_, _], _ => rfl
  have bd33 := Fd33.binds (ps := ["_law_well_here", "_law_text_here"]) fun _ _ _ _ _ _ us hl => match us, hl with | [_, _], _ => rfl
  have bd34 := Fd34.binds (ps := ["_law_text_here"]) fun _ _ _ _ _ _ us hl => match us, hl with | [_], _ => rfl
  have bd35 := Fd35.binds (ps := ["_law_well_here"]) fun _ _ _ _ _ _ us hl => match us, hl with | [_], _ => rfl
  have L : LEx K mg C0 := ⟨PySem.W.mg_of X G aL0, gL, tC0, rL, vL⟩
  have TW : TEx K mg "NoWires" "place" CW fN := ⟨PySem.W.mg_of X G aNW, ⟨⟨_, _, _, _, _, _, _, _, _, _, _, _, _, _, _, xNW, by rfl⟩, saNW, eNW, ttNW, kkNW⟩, iNW, ftNW, noNW, ⟨xgNW, xkNW, eNW, xdNW⟩, exm_self eNW ciNW ttNW sNW⟩
  have TR : TEx K mg "NoRing" "ring" CR fM := ⟨PySem.W.mg_of X G aNR, ⟨⟨_, _, _, _, _, _, _, _, _, _, _, _, _, _, _, xNR, by rfl⟩, saNR, eNR, ttNR, kkNR⟩, iNR, ftNR, noNR, ⟨xgNR, xkNR, eNR, xdNR⟩, exm_self eNR ciNR ttNR sNR⟩
  have NG : PEx K mg "NoGates" CG := ⟨PySem.W.mg_of X G aNG, qNG, kkNG, eNG, ttNG, exm_self eNG ciNG ttNG sNG⟩
  have NX : PEx K mg "NoText" CT := ⟨PySem.W.mg_of X G aNT, qNT, kkNT, eNT, ttNT, exm_self eNT ciNT ttNT sNT⟩
  have FN := fun_mk (st := sNWinit) lNW cdNW kfNW
  have bN := FN.binds (ps := ["self", "place"]) fun _ _ _ _ _ _ us hl => match us, hl with | [_, _], _ => rfl
  have nwI := ok_nwInit (P := l.prog) (w := w) (base := base) FN L TW
  have FM := fun_mk (st := sNRinit) lNR cdNR kfNR
  have bM := FM.binds (ps := ["self", "ring"]) fun _ _ _ _ _ _ us hl => match us, hl with | [_, _], _ => rfl
  have nrI := ok_nrInit (P := l.prog) (w := w) (base := base) FM L TR
  have whX := ok_wholeD (P := l.prog) (w := w) (base := base) Fd0 B
  have ftX := ok_fromToD (P := l.prog) (w := w) (base := base) Fd1 whole whX
  have woX := ok_worthD (P := l.prog) (w := w) (base := base) Fd2 Cn ft ftX
  have igX := ok_isGateD (P := l.prog) (w := w) (base := base) Fd3 B Cn ft ftX
  have cgX := ok_chkGatesXN (P := l.prog) (w := w) (base := base) Fd4 B ig igX NG
  have iwX := ok_isWireD (P := l.prog) (w := w) (base := base) Fd5 B ft ftX wo woX
  have tkX := ok_takenB (mg := mg) (P := l.prog) (w := w) (base := base) Fd6
  have cwX := ok_chkWiresXN (P := l.prog) (w := w) (base := base) Fd7 B Cn iw iwX tk tkX TW nwI bN
  have iniX := ok_initXN (P := l.prog) (w := w) (base := base) (C := C) Fm0 cg cgX cw cwX
  have rf := ok_ringFrom (P := l.prog) (w := w) (base := base) Fd11 (PySem.W.mg_of X G ad11) B
  have br := ok_bareRing (P := l.prog) (w := w) (base := base) Fd12 (PySem.W.mg_of X G ad12) B b_min rf
  have crX := ok_chkRingsXN (P := l.prog) (w := w) (base := base) Fd10 B od br TR nrI bM
  have cwW := ok_chkWiresW (P := l.prog) (w := w) (base := base) Fd7 B Cn iw tk
  have iniR := ok_initRN (P := l.prog) (w := w) (base := base) Fm0 B cg cw cwW cr crX
  have R3 : Ref3 K mg CG CW CR := ⟨PySem.W.mg_of X G aNG, PySem.W.mg_of X G aNW, PySem.W.mg_of X G aNR, (exm_three (exm_of eNG ciNG ttNG sNG) (exm_any eNW ciNW ttNW uNGNW) (exm_any eNR ciNR ttNR uNGNR) rfl), (exm_three (exm_any eNG ciNG ttNG uNWNG) (exm_of eNW ciNW ttNW sNW) (exm_any eNR ciNR ttNR uNWNR) rfl), (exm_three (exm_any eNG ciNG ttNG uNRNG) (exm_any eNW ciNW ttNW uNRNW) (exm_of eNR ciNR ttNR sNR) rfl)⟩
  have RD : RdC K mg C0 CT CG CW CR := ⟨PySem.W.mg_of X G aL0, PySem.W.mg_of X G aNT, PySem.W.mg_of X G aNG, PySem.W.mg_of X G aNW, PySem.W.mg_of X G aNR, B.isi, b_VE, NX.te, kit_type (by decide +kernel) vNT, (kitAny_cons (kit_not ciNG ttNG sNT uNTNG) (kitAny_cons (kit_not ciNW ttNW sNT uNTNW) (kitAny_cons (kit_not ciNR ttNR sNT uNTNR) rfl))), ⟨xgNT, xkNT, eNT, xdNT, xaNT, xn, xt, xmNT⟩⟩
  have nt := ok_numsT (P := l.prog) (w := w) (base := base) Fd13 (PySem.W.mg_of X G ad13) B
  have ne := ok_netT (P := l.prog) (w := w) (base := base) Fd14 (PySem.W.mg_of X G ad14) B T nt
  have ct := ok_chkText (P := l.prog) (w := w) (base := base) Fd15 (PySem.W.mg_of X G ad15) B
  have rn := ok_readNum (P := l.prog) (w := w) (base := base) Fd16 (PySem.W.mg_of X G ad16) B i_MF
  have rg := ok_readGate (P := l.prog) (w := w) (base := base) Fd17 (PySem.W.mg_of X G ad17) B rn
  have rw := ok_readWire (P := l.prog) (w := w) (base := base) Fd18 (PySem.W.mg_of X G ad18) B rn
  have rt := ok_readNet (P := l.prog) (w := w) (base := base) Fd19 (PySem.W.mg_of X G ad19) B T ct rg rw ne MK init bm0
  have ctN := ok_chkTextN (P := l.prog) (w := w) (base := base) Fd15 B NX
  have rnX := ok_readNumX (P := l.prog) (w := w) (base := base) Fd16 B i_MF NX
  have rgX := ok_readGateX (P := l.prog) (w := w) (base := base) Fd17 B NX (PySem.W.mg_of X G ad16) kd16 bd16 rnX
  have rwX := ok_readWireX (P := l.prog) (w := w) (base := base) Fd18 B NX (PySem.W.mg_of X G ad16) kd16 bd16 rnX
  have rtX := ok_readNetX (P := l.prog) (w := w) (base := base) Fd19 B T NX R3 ct rg rw ne rgX rwX MK init iniX iniR bm0
  have rtN := ok_readNetN (P := l.prog) (w := w) (base := base) Fd19 B T NX R3 ct ctN rg rw ne rgX rwX MK init iniX iniR bm0
  have ca := ok_cellAt (P := l.prog) (w := w) (base := base) Fd20 (PySem.W.mg_of X G ad20) B.len
  have we := ok_well (P := l.prog) (w := w) (base := base) Fd21 (PySem.W.mg_of X G ad21) B.int
  have dr := ok_draw (P := l.prog) (w := w) (base := base) Fd22 (PySem.W.mg_of X G ad22)
  have on := ok_one (P := l.prog) (w := w) (base := base) Fd23 (PySem.W.mg_of X G ad23) dr B.len
  have ga := ok_gate (P := l.prog) (w := w) (base := base) Fd24 (PySem.W.mg_of X G ad24) dr on
  have wi := ok_wire (P := l.prog) (w := w) (base := base) Fd25 (PySem.W.mg_of X G ad25) dr on B.max B.tuple B.range
  have pa := ok_parts (P := l.prog) (w := w) (base := base) Fd26 (PySem.W.mg_of X G ad26) dr on ga wi B.enum B.range B.len B.list
  have lt := ok_ltext (P := l.prog) (w := w) (base := base) Fd27 (PySem.W.mg_of X G ad27) B
  have nb := Df.mk (ok_lnumb (P := l.prog) (w := w) (base := base) Fd28 B) (PySem.W.mg_of X G ad28) kd28 bd28
  have ro := Df.mk (ok_rowsOf (P := l.prog) (w := w) (base := base) Fd29 B nb) (PySem.W.mg_of X G ad29) kd29 bd29
  have isn := Df.mk (ok_isNet (P := l.prog) (w := w) (base := base) Fd30 B) (PySem.W.mg_of X G ad30) kd30 bd30
  have odd := Df.mk (ok_odd (P := l.prog) (w := w) (base := base) Fd31 B dr on) (PySem.W.mg_of X G ad31) kd31 bd31
  have spr := Df.mk (ok_spRow (P := l.prog) (w := w) (base := base) Fd32 B dr odd) (PySem.W.mg_of X G ad32) kd32 bd32
  have spo := Df.mk (ok_spoilt (P := l.prog) (w := w) (base := base) Fd33 B dr on spr) (PySem.W.mg_of X G ad33) kd33 bd33
  have rd := Df.mk (ok_lread (P := l.prog) (w := w) (base := base) Fd34 B RD (PySem.W.mg_of X G ad19) kd19 bd19 (fn_any rt.ok rtX rtN)) (PySem.W.mg_of X G ad34) kd34 bd34
  have Z : NZ l.prog w K mg base C fm0 fm1 _ _ := ⟨T, Y, MK, init, bm0, ok_eqN Fm1 T Y B, am1, im1, bm1, sN, kit_noZ icC tyC q3, not_firstZ q3⟩
  have ri := Df.mk (ok_right (P := l.prog) (w := w) (base := base) Fd35 B Z dr on pa lt spo ro isn rd ne) (PySem.W.mg_of X G ad35) kd35 bd35
  exact ok_law Fd36 ca we ri
end Lag

set_option maxRecDepth 100000
open PySem PySem.W PyProof.Rows
set_option maxRecDepth 100000 in
set_option maxHeartbeats 0 in
theorem PySem.Challenge.cw_lagshift_k96_texts_of_no_net_holds : PySem.Challenge.rw_lagshift_k96_texts_of_no_net.Holds := by
  w_on; o_law; k_head; (case hw => w_witness2)
  k_fill
  refine L2.walk_of (l := PySem.Challenge.rw_lagshift_k96_texts_of_no_net) (n := 63) (k := 12) (x := "_law_script") (CX := fun _ => L2.CX0) (sp := fun w => Lag.spLaw _) rfl (by decide) rfl ⟨rfl, by decide, by decide⟩ (fun w h Y => PySem.W.kIn_of Y) ?F (fun _ _ a ns hl _ hS => ⟨a, ns, rfl, hS, hl, fun _ => rfl⟩) (fun _ _ _ _ _ h => h)
  case F =>
    intro w mg fa h KX G hmg
    refine' Lag.all_mk KX G hmg ?aC ?ad0 ?ld0 ?cd0 ?kd0 ?ad1 ?ld1 ?cd1 ?kd1 ?ad2 ?ld2 ?cd2 ?kd2 ?ad3 ?ld3 ?cd3 ?kd3 ?ad4 ?ld4 ?cd4 ?kd4 ?ad5 ?ld5 ?cd5 ?kd5 ?ad6 ?ld6 ?cd6 ?kd6 ?ad7 ?ld7 ?cd7 ?kd7 ?ad8 ?ld8 ?cd8 ?kd8 ?ad9 ?ld9 ?cd9 ?kd9 ?ad10 ?ld10 ?cd10 ?kd10 ?ad11 ?ld11 ?cd11 ?kd11 ?ad12 ?ld12 ?cd12 ?kd12 ?ad13 ?ld13 ?cd13 ?kd13 ?ad14 ?ld14 ?cd14 ?kd14 ?ad15 ?ld15 ?cd15 ?kd15 ?ad16 ?ld16 ?cd16 ?kd16 ?ad17 ?ld17 ?cd17 ?kd17 ?ad18 ?ld18 ?cd18 ?kd18 ?ad19 ?ld19 ?cd19 ?kd19 ?ad20 ?ld20 ?cd20 ?kd20 ?ad21 ?ld21 ?cd21 ?kd21 ?ad22 ?ld22 ?cd22 ?kd22 ?ad23 ?ld23 ?cd23 ?kd23 ?ad24 ?ld24 ?cd24 ?kd24 ?ad25 ?ld25 ?cd25 ?kd25 ?ad26 ?ld26 ?cd26 ?kd26 ?ad27 ?ld27 ?cd27 ?kd27 ?ad28 ?ld28 ?cd28 ?kd28 ?ad29 ?ld29 ?cd29 ?kd29 ?ad30 ?ld30 ?cd30 ?kd30 ?ad31 ?ld31 ?cd31 ?kd31 ?ad32 ?ld32 ?cd32 ?kd32 ?ad33 ?ld33 ?cd33 ?kd33 ?ad34 ?ld34 ?cd34 ?kd34 ?ad35 ?ld35 ?cd35 ?kd35 ?ad36 ?ld36 ?cd36 ?kd36 ?am0 ?im0 ?lm0 ?cm0 ?km0 ?am1 ?im1 ?lm1 ?cm1 ?km1 ?pgC ?hdC ?poC ?saC ?mkC ?kcC ?nG ?nW ?ha ?hn ?htk ?hmo ?sN ?aL0 ?gL ?rL ?vL ?tC0 ?q3 ?icC ?tyC ?aNT ?qNT ?kkNT ?eNT ?ttNT ?ciNT ?sNT ?aNG ?qNG ?kkNG ?eNG ?ttNG ?ciNG ?sNG ?aNW ?xNW ?saNW ?noNW ?iNW ?ftNW ?lNW ?cdNW ?kfNW ?kkNW ?eNW ?ttNW ?ciNW ?sNW ?aNR ?xNR ?saNR ?noNR ?iNR ?ftNR ?lNR ?cdNR ?kfNR ?kkNR ?eNR ?ttNR ?ciNR ?sNR ?xgNT ?xkNT ?xdNT ?xaNT ?xmNT ?xgNG ?xkNG ?xdNG ?xaNG ?xmNG ?xgNW ?xkNW ?xdNW ?xaNW ?xmNW ?xgNR ?xkNR ?xdNR ?xaNR ?xmNR ?uNTNG ?uNTNW ?uNTNR ?uNGNW ?uNGNR ?uNWNG ?uNWNR ?uNRNG ?uNRNW ?vNT ?xn ?xt ?zisi ?zint ?zbool ?zlen ?ztuple ?zstr ?zlist ?zall ?zenum ?zzip ?zrange ?zmax ?zmin ?zVE ?gGW ?gGA ?gMF ?gK ?oK ?gW ?oW ?gF ?oF
    (case aC => k_is)
    (case ad0 => k_is)
    (case ld0 => k_is)
    (case cd0 => k_is)
    (case kd0 => k_is)
    (case ad1 => k_is)
    (case ld1 => k_is)
    (case cd1 => k_is)
    (case kd1 => k_is)
    (case ad2 => k_is)
    (case ld2 => k_is)
    (case cd2 => k_is)
    (case kd2 => k_is)
    (case ad3 => k_is)
    (case ld3 => k_is)
    (case cd3 => k_is)
    (case kd3 => k_is)
    (case ad4 => k_is)
    (case ld4 => k_is)
    (case cd4 => k_is)
    (case kd4 => k_is)
    (case ad5 => k_is)
    (case ld5 => k_is)
    (case cd5 => k_is)
    (case kd5 => k_is)
    (case ad6 => k_is)
    (case ld6 => k_is)
    (case cd6 => k_is)
    (case kd6 => k_is)
    (case ad7 => k_is)
    (case ld7 => k_is)
    (case cd7 => k_is)
    (case kd7 => k_is)
    (case ad8 => k_is)
    (case ld8 => k_is)
    (case cd8 => k_is)
    (case kd8 => k_is)
    (case ad9 => k_is)
    (case ld9 => k_is)
    (case cd9 => k_is)
    (case kd9 => k_is)
    (case ad10 => k_is)
    (case ld10 => k_is)
    (case cd10 => k_is)
    (case kd10 => k_is)
    (case ad11 => k_is)
    (case ld11 => k_is)
    (case cd11 => k_is)
    (case kd11 => k_is)
    (case ad12 => k_is)
    (case ld12 => k_is)
    (case cd12 => k_is)
    (case kd12 => k_is)
    (case ad13 => k_is)
    (case ld13 => k_is)
    (case cd13 => k_is)
    (case kd13 => k_is)
    (case ad14 => k_is)
    (case ld14 => k_is)
    (case cd14 => k_is)
    (case kd14 => k_is)
    (case ad15 => k_is)
    (case ld15 => k_is)
    (case cd15 => k_is)
    (case kd15 => k_is)
    (case ad16 => k_is)
    (case ld16 => k_is)
    (case cd16 => k_is)
    (case kd16 => k_is)
    (case ad17 => k_is)
    (case ld17 => k_is)
    (case cd17 => k_is)
    (case kd17 => k_is)
    (case ad18 => k_is)
    (case ld18 => k_is)
    (case cd18 => k_is)
    (case kd18 => k_is)
    (case ad19 => k_is)
    (case ld19 => k_is)
    (case cd19 => k_is)
    (case kd19 => k_is)
    (case ad20 => k_is)
    (case ld20 => k_is)
    (case cd20 => k_is)
    (case kd20 => k_is)
    (case ad21 => k_is)
    (case ld21 => k_is)
    (case cd21 => k_is)
    (case kd21 => k_is)
    (case ad22 => k_is)
    (case ld22 => k_is)
    (case cd22 => k_is)
    (case kd22 => k_is)
    (case ad23 => k_is)
    (case ld23 => k_is)
    (case cd23 => k_is)
    (case kd23 => k_is)
    (case ad24 => k_is)
    (case ld24 => k_is)
    (case cd24 => k_is)
    (case kd24 => k_is)
    (case ad25 => k_is)
    (case ld25 => k_is)
    (case cd25 => k_is)
    (case kd25 => k_is)
    (case ad26 => k_is)
    (case ld26 => k_is)
    (case cd26 => k_is)
    (case kd26 => k_is)
    (case ad27 => k_is)
    (case ld27 => k_is)
    (case cd27 => k_is)
    (case kd27 => k_is)
    (case ad28 => k_is)
    (case ld28 => k_is)
    (case cd28 => k_is)
    (case kd28 => k_is)
    (case ad29 => k_is)
    (case ld29 => k_is)
    (case cd29 => k_is)
    (case kd29 => k_is)
    (case ad30 => k_is)
    (case ld30 => k_is)
    (case cd30 => k_is)
    (case kd30 => k_is)
    (case ad31 => k_is)
    (case ld31 => k_is)
    (case cd31 => k_is)
    (case kd31 => k_is)
    (case ad32 => k_is)
    (case ld32 => k_is)
    (case cd32 => k_is)
    (case kd32 => k_is)
    (case ad33 => k_is)
    (case ld33 => k_is)
    (case cd33 => k_is)
    (case kd33 => k_is)
    (case ad34 => k_is)
    (case ld34 => k_is)
    (case cd34 => k_is)
    (case kd34 => k_is)
    (case ad35 => k_is)
    (case ld35 => k_is)
    (case cd35 => k_is)
    (case kd35 => k_is)
    (case ad36 => k_is)
    (case ld36 => k_is)
    (case cd36 => k_is)
    (case kd36 => k_is)
    (case am0 => k_is)
    (case im0 => k_is)
    (case lm0 => k_is)
    (case cm0 => k_is)
    (case km0 => k_is)
    (case am1 => k_is)
    (case im1 => k_is)
    (case lm1 => k_is)
    (case cm1 => k_is)
    (case km1 => k_is)
    (case pgC => k_is)
    (case hdC => k_is)
    (case poC => k_is)
    (case saC => k_is)
    (case mkC => k_is)
    (case kcC => k_is)
    (case nG => k_is)
    (case nW => k_is)
    (case ha => k_is)
    (case hn => k_is)
    (case htk => k_is)
    (case hmo => k_is)
    (case sN => k_is)
    (case aL0 => k_is)
    (case gL => k_is)
    (case rL => k_is)
    (case vL => k_is)
    (case tC0 => k_is)
    (case q3 => k_is)
    (case icC => k_is)
    (case tyC => k_is)
    (case aNT => k_is)
    (case qNT => k_exc)
    (case kkNT => k_is)
    (case eNT => k_is)
    (case ttNT => k_is)
    (case ciNT => k_is)
    (case sNT => first | rfl | k_is)
    (case aNG => k_is)
    (case qNG => k_exc)
    (case kkNG => k_is)
    (case eNG => k_is)
    (case ttNG => k_is)
    (case ciNG => k_is)
    (case sNG => first | rfl | k_is)
    (case aNW => k_is)
    (case xNW => k_is)
    (case saNW => k_is)
    (case noNW => k_is)
    (case iNW => k_is)
    (case ftNW => k_is)
    (case lNW => k_is)
    (case cdNW => k_is)
    (case kfNW => k_is)
    (case kkNW => k_is)
    (case eNW => k_is)
    (case ttNW => k_is)
    (case ciNW => k_is)
    (case sNW => first | rfl | k_is)
    (case aNR => k_is)
    (case xNR => k_is)
    (case saNR => k_is)
    (case noNR => k_is)
    (case iNR => k_is)
    (case ftNR => k_is)
    (case lNR => k_is)
    (case cdNR => k_is)
    (case kfNR => k_is)
    (case kkNR => k_is)
    (case eNR => k_is)
    (case ttNR => k_is)
    (case ciNR => k_is)
    (case sNR => first | rfl | k_is)
    (case xgNT => k_is)
    (case xkNT => k_is)
    (case xdNT => k_is)
    (case xaNT => k_is)
    (case xmNT => k_is)
    (case xgNG => k_is)
    (case xkNG => k_is)
    (case xdNG => k_is)
    (case xaNG => k_is)
    (case xmNG => k_is)
    (case xgNW => k_is)
    (case xkNW => k_is)
    (case xdNW => k_is)
    (case xaNW => k_is)
    (case xmNW => k_is)
    (case xgNR => k_is)
    (case xkNR => k_is)
    (case xdNR => k_is)
    (case xaNR => k_is)
    (case xmNR => k_is)
    (case uNTNG => k_is)
    (case uNTNW => k_is)
    (case uNTNR => k_is)
    (case uNGNW => k_is)
    (case uNGNR => k_is)
    (case uNWNG => k_is)
    (case uNWNR => k_is)
    (case uNRNG => k_is)
    (case uNRNW => k_is)
    (case vNT => k_is)
    (case xn => k_is)
    (case xt => k_is)
    (case zisi => k_is)
    (case zint => k_is)
    (case zbool => k_is)
    (case zlen => k_is)
    (case ztuple => k_is)
    (case zstr => k_is)
    (case zlist => k_is)
    (case zall => k_is)
    (case zenum => k_is)
    (case zzip => k_is)
    (case zrange => k_is)
    (case zmax => k_is)
    (case zmin => k_is)
    (case zVE => k_is)
    (case gGW => k_is)
    (case gGA => k_is)
    (case gMF => k_is)
    (case gK => k_is)
    (case oK => k_is)
    (case gW => k_is)
    (case oW => k_is)
    (case gF => k_is)
    (case oF => k_is)

