import PyProof.Rows.All
import Wide.All
import OpenK.AllK
import Wide.FinOn
import HandS.ForMost
import HandS.IsInst
import HandS.Evl
import HandS.Flow
import HandS.Conv
import HandS.Wide
import HandS.Walk
import HandS.Zip
import HandS.OwnEq
import HandS.Style
import HandS.TupAny
import KE.KMinKey
import HandS.SortKw
import HandS.CallLocal
import HandS.More
import HandS.Text
import HandS.FStr
import HandS.StrMore
import PyProof.EqAt
import PyProof.EqKinds
import PyProof.NeKinds
import PyProof.TupleCall
import HandS.MakeKwOnly
import PySem.Challenge.RW_lagshift_k05_great_nets_run
set_option Elab.async false
set_option linter.all false
set_option maxRecDepth 100000
set_option maxHeartbeats 4000000
namespace Lag
open PySem PySem.Spec PyProof.Rows L2
/-! ### the text by its places -/
def topS (i : Nat) : Stmt := PySem.Challenge.pw_lagshift_k05_great_nets_run.main.body.getD i (.Pass ⟨0, 0, 0, 0⟩)
abbrev sCellAt : Stmt := topS 57
abbrev sWell : Stmt := topS 58
abbrev sDraw : Stmt := topS 59
abbrev sOne : Stmt := topS 60
/-! ### heaps -/
/-- all stands as it stood but at w -/
def But (w : Addr) (H H' : Hp) : Prop := ∀ b o, b ≠ w → H b = some o → H' b = some o
theorem But.refl (w : Addr) (H : Hp) : But w H H := fun _ _ _ h => h
theorem But.trans {w : Addr} {H H1 H2 : Hp} (a : But w H H1) (b : But w H1 H2) : But w H H2 := fun c o n h => b c o n (a c o n h)
theorem But.same {w : Addr} {H H1 : Hp} (a : Same H H1) : But w H H1 := fun c o _ h => a c o h
theorem But.upd {w : Addr} {H : Hp} {o : HO} : But w H (upd H w o) := fun c u n h => by rw [upd_ne n]; exact h
theorem But.new {w p : Addr} {H : Hp} {o : HO} (h : H p = none) : But w H (L2.upd H p o) := fun c u n e => by rw [upd_ne (ne_of_none e h)]; exact e
theorem same_new {H : Hp} {p : Addr} {o : HO} (h : H p = none) : Same H (upd H p o) := fun b x e => by rw [upd_ne (ne_of_none e h)]; exact e
/-- an object that H does not know may be changed -/
theorem same_mut {H H' : Hp} {p : Addr} {o : HO} (e : Same H H') (h : H p = none) : Same H (upd H' p o) := fun a u ha => by rw [upd_ne (ne_of_none ha h)]; exact e a u ha
theorem But.mut {w p : Addr} {H H' : Hp} {o : HO} (e : But w H H') (h : H p = none) : But w H (L2.upd H' p o) := fun a u n ha => by rw [upd_ne (ne_of_none ha h)]; exact e a u n ha
theorem But.seq {K : PySem.W.Frag} {w a : Addr} {H H' : Hp} {xs : List V} (e : But w H H') (n : a ≠ w) (h : SqL K H a xs) : SqL K H' a xs := by
  rcases h with (h | ⟨o, h⟩) | h
  · exact .inl (.inl (e _ _ n h))
  · exact .inl (.inr ⟨o, e _ _ n h⟩)
  · exact .inr h
/-- at w the well: three numbers -/
def WellAt (w : Addr) (H : Hp) : Prop := ∃ a b c : Int, H w = some (.lst [.int a, .int b, .int c])
theorem WellAt.new {w p : Addr} {H : Hp} {o : HO} (W : WellAt w H) (h : H p = none) : WellAt w (upd H p o) := by
  obtain ⟨a, b, c, e⟩ := W
  exact ⟨a, b, c, by rw [upd_ne (ne_of_none e h)]; exact e⟩
theorem WellAt.same {w : Addr} {H H' : Hp} (W : WellAt w H) (s : Same H H') : WellAt w H' := by
  obtain ⟨a, b, c, e⟩ := W
  exact ⟨a, b, c, s _ _ e⟩
theorem WellAt.ne {w p : Addr} {H : Hp} (W : WellAt w H) (h : H p = none) : w ≠ p := by
  obtain ⟨a, b, c, e⟩ := W
  exact ne_of_none e h
theorem WellAt.tup {K : PySem.W.Frag} {w p : Addr} {H : Hp} {xs : List V} (W : WellAt w H) (h : H p = some (.tup xs)) : p ≠ w := by
  obtain ⟨a, b, c, e⟩ := W
  exact ne_of h e (by intro q; cases q)
/-- a draw of the well: what stood stands, the well is one -/
structure Dr (w : Addr) (H H' : Hp) : Prop where
  but : But w H H'
  well : WellAt w H'
theorem Dr.trans {w : Addr} {H H1 H2 : Hp} (a : Dr w H H1) (b : Dr w H1 H2) : Dr w H H2 := ⟨a.but.trans b.but, b.well⟩
theorem Dr.free {w p : Addr} {H H' : Hp} (d : Dr w H H') (W : WellAt w H) (h : H' p = none) : H p = none := by
  cases q : H p with
  | none => rfl
  | some o =>
    have n : p ≠ w := (d.well.ne h).symm
    rw [d.but _ _ n q] at h
    cases h
/-! ### the promises of the draws -/
def spCellAt (K : PySem.W.Frag) : Sp := fun vs H Q _ => ∃ (a : Addr) (ns : List Int) (k : Int), vs = [.ref a, .int k] ∧ 0 ≤ k ∧ SqL K H a (ns.map V.int) ∧ ∀ z : Int, Q (.int z) H
def spWell : Sp := fun vs H Q _ => ∃ z : Int, vs = [.int z] ∧ ∀ p H', H p = none → Same H H' → WellAt p H' → Q (.ref p) H'
def spDraw : Sp := fun vs H Q _ => ∃ (w : Addr) (n : Int), vs = [.ref w, .int n] ∧ 0 < n ∧ n < 1000000 ∧ WellAt w H ∧ ∀ d H', 0 ≤ d → d < n → Dr w H H' → Q (.int d) H'
def spOne (K : PySem.W.Frag) : Sp := fun vs H Q _ => ∃ (w l : Addr) (xs : List V), vs = [.ref w, .ref l] ∧ l ≠ w ∧ WellAt w H ∧ SqL K H l xs ∧ xs ≠ [] ∧ xs.length < 1000000 ∧ ∀ v H', v ∈ xs → Dr w H H' → Q v H'
section
variable {P : Program} {w : World} {K : PySem.W.Frag} {mg : Str → Option Value} {base : Heap}
/-- a def at its name: it keeps its promise, its name holds it, its arguments bind -/
structure Df (P : Program) (w : World) (K : PySem.W.Frag) (mg : Str → Option Value) (base : Heap) (k : Nat) (name : Str) (ps : List Str) (sp : Sp) (f : Addr) (fd : FuncData) : Prop where
  ok : FnOk P w K mg base CX0 k f fd ps sp
  mg : mg name = some (.ref f)
  kp : PySem.W.keepIn K (.ref f) = true
  bd : Binds K fd ps []
/-! ### _law_cell_at -/
theorem scCellAt : FnScope ["_law_script", "_law_k"] ["_law_script", "_law_k"] (defScope sCellAt) := ⟨rfl, rfl, rfl, by decide +kernel, rfl, by decide +kernel, by decide +kernel⟩
abbrev DCellAt (P : Program) (w : World) (K : PySem.W.Frag) (mg : Str → Option Value) (base : Heap) := Df P w K mg base 1 "_law_cell_at" ["_law_script", "_law_k"] (spCellAt K)
theorem ok_cellAt {f : Addr} {fd : FuncData} (F : Fun K "_law_cell_at" "_law_cell_at" sCellAt f fd) (hm : mg "_law_cell_at" = some (.ref f)) (ml : mg "len" = none) : DCellAt P w K mg base f fd := by
  refine ⟨?_, hm, F.kp, F.binds fun _ _ _ _ _ _ us hl => match us, hl with | [_, _], _ => rfl⟩
  refine F.ok scCellAt (fun vs H Q E h => ?_) (fun cdv A outer s H vs Q E hr h => ?_)
  · obtain ⟨a, ns, k, rfl, _⟩ := h
    rfl
  · obtain ⟨a, ns, k, rfl, hk, hS, q⟩ := h
    refine ⟨_, pss_cons (ps_if (pt_cmpR op_lt (pv 1) (pe_callB call_len_seq (by rfl) ml PySem.boot_len (pa_cons (pv 0) pa_nil)) (nomark _))
        (pss_one (ps_ret (pe_ix ix_list (pv 0) (pv 1) (fun _ _ => rfl)))) pss_nil)
      (pss_one (ps_ret pe_int)), ?_⟩
    refine ⟨_, rfl, .ref a, rfl, a, _, rfl, .inl hS, _, _, rfl, rfl, _, rfl, ite2 (fun e => ?_) (fun e => ?_)⟩
    · have e1 : k < ((ns.map V.int).length : Int) := of_decide_eq_true e
      rw [List.length_map] at e1
      have hj : k.toNat < ns.length := by omega
      refine ⟨_, rfl, _, rfl, a, _, k, .int (ns[k.toNat]), rfl, rfl, hS, at_of (j := k.toNat) (by omega) ?_, q _⟩
      rw [List.getElem?_map, List.getElem?_eq_getElem hj]
      rfl
    · exact q 0
/-! ### _law_well -/
theorem scWell : FnScope ["_law_cell"] ["_law_cell"] (defScope sWell) := ⟨rfl, rfl, rfl, by decide +kernel, rfl, by decide +kernel, by decide +kernel⟩
abbrev DWell (P : Program) (w : World) (K : PySem.W.Frag) (mg : Str → Option Value) (base : Heap) := Df P w K mg base 1 "_law_well" ["_law_cell"] spWell
theorem ok_well {f : Addr} {fd : FuncData} (F : Fun K "_law_well" "_law_well" sWell f fd) (hm : mg "_law_well" = some (.ref f)) (mi : mg "int" = none) : DWell P w K mg base f fd := by
  refine ⟨?_, hm, F.kp, F.binds fun _ _ _ _ _ _ us hl => match us, hl with | [_], _ => rfl⟩
  refine F.ok scWell (fun vs H Q E h => ?_) (fun cdv A outer s H vs Q E hr h => ?_)
  · obtain ⟨z, rfl, _⟩ := h
    rfl
  · obtain ⟨z, rfl, q⟩ := h
    refine ⟨_, pss_one (ps_ret (pe_lst (pa_cons (pe_op op_mul (pv 0) (pe_callTy call_int1 (by rfl) mi (by decide +kernel) (pa_cons (pe_cmpR op_ge (pv 0) (pe_op op_pow pe_int pe_int) (nomark _)) pa_nil)))
      (pa_cons (pe_op op_mod (pv 0) pe_int) (pa_cons pe_int pa_nil))))), ?_⟩
    refine ⟨_, rfl, _, rfl, _, _, rfl, rfl, ⟨by decide, by decide, by decide⟩, _, _, rfl, rfl, .inr ⟨_, rfl, _, _, rfl, rfl, .inr ?_, ?_⟩⟩
    · cases decide (10 ^ (18 : Int).toNat ≤ z) with
      | true => exact ⟨by decide, by decide⟩
      | false => exact ⟨by decide, by decide⟩
    · refine ⟨_, rfl, _, _, rfl, rfl, (by show (0 : Int) < 2147483629; decide), (by show 3 ≤ sizeLine; decide), fun p hp => ?_⟩
      exact q p _ hp (same_new hp) ⟨_, _, _, upd_same⟩
end
end Lag

set_option maxRecDepth 100000
set_option maxHeartbeats 4000000
namespace Lag
open PySem PySem.Spec PyProof.Rows L2
section
variable {P : Program} {w : World} {K : PySem.W.Frag} {mg : Str → Option Value} {base : Heap}
/-! ### _law_draw -/
theorem scDraw : FnScope ["_law_well_here", "_law_many", "_law_found", "_law_number"] ["_law_well_here", "_law_many"] (defScope sDraw) := ⟨rfl, rfl, rfl, by decide +kernel, rfl, by decide +kernel, by decide +kernel⟩
theorem mod_b {x n : Int} (h : 0 < n) (hn : n ≤ 4294967296) : -(2 ^ 64) < x % n ∧ x % n < 2 ^ 64 := by
  have h1 := Int.emod_nonneg x (show n ≠ 0 by omega)
  have h2 := Int.emod_lt_of_pos x h
  constructor
  · have e : (-(2 ^ 64) : Int) = -18446744073709551616 := by decide
    omega
  · have e : (2 ^ 64 : Int) = 18446744073709551616 := by decide
    omega
abbrev DDraw (P : Program) (w : World) (K : PySem.W.Frag) (mg : Str → Option Value) (base : Heap) := Df P w K mg base 1 "_law_draw" ["_law_well_here", "_law_many"] spDraw
theorem ok_draw {f : Addr} {fd : FuncData} (F : Fun K "_law_draw" "_law_draw" sDraw f fd) (hm : mg "_law_draw" = some (.ref f)) : DDraw P w K mg base f fd := by
  refine ⟨?_, hm, F.kp, F.binds fun _ _ _ _ _ _ us hl => match us, hl with | [_, _], _ => rfl⟩
  refine F.ok scDraw (fun vs H Q E h => ?_) (fun cdv A outer s H vs Q E hr h => ?_)
  · obtain ⟨wl, n, rfl, _⟩ := h
    rfl
  · obtain ⟨wl, n, rfl, hn, hn2, ⟨a, b, c, hw⟩, q⟩ := h
    refine ⟨_, pss_cons (ps_if (pt_cmpR op_gt (pe_ix ix_list (pv 0) pe_int (fun _ _ => rfl)) pe_int (nomark _))
        (pss_cons (ps_set (i := 2) scDraw.nd rfl (Or.inl rfl) (pe_op op_mod (pe_ix ix_list (pv 0) pe_int (fun _ _ => rfl)) (pv 1)))
        (pss_cons (ps_asg (pe_op op_fdiv (pe_ix ix_list (pv 0) pe_int (fun _ _ => rfl)) (pv 1)) (pg_sub (pv 0) pe_int set_list))
        (pss_one (ps_ret (pv 2))))) pss_nil)
      (pss_cons (ps_asg (pe_op op_add (pe_ix ix_list (pv 0) pe_int (fun _ _ => rfl)) pe_int) (pg_sub (pv 0) pe_int set_list))
      (pss_cons (ps_set (i := 3) scDraw.nd rfl (Or.inl rfl) (pe_op op_mod (pe_op op_mul (pe_op op_add (pe_op op_add (pe_ix ix_list (pv 0) pe_int (fun _ _ => rfl)) (pe_op op_mul pe_int (pe_ix ix_list (pv 0) pe_int (fun _ _ => rfl)))) pe_int) pe_int) pe_int))
      (pss_cons (ps_set (i := 3) scDraw.nd rfl (Or.inl rfl) (pe_op op_mod (pe_op op_mul (pv 3) (pe_op op_add (pe_op op_add (pe_op op_fdiv (pv 3) pe_int) pe_int) (pe_ix ix_list (pv 0) pe_int (fun _ _ => rfl)))) pe_int))
      (pss_one (ps_ret (pe_op op_mod (pe_op op_fdiv (pe_op op_mod (pe_op op_mul (pv 3) (pe_op op_add (pe_op op_fdiv (pv 3) pe_int) pe_int)) pe_int) pe_int) (pv 1))))))), ?_⟩
    refine ⟨_, rfl, wl, _, 0, .int a, rfl, rfl, SqL.of hw, atI_nat (j := 0) rfl, _, _, rfl, rfl, _, rfl, ite2 (fun e => ?_) (fun e => ?_)⟩
    · refine ⟨_, rfl, wl, _, 0, .int a, rfl, rfl, SqL.of hw, atI_nat (j := 0) rfl, _, rfl, _, _, rfl, rfl, hn, ?_⟩
      refine ⟨_, rfl, wl, _, 0, .int a, rfl, rfl, SqL.of hw, atI_nat (j := 0) rfl, _, rfl, _, _, rfl, rfl, ⟨hn, by omega⟩, ?_⟩
      refine ⟨_, rfl, wl, _, 0, 0, rfl, rfl, hw, rfl, ?_⟩
      refine ⟨_, rfl, ?_⟩
      exact q _ _ (Int.emod_nonneg _ (by omega)) (Int.emod_lt_of_pos _ hn) ⟨But.upd, ⟨_, _, _, upd_same⟩⟩
    · have h1 : (upd H wl (HO.lst [.int a, .int b, .int (c + 1)])) wl = some (.lst [.int a, .int b, .int (c + 1)]) := upd_same
      refine ⟨_, rfl, wl, _, 2, .int c, rfl, rfl, SqL.of hw, atI_nat (j := 2) rfl, _, _, rfl, rfl, ?_⟩
      refine ⟨_, rfl, wl, _, 2, 2, rfl, rfl, hw, rfl, ?_⟩
      refine ⟨_, rfl, wl, _, 1, .int b, rfl, rfl, SqL.of h1, atI_nat (j := 1) rfl, _, rfl, wl, _, 2, .int (c + 1), rfl, rfl, SqL.of h1, atI_nat (j := 2) rfl, _, _, rfl, rfl, .inl ⟨by decide, by decide⟩, _, _, rfl, rfl, _, _, rfl, rfl, _, _, rfl, rfl, .inr ⟨by decide, by decide⟩, _, _, rfl, rfl, (by show (0 : Int) < 2147483629; decide), ?_⟩
      refine ⟨_, rfl, _, rfl, _, _, rfl, rfl, ⟨by decide, by decide⟩, _, _, rfl, rfl, _, rfl, wl, _, 2, .int (c + 1), rfl, rfl, SqL.of h1, atI_nat (j := 2) rfl, _, _, rfl, rfl, _, _, rfl, rfl, .inl (mod_b (by decide) (by decide)), _, _, rfl, rfl, (by show (0 : Int) < 2147483587; decide), ?_⟩
      refine ⟨_, rfl, _, rfl, _, _, rfl, rfl, ⟨by decide, by decide⟩, _, _, rfl, rfl, _, _, rfl, rfl, .inl (mod_b (by decide) (by decide)), _, _, rfl, rfl, (by show (0 : Int) < 2147483563; decide), _, _, rfl, rfl, ⟨by decide, by decide⟩, _, rfl, _, _, rfl, rfl, hn, ?_⟩
      exact q _ _ (Int.emod_nonneg _ (by omega)) (Int.emod_lt_of_pos _ hn) ⟨But.upd, ⟨_, _, _, h1⟩⟩
/-! ### _law_one -/
theorem scOne : FnScope ["_law_well_here", "_law_some"] ["_law_well_here", "_law_some"] (defScope sOne) := ⟨rfl, rfl, rfl, by decide +kernel, rfl, by decide +kernel, by decide +kernel⟩
abbrev DOne (P : Program) (w : World) (K : PySem.W.Frag) (mg : Str → Option Value) (base : Heap) := Df P w K mg base 2 "_law_one" ["_law_well_here", "_law_some"] (spOne K)
theorem ok_one {f fD : Addr} {fd fdD : FuncData} (F : Fun K "_law_one" "_law_one" sOne f fd) (hm : mg "_law_one" = some (.ref f)) (D0 : DDraw P w K mg base fD fdD) (ml : mg "len" = none) : DOne P w K mg base f fd := by
  refine ⟨?_, hm, F.kp, F.binds fun _ _ _ _ _ _ us hl => match us, hl with | [_, _], _ => rfl⟩
  refine F.ok scOne (fun vs H Q E h => ?_) (fun cdv A outer s H vs Q E hr h => ?_)
  · obtain ⟨wl, l, xs, rfl, _⟩ := h
    rfl
  · obtain ⟨wl, l, xs, rfl, hl, hw, hS, h0, hz, q⟩ := h
    refine ⟨_, pss_one (ps_ret (pe_ix ix_list (pv 1) (pe_call D0.ok hr (by rfl) D0.mg D0.kp D0.bd .nil pass0 (pa_cons (pv 0) (pa_cons (pe_callB call_len_seq (by rfl) ml PySem.boot_len (pa_cons (pv 1) pa_nil)) pa_nil))) (fun _ _ => rfl))), ?_⟩
    have hp : 0 < xs.length := by
      cases xs with
      | nil => exact absurd rfl h0
      | cons x r => simp
    refine ⟨_, rfl, _, rfl, _, rfl, l, xs, rfl, .inl hS, wl, _, rfl, by omega, by omega, hw, fun d H' d0 d1 D => ?_⟩
    have hj : d.toNat < xs.length := by omega
    refine ⟨l, xs, d, xs[d.toNat], rfl, rfl, D.but.seq hl hS, at_of (j := d.toNat) (by omega) (List.getElem?_eq_getElem hj), ?_⟩
    exact q _ _ (List.getElem_mem hj) D
end
end Lag

set_option maxRecDepth 100000
set_option maxHeartbeats 4000000
namespace Lag
open PySem PySem.Spec PyProof.Rows L2
/-! ### what is kept of tuples -/
def isT : HO → Prop
  | .tup _ => True
  | .frz _ _ => True
  | _ => False
/-- tuples, and what is locked, stand as they stood -/
def TK (H H' : Hp) : Prop := ∀ a o, isT o → H a = some o → H' a = some o
theorem TK.refl (H : Hp) : TK H H := fun _ _ _ h => h
theorem TK.trans {H H1 H2 : Hp} (a : TK H H1) (b : TK H1 H2) : TK H H2 := fun c o t h => b c o t (a c o t h)
theorem TK.same {H H1 : Hp} (a : Same H H1) : TK H H1 := fun c o _ h => a c o h
theorem TK.new {p : Addr} {H : Hp} {o : HO} (h : H p = none) : TK H (upd H p o) := TK.same (same_new h)
theorem TK.lst {l : Addr} {H : Hp} {xs : List V} {o : HO} (h : H l = some (.lst xs)) : TK H (upd H l o) := fun c u t e => by
  have n : c ≠ l := fun z => by
    rw [z, h] at e
    cases e
    exact t
  rw [upd_ne n]
  exact e
theorem TK.dr {w : Addr} {H H' : Hp} (W : WellAt w H) (d : But w H H') : TK H H' := fun c u t e => by
  obtain ⟨x, y, z, h⟩ := W
  have n : c ≠ w := fun z => by
    rw [z, h] at e
    cases e
    exact t
  exact d _ _ n e
theorem TK.seq {K : PySem.W.Frag} {H H' : Hp} {a : Addr} {xs : List V} (t : TK H H') (h : SqT K H a xs) : SqT K H' a xs := by
  rcases h with (h | ⟨o, h⟩) | h
  · exact .inl (.inl (t _ _ trivial h))
  · exact .inl (.inr ⟨o, t _ _ trivial h⟩)
  · exact .inr h
/-! ### gates and wires as data -/
abbrev Gt := Str × Int
abbrev Wr := Nat × Nat × List Int
def kinds : List Str := ["in", "out", "sum", "times", "most", "least", "first", "one"]
def portK (k : Str) : Prop := k = "in" ∨ k = "out"
/-- a gate -/
def GOk (g : Gt) : Prop := g.1 ∈ kinds ∧ 0 ≤ g.2 ∧ g.2 ≤ 100 ∧ (portK g.1 → g.2 = 0)
def GateV (K : PySem.W.Frag) (H : Hp) (v : V) (g : Gt) : Prop := ∃ a, v = .ref a ∧ SqT K H a [.str g.1, .int g.2]
def WireV (K : PySem.W.Frag) (H : Hp) (v : V) (x : Wr) : Prop := ∃ a b, v = .ref a ∧ SqT K H a [.int x.1, .int x.2.1, .ref b] ∧ SqT K H b (x.2.2.map V.int)
theorem GateV.tk {K : PySem.W.Frag} {H H' : Hp} {v : V} {g : Gt} (t : TK H H') (h : GateV K H v g) : GateV K H' v g := by
  obtain ⟨a, e, s⟩ := h
  exact ⟨a, e, t.seq s⟩
theorem WireV.tk {K : PySem.W.Frag} {H H' : Hp} {v : V} {x : Wr} (t : TK H H') (h : WireV K H v x) : WireV K H' v x := by
  obtain ⟨a, b, e, s, s2⟩ := h
  exact ⟨a, b, e, t.seq s, t.seq s2⟩
/-! ### _law_gate -/
def kinds11 : List Str := ["in", "in", "sum", "times", "most", "least", "first", "one", "sum", "out", "out"]
theorem k11 : ∀ k ∈ kinds11, k ∈ kinds := by decide +kernel
def spGate (K : PySem.W.Frag) : Sp := fun vs H Q _ => ∃ (wl : Addr) (b : Bool), vs = [.ref wl, .bl b] ∧ WellAt wl H ∧ ∀ (g : Gt) p H', GOk g → (b = true → g.1 ≠ "out") → Dr wl H H' → H p = none → H' p = some (.tup [.str g.1, .int g.2]) → Q (.ref p) H'
section
variable {P : Program} {w : World} {K : PySem.W.Frag} {mg : Str → Option Value} {base : Heap}
abbrev DGate (P : Program) (w : World) (K : PySem.W.Frag) (mg : Str → Option Value) (base : Heap) := Df P w K mg base 3 "_law_gate" ["_law_well_here", "_law_first"] (spGate K)
theorem Dr.new {wl p : Addr} {H : Hp} {o : HO} (W : WellAt wl H) (h : H p = none) : Dr wl H (upd H p o) := ⟨But.new h, W.new h⟩
end
end Lag

set_option maxRecDepth 100000
set_option maxHeartbeats 4000000
namespace Lag
open PySem PySem.Spec PyProof.Rows L2
/-- registers' worths -/
def ROk (r : List Int) : Prop := ∀ x ∈ r, 0 ≤ x ∧ x ≤ 96
def spWire (K : PySem.W.Frag) : Sp := fun vs H Q _ => ∃ (wl : Addr) (a b : Nat), vs = [.ref wl, .int a, .int b] ∧ WellAt wl H ∧ ∀ (r : List Int) v H', ROk r → r.length ≤ 2 → (b ≤ a → r ≠ []) → Dr wl H H' → WireV K H' v (a, b, r) → Q v H'
/-- a comprehension without a test keeps each item -/
theorem tyes {σ : L2.St} {H : Hp} {A B : Hp → Prop} (h : A H) : tYes σ H (fun b H3 => if b = true then A H3 else B H3) := by
  show if true = true then A H else B H
  rw [if_pos rfl]
  exact h
theorem menu3 {d1 d2 : Int} {v : V} (hv : v ∈ [V.int d1, V.int d2, V.int 96]) (a1 : 0 ≤ d1) (b1 : d1 < 97) (a2 : 0 ≤ d2) (b2 : d2 < 97) : ∃ x, v = V.int x ∧ 0 ≤ x ∧ x ≤ 96 := by
  simp only [List.mem_cons, List.not_mem_nil, or_false] at hv
  rcases hv with rfl | rfl | rfl
  · exact ⟨d1, rfl, a1, by omega⟩
  · exact ⟨d2, rfl, a2, by omega⟩
  · exact ⟨96, rfl, by decide, by decide⟩
section
variable {P : Program} {w : World} {K : PySem.W.Frag} {mg : Str → Option Value} {base : Heap}
abbrev DWire (P : Program) (w : World) (K : PySem.W.Frag) (mg : Str → Option Value) (base : Heap) := Df P w K mg base 3 "_law_wire" ["_law_well_here", "_law_start", "_law_end"] (spWire K)
end
end Lag

set_option maxRecDepth 100000
set_option maxHeartbeats 4000000
namespace Lag
open PySem PySem.Spec PyProof.Rows L2
/-! ### two lists, place by place -/
def All2 {α β : Type} (R : α → β → Prop) (xs : List α) (ys : List β) : Prop := xs.length = ys.length ∧ ∀ (i : Nat) (x : α) (y : β), xs[i]? = some x → ys[i]? = some y → R x y
section
variable {α β : Type} {R S : α → β → Prop} {xs : List α} {ys : List β} {x : α} {y : β}
theorem All2.nil : All2 R [] [] := ⟨rfl, fun i x y h => by simp at h⟩
theorem All2.imp (h : All2 R xs ys) (f : ∀ x y, R x y → S x y) : All2 S xs ys := ⟨h.1, fun i x y a b => f x y (h.2 i x y a b)⟩
theorem All2.snoc (h : All2 R xs ys) (r : R x y) : All2 R (xs ++ [x]) (ys ++ [y]) := by
  refine ⟨by simp [h.1], fun i a b ha hb => ?_⟩
  by_cases hi : i < xs.length
  · rw [List.getElem?_append_left hi] at ha
    rw [List.getElem?_append_left (by rw [← h.1]; exact hi)] at hb
    exact h.2 i a b ha hb
  · rw [List.getElem?_append_right (by omega)] at ha
    rw [List.getElem?_append_right (by rw [← h.1]; omega), ← h.1] at hb
    cases e : i - xs.length with
    | zero =>
      rw [e] at ha hb
      simp at ha hb
      subst ha hb
      exact r
    | succ n =>
      rw [e] at ha
      simp at ha
theorem All2.cons (r : R x y) (h : All2 R xs ys) : All2 R (x :: xs) (y :: ys) := by
  refine ⟨by simp [h.1], fun i a b ha hb => ?_⟩
  cases i with
  | zero =>
    simp at ha hb
    subst ha hb
    exact r
  | succ n => exact h.2 n a b (by simpa using ha) (by simpa using hb)
theorem All2.head {x : α} {y : β} (h : All2 R (x :: xs) (y :: ys)) : R x y := h.2 0 x y rfl rfl
theorem All2.tail {x : α} {y : β} (h : All2 R (x :: xs) (y :: ys)) : All2 R xs ys := ⟨by have := h.1; simp at this; exact this, fun i a b ha hb => h.2 (i + 1) a b (by simpa using ha) (by simpa using hb)⟩
theorem All2.get (h : All2 R xs ys) {i : Nat} {x : α} (e : xs[i]? = some x) : ∃ y, ys[i]? = some y ∧ R x y := by
  have hi := (List.getElem?_eq_some_iff.mp e).1
  have hj : i < ys.length := by rw [← h.1]; exact hi
  exact ⟨ys[i], List.getElem?_eq_getElem hj, h.2 i x _ e (List.getElem?_eq_getElem hj)⟩
theorem All2.getR (h : All2 R xs ys) {i : Nat} {y : β} (e : ys[i]? = some y) : ∃ x, xs[i]? = some x ∧ R x y := by
  have hi := (List.getElem?_eq_some_iff.mp e).1
  have hj : i < xs.length := by rw [h.1]; exact hi
  exact ⟨xs[i], List.getElem?_eq_getElem hj, h.2 i _ y (List.getElem?_eq_getElem hj) e⟩
theorem All2.perm {xs' : List α} (p : xs'.Perm xs) : ∀ {ys : List β}, All2 R xs ys → ∃ ys', ys'.Perm ys ∧ All2 R xs' ys' := by
  induction p with
  | nil => intro ys h; exact ⟨ys, .refl _, h⟩
  | @cons a l1 l2 p ih =>
    intro ys h
    cases ys with
    | nil => have := h.1; simp at this
    | cons y ys =>
      obtain ⟨ys', p', h'⟩ := ih h.tail
      exact ⟨y :: ys', p'.cons y, h'.cons h.head⟩
  | swap a b l =>
    intro ys h
    match ys, h with
    | [], h => have := h.1; simp at this
    | [_], h => have := h.1; simp at this
    | y :: z :: ys, h => exact ⟨z :: y :: ys, .swap _ _ _, All2.cons h.tail.head (All2.cons h.head h.tail.tail)⟩
  | trans p1 p2 ih1 ih2 =>
    intro ys h
    obtain ⟨ys1, q1, h1⟩ := ih2 h
    obtain ⟨ys2, q2, h2⟩ := ih1 h1
    exact ⟨ys2, q2.trans q1, h2⟩
end
/-! ### nets as data -/
def kindAt (gs : List Gt) (i : Nat) : Str := (gs.getD i ("", 0)).1
def cnt (ws : List Wr) (e : Nat) : Nat := ws.countP (fun x => x.2.1 == e)
/-- a wire between these gates -/
structure WOk (gs : List Gt) (x : Wr) : Prop where
  s : x.1 < gs.length
  e : x.2.1 < gs.length
  ks : kindAt gs x.1 ≠ "out"
  ke : kindAt gs x.2.1 ≠ "in"
  r : ROk x.2.2
  rl : x.2.2.length ≤ 200
structure NetOk (gs : List Gt) (ws : List Wr) : Prop where
  ne : gs ≠ []
  gl : gs.length ≤ 100
  wl : ws.length ≤ 1000
  gok : ∀ g ∈ gs, GOk g
  wok : ∀ x ∈ ws, WOk gs x
  one : ∀ e, e < gs.length → kindAt gs e = "out" → cnt ws e = 1
  some : ∀ e, e < gs.length → kindAt gs e = "first" → 1 ≤ cnt ws e
  rank : ∃ ρ : Nat → Nat, ∀ x ∈ ws, x.2.2 = [] → ρ x.1 < ρ x.2.1
/-- numbered anew: the gate k is the old gate at left's place k -/
theorem NetOk.anew {gs : List Gt} {ws : List Wr} {left : List Nat} (N : NetOk gs ws) (p : left.Perm (List.range gs.length)) {ws' : List Wr} (pw : ws'.Perm ws) :
    NetOk (left.map fun k => gs.getD k ("", 0)) (ws'.map fun x => (left.idxOf x.1, left.idxOf x.2.1, x.2.2)) := by
  have hl : left.length = gs.length := by rw [p.length_eq, List.length_range]
  have nd : left.Nodup := p.nodup_iff.mpr List.nodup_range
  have mem : ∀ i, i < gs.length → i ∈ left := fun i hi => p.mem_iff.mpr (List.mem_range.mpr hi)
  have memb : ∀ i, i ∈ left → i < gs.length := fun i hi => List.mem_range.mp (p.mem_iff.mp hi)
  have il : ∀ i, i < gs.length → left.idxOf i < left.length := fun i hi => List.idxOf_lt_length_iff.mpr (mem i hi)
  have ge : ∀ i (h : i < gs.length), left[left.idxOf i]? = Option.some i := fun i h => by
    rw [List.getElem?_eq_getElem (il i h), List.getElem_idxOf]
  have kk : ∀ i, i < gs.length → kindAt (left.map fun k => gs.getD k ("", 0)) (left.idxOf i) = kindAt gs i := fun i h => by
    unfold kindAt
    rw [List.getD_eq_getElem?_getD, List.getElem?_map, ge i h]
    rfl
  have inj : ∀ i j, i < gs.length → j < gs.length → left.idxOf i = left.idxOf j → i = j := fun i j hi hj e => by
    have h1 := ge i hi
    rw [e, ge j hj] at h1
    exact (Option.some.inj h1).symm
  have cc : ∀ e, e < gs.length → cnt (ws'.map fun x => (left.idxOf x.1, left.idxOf x.2.1, x.2.2)) (left.idxOf e) = cnt ws e := fun e he => by
    unfold cnt
    rw [List.countP_map, ← pw.countP_eq]
    refine List.countP_congr fun x hx => ?_
    have := (N.wok x (pw.mem_iff.mp hx)).e
    simp only [Function.comp, beq_iff_eq]
    exact ⟨fun z => inj _ _ this he z, fun z => by rw [z]⟩
  have back : ∀ e, e < left.length → ∃ i, i < gs.length ∧ left.idxOf i = e := fun e he => by
    refine ⟨left[e], memb _ (List.getElem_mem he), ?_⟩
    exact List.Nodup.idxOf_getElem nd e he
  obtain ⟨ρ, hρ⟩ := N.rank
  refine ⟨?_, by simpa [hl] using N.gl, by simpa [pw.length_eq] using N.wl, ?_, ?_, ?_, ?_, ?_⟩
  · intro z
    have := congrArg List.length z
    simp [hl] at this
    exact N.ne this
  · intro g hg
    obtain ⟨k, hk, rfl⟩ := List.mem_map.mp hg
    refine N.gok _ ?_
    rw [List.getD_eq_getElem?_getD, List.getElem?_eq_getElem (memb k hk)]
    exact List.getElem_mem _
  · intro y hy
    obtain ⟨x, hx, rfl⟩ := List.mem_map.mp hy
    have W := N.wok x (pw.mem_iff.mp hx)
    refine ⟨by simpa using il _ W.s, by simpa using il _ W.e, ?_, ?_, W.r, W.rl⟩
    · show kindAt _ (left.idxOf x.1) ≠ _
      rw [kk _ W.s]
      exact W.ks
    · show kindAt _ (left.idxOf x.2.1) ≠ _
      rw [kk _ W.e]
      exact W.ke
  · intro e he hk
    obtain ⟨i, hi, rfl⟩ := back e (by simpa using he)
    rw [kk i hi] at hk
    rw [cc i hi]
    exact N.one i hi hk
  · intro e he hk
    obtain ⟨i, hi, rfl⟩ := back e (by simpa using he)
    rw [kk i hi] at hk
    rw [cc i hi]
    exact N.some i hi hk
  · refine ⟨fun k => ρ (left.getD k 0), fun y hy h => ?_⟩
    obtain ⟨x, hx, rfl⟩ := List.mem_map.mp hy
    have W := N.wok x (pw.mem_iff.mp hx)
    have := hρ x (pw.mem_iff.mp hx) h
    simp only [List.getD_eq_getElem?_getD, ge _ W.s, ge _ W.e, Option.getD_some]
    exact this
end Lag

set_option maxRecDepth 100000
set_option maxHeartbeats 4000000
namespace Lag
open PySem PySem.Spec PyProof.Rows L2
/-! ### [left.pop(draw(well, len(left))) for k in range(len(left))] -/
theorem set_well {wl D : Addr} {H0 H : Hp} {o : HO} (d : Dr wl H0 H) (h0 : H0 D = none) (n : D ≠ wl) : Dr wl H0 (upd H D o) := by
  refine ⟨fun c u nc e => ?_, ?_⟩
  · rw [upd_ne (ne_of_none e h0)]
    exact d.but c u nc e
  · obtain ⟨x1, x2, x3, hx⟩ := d.well
    exact ⟨x1, x2, x3, by rw [upd_ne n.symm]; exact hx⟩
theorem perm_erase {α : Type} : ∀ (l : List α) (k : Nat) (h : k < l.length), (l[k] :: l.eraseIdx k).Perm l
  | [], k, h => by simp at h
  | a :: l, 0, _ => .refl _
  | a :: l, k + 1, h => by
    have h' : k < l.length := by simpa using h
    show (l[k] :: a :: l.eraseIdx k).Perm (a :: l)
    exact (List.Perm.swap _ _ _).trans ((perm_erase l k h').cons a)
theorem perm_pop {α : Type} {acc rem xs : List α} {k : Nat} {y : α} (h : (acc ++ rem).Perm xs) (e : rem[k]? = some y) : ((acc ++ [y]) ++ rem.eraseIdx k).Perm xs := by
  obtain ⟨hk, rfl⟩ := List.getElem?_eq_some_iff.mp e
  refine List.Perm.trans ?_ h
  rw [List.append_assoc]
  refine List.Perm.append_left acc ?_
  exact perm_erase rem k hk
def tLen (K : PySem.W.Frag) (i : Nat) : TE := tCB (Evl.rLenS K) (tCons (tVar i) tNil)
def popT (K : PySem.W.Frag) : TE := tLc (iRng1 (tCons (tLen K 10) tNil)) (gName 3) tYes (tBM K "list" rPopAt (tVar 10) (tCons (tCall spDraw [] E0 (tCons (tVar 0) (tCons (tLen K 10) tNil))) tNil)) [3]
theorem popAll {K : PySem.W.Frag} {σ : L2.St} {H : Hp} {Q : VK} {wl L : Addr} {vs : List V} (h0 : σ[0]? = some (some (.ref wl))) (h10 : σ[10]? = some (some (.ref L))) (hL : H L = some (.lst vs)) (hw : WellAt wl H) (hn : L ≠ wl) (hz : vs.length ≤ 1000)
    (q : ∀ D vs' H', vs'.Perm vs → H D = none → H' D = some (.lst vs') → (∀ b o, b ≠ wl → b ≠ L → H b = some o → H' b = some o) → WellAt wl H' → Q (.ref D) H') : popT K σ H Q := by
  have s0 : ∀ x, (((wipe σ [3]).set 3 x))[0]? = some (some (.ref wl)) := fun x => by
    show (((σ.set 3 none).set 3 x))[0]? = _
    rw [List.getElem?_set_ne (by decide), List.getElem?_set_ne (by decide)]
    exact h0
  have s10 : ∀ x, (((wipe σ [3]).set 3 x))[10]? = some (some (.ref L)) := fun x => by
    show (((σ.set 3 none).set 3 x))[10]? = _
    rw [List.getElem?_set_ne (by decide), List.getElem?_set_ne (by decide)]
    exact h10
  refine ⟨_, h10, L, vs, rfl, .inl (SqL.of hL), _, rfl, by omega, by omega, fun D hD => ?_⟩
  have nDL : L ≠ D := ne_of_none hL hD
  have nDw : D ≠ wl := (hw.ne hD).symm
  refine lc_range (lo := 0) (n := ((vs.length : Int)).toNat) (fun i H3 => ∃ acc rem : List V, acc.length = i ∧ (acc ++ rem).Perm vs ∧ H3 D = some (.lst acc) ∧ H3 L = some (.lst rem) ∧ (∀ b o, b ≠ wl → b ≠ L → H b = some o → H3 b = some o) ∧ WellAt wl H3)
    ⟨[], vs, rfl, by simp, upd_same, by rw [upd_ne nDL]; exact hL, fun b o _ _ e => by rw [upd_ne (ne_of_none e hD)]; exact e, hw.new hD⟩ ?_ ?_
  · rintro i H3 hi ⟨acc, rem, hal, hp, hDa, hLr, hk, hw3⟩
    have hlen : acc.length + rem.length = vs.length := by
      have := hp.length_eq
      simpa using this
    have hrem : 0 < rem.length := by omega
    refine ⟨?_, tyes ?_⟩
    · show ((σ.set 3 none).set 3 _).set 3 none = σ.set 3 none
      simp
    refine ⟨_, s10 _, .inl ⟨rfl, _, SqL.of hLr⟩, _, s0 _, _, s10 _, L, rem, rfl, .inl (SqL.of hLr), wl, _, rfl, by omega, by omega, hw3, fun d H4 d0 d1 E1 => ?_⟩
    have hj : d.toNat < rem.length := by omega
    have hLr4 := E1.but _ _ hn hLr
    have hDa4 := E1.but _ _ nDw hDa
    have hg : rem[d.toNat]? = some rem[d.toNat] := List.getElem?_eq_getElem hj
    refine ⟨L, rem, d, d.toNat, rem[d.toNat], rfl, rfl, hLr4, by omega, by omega, PySem.seqIndex_of d0 d1, hg, ?_⟩
    refine ⟨acc, by rw [upd_ne nDL.symm]; exact hDa4, small1000 (by omega), acc ++ [rem[d.toNat]], rem.eraseIdx d.toNat, by simp [hal], perm_pop hp hg, upd_same, ?_, ?_, ?_⟩
    · rw [upd_ne nDL, upd_same]
    · intro b o nb nL e
      rw [upd_ne (ne_of_none e hD), upd_ne nL]
      exact E1.but _ _ nb (hk b o nb nL e)
    · obtain ⟨x1, x2, x3, hx⟩ := E1.well
      exact ⟨x1, x2, x3, by rw [upd_ne nDw.symm, upd_ne hn.symm]; exact hx⟩
  · rintro H3 ⟨acc, rem, hal, hp, hDa, hLr, hk, hw3⟩
    have hlen : acc.length + rem.length = vs.length := by
      have := hp.length_eq
      simpa using this
    have hr : rem = [] := by
      cases rem with
      | nil => rfl
      | cons _ _ => simp at hlen; omega
    subst hr
    rw [List.append_nil] at hp
    exact q D acc H3 hp hD hDa hk hw3
end Lag

set_option maxRecDepth 100000
set_option maxHeartbeats 4000000
namespace Lag
open PySem PySem.Spec PyProof.Rows L2
/-! ### what stands while the parts are made -/
structure PS1 (K : PySem.W.Frag) (wl : Addr) (H0 H : Hp) (g : Addr) (gs : List Gt) : Prop where
  w0 : WellAt wl H0
  dr : Dr wl H0 H
  gn : H0 g = none
  gl : ∃ vs, H g = some (.lst vs) ∧ All2 (GateV K H) vs gs
  gok : ∀ x ∈ gs, GOk x
  g0 : ∀ x : Gt, gs[0]? = some x → x.1 ≠ ("out" : Str)
theorem PS1.step {K : PySem.W.Frag} {wl g : Addr} {H0 H H' : Hp} {gs : List Gt} (p : PS1 K wl H0 H g gs) (d : Dr wl H H') : PS1 K wl H0 H' g gs := by
  obtain ⟨vs, h, a⟩ := p.gl
  exact ⟨p.w0, p.dr.trans d, p.gn, ⟨vs, d.but _ _ (p.w0.ne p.gn).symm h, a.imp fun _ _ r => r.tk (TK.dr p.dr.well d.but)⟩, p.gok, p.g0⟩
structure PS2 (K : PySem.W.Frag) (wl : Addr) (H0 H : Hp) (g st wi : Addr) (gs : List Gt) (sts : List Nat) (ws : List Wr) : Prop extends PS1 K wl H0 H g gs where
  sn : H0 st = none
  sl : H st = some (.lst (sts.map fun i => V.int (i : Nat)))
  wn : H0 wi = none
  wv : ∃ vs, H wi = some (.lst vs) ∧ All2 (WireV K H) vs ws
  nsw : st ≠ wi
  ngw : g ≠ wi
theorem PS2.step {K : PySem.W.Frag} {wl g st wi : Addr} {H0 H H' : Hp} {gs : List Gt} {sts : List Nat} {ws : List Wr} (p : PS2 K wl H0 H g st wi gs sts ws) (d : Dr wl H H') : PS2 K wl H0 H' g st wi gs sts ws := by
  obtain ⟨vs, h, a⟩ := p.wv
  exact ⟨p.toPS1.step d, p.sn, d.but _ _ (p.w0.ne p.sn).symm p.sl, p.wn, ⟨vs, d.but _ _ (p.w0.ne p.wn).symm h, a.imp fun _ _ r => r.tk (TK.dr p.dr.well d.but)⟩, p.nsw, p.ngw⟩
theorem PS2.app {K : PySem.W.Frag} {wl g st wi : Addr} {H0 H : Hp} {gs : List Gt} {sts : List Nat} {ws : List Wr} {vs : List V} {v : V} {x : Wr} (p : PS2 K wl H0 H g st wi gs sts ws) (hv : H wi = some (.lst vs)) (hx : WireV K H v x) :
    PS2 K wl H0 (upd H wi (.lst (vs ++ [v]))) g st wi gs sts (ws ++ [x]) := by
  obtain ⟨vs', h, a⟩ := p.wv
  obtain ⟨gv, hg, ag⟩ := p.gl
  rw [hv] at h
  cases h
  have t : TK H (upd H wi (.lst (vs ++ [v]))) := TK.lst hv
  exact ⟨⟨p.w0, set_well p.dr p.wn (p.w0.ne p.wn).symm, p.gn, ⟨gv, by rw [upd_ne p.ngw]; exact hg, ag.imp fun _ _ r => r.tk t⟩, p.gok, p.g0⟩, p.sn, by rw [upd_ne p.nsw]; exact p.sl, p.wn, ⟨_, upd_same, (a.imp fun _ _ r => r.tk t).snoc (hx.tk t)⟩, p.nsw, p.ngw⟩
/-- the wires into the gates ahead of i -/
structure WInv (gs : List Gt) (ws : List Wr) (i : Nat) : Prop where
  ok : ∀ x ∈ ws, WOk gs x ∧ (x.2.2 = [] → x.1 < x.2.1) ∧ x.2.1 < i
  one : ∀ e, e < i → kindAt gs e = "out" → cnt ws e = 1
  some : ∀ e, e < i → kindAt gs e = "first" → 1 ≤ cnt ws e
  len : ws.length ≤ 3 * i
  r2 : ∀ x ∈ ws, x.2.2.length ≤ 2
/-- .. and j wires into the gate i -/
structure WInv2 (gs : List Gt) (ws : List Wr) (i j : Nat) : Prop where
  ok : ∀ x ∈ ws, WOk gs x ∧ (x.2.2 = [] → x.1 < x.2.1) ∧ x.2.1 < i + 1
  one : ∀ e, e < i → kindAt gs e = "out" → cnt ws e = 1
  some : ∀ e, e < i → kindAt gs e = "first" → 1 ≤ cnt ws e
  here : cnt ws i = j
  len : ws.length ≤ 3 * i + j
  r2 : ∀ x ∈ ws, x.2.2.length ≤ 2
theorem WInv.go {gs : List Gt} {ws : List Wr} {i : Nat} (h : WInv gs ws i) : WInv2 gs ws i 0 := by
  refine ⟨fun x hx => ⟨(h.ok x hx).1, (h.ok x hx).2.1, by have := (h.ok x hx).2.2; omega⟩, h.one, h.some, ?_, h.len, h.r2⟩
  unfold cnt
  rw [List.countP_eq_zero]
  intro x hx z
  have := (h.ok x hx).2.2
  simp at z
  omega
theorem WInv2.app {gs : List Gt} {ws : List Wr} {i j : Nat} {x : Wr} (h : WInv2 gs ws i j) (hx : WOk gs x) (hr : x.2.2 = [] → x.1 < x.2.1) (he : x.2.1 = i) (h2 : x.2.2.length ≤ 2) : WInv2 gs (ws ++ [x]) i (j + 1) := by
  have c : ∀ e, e < i → cnt (ws ++ [x]) e = cnt ws e := fun e he' => by
    unfold cnt
    rw [List.countP_append]
    have : (x.2.1 == e) = false := by simp; omega
    simp [List.countP_cons, this]
  refine ⟨fun y hy => ?_, fun e h1 h2 => by rw [c e h1]; exact h.one e h1 h2, fun e h1 h2 => by rw [c e h1]; exact h.some e h1 h2, ?_, by have := h.len; simp; omega, fun y hy => ?_⟩
  · rcases List.mem_append.mp hy with hy | hy
    · exact h.ok y hy
    · simp at hy
      subst hy
      exact ⟨hx, hr, by omega⟩
  · have := h.here
    unfold cnt at this ⊢
    rw [List.countP_append, this]
    simp [List.countP_cons, he]
  · rcases List.mem_append.mp hy with hy | hy
    · exact h.r2 y hy
    · simp at hy
      subst hy
      exact h2
theorem WInv2.done {gs : List Gt} {ws : List Wr} {i j : Nat} (h : WInv2 gs ws i j) (h1 : kindAt gs i = "out" → j = 1) (h2 : kindAt gs i = "first" → 1 ≤ j) (hj : j ≤ 3) : WInv gs ws (i + 1) := by
  refine ⟨fun x hx => h.ok x hx, fun e he hk => ?_, fun e he hk => ?_, by have := h.len; omega, h.r2⟩
  · by_cases hi : e = i
    · subst hi
      rw [h.here]
      exact h1 hk
    · exact h.one e (by omega) hk
  · by_cases hi : e = i
    · subst hi
      rw [h.here]
      exact h2 hk
    · exact h.some e (by omega) hk
theorem WInv.net {gs : List Gt} {ws : List Wr} (h : WInv gs ws gs.length) (ne : gs ≠ []) (gl : gs.length ≤ 100) (gok : ∀ g ∈ gs, GOk g) : NetOk gs ws :=
  ⟨ne, gl, by have := h.len; omega, gok, fun x hx => (h.ok x hx).1, h.one, h.some, id, fun x hx hr => (h.ok x hx).2.1 hr⟩
theorem many_ok (k : Str) (d2 d4 : Int) (a2 : 0 ≤ d2) (b2 : d2 < 2) (a4 : 0 ≤ d4) (b4 : d4 < 4) :
    ∃ m : Int, (valV (mergeK [] [((Sum.inr "in" : Key), V.int 0), (Sum.inr "out", V.int 1), (Sum.inr "first", V.int (1 + d2))]) (Sum.inr k)).getD (V.int d4) = V.int m ∧ 0 ≤ m ∧ m ≤ 3 ∧ (k = "in" → m = 0) ∧ (k = "out" → m = 1) ∧ (k = "first" → 1 ≤ m) := by
  have n1 : ¬ (("in" : Str) = "out") := by decide +kernel
  have n2 : ¬ (("in" : Str) = "first") := by decide +kernel
  have n3 : ¬ (("out" : Str) = "first") := by decide +kernel
  have e : mergeK [] [((Sum.inr "in" : Key), V.int 0), (Sum.inr "out", V.int 1), (Sum.inr "first", V.int (1 + d2))] = [((Sum.inr "in" : Key), V.int 0), (Sum.inr "out", V.int 1), (Sum.inr "first", V.int (1 + d2))] := by
    simp [mergeK, putK, n1, n2, n3]
  rw [e]
  by_cases h1 : k = "in"
  · subst h1
    rw [valV_pos rfl]
    exact ⟨0, rfl, by decide, by decide, fun _ => rfl, fun z => absurd z n1, fun z => absurd z n2⟩
  · rw [valV_neg (by intro z; exact h1 (Sum.inr.inj z).symm)]
    by_cases h2 : k = "out"
    · subst h2
      rw [valV_pos rfl]
      exact ⟨1, rfl, by decide, by decide, fun z => absurd z h1, fun _ => rfl, fun z => absurd z n3⟩
    · rw [valV_neg (by intro z; exact h2 (Sum.inr.inj z).symm)]
      by_cases h3 : k = "first"
      · subst h3
        rw [valV_pos rfl]
        exact ⟨1 + d2, rfl, by omega, by omega, fun z => absurd z h1, fun z => absurd z h2, fun _ => by omega⟩
      · rw [valV_neg (by intro z; exact h3 (Sum.inr.inj z).symm), valV_nil]
        exact ⟨d4, rfl, by omega, by omega, fun z => absurd z h1, fun z => absurd z h2, fun z => absurd z h3⟩
end Lag

set_option maxRecDepth 100000
set_option maxHeartbeats 8000000
namespace Lag
open PySem PySem.Spec PyProof.Rows L2
/-- lists of gates, of wires, that stand tracked -/
def LG (K : PySem.W.Frag) (H : Hp) (l : Addr) (gs : List Gt) : Prop := ∃ vs, H l = some (.lst vs) ∧ All2 (GateV K H) vs gs
def LW (K : PySem.W.Frag) (H : Hp) (l : Addr) (ws : List Wr) : Prop := ∃ vs, H l = some (.lst vs) ∧ All2 (WireV K H) vs ws
theorem kindAt_get {gs : List Gt} {i : Nat} {g : Gt} (h : gs[i]? = some g) : kindAt gs i = g.1 := by
  unfold kindAt
  rw [List.getD_eq_getElem?_getD, h]
  rfl
/-- all but the well and one list is kept -/
theorem TK.two {wl L : Addr} {H H' : Hp} {vs : List V} (W : WellAt wl H) (hL : H L = some (.lst vs)) (k : ∀ b o, b ≠ wl → b ≠ L → H b = some o → H' b = some o) : TK H H' := fun c u t e => by
  obtain ⟨x, y, z, h⟩ := W
  refine k c u (fun z => ?_) (fun z => ?_) e
  · rw [z, h] at e
    cases e
    exact t
  · rw [z, hL] at e
    cases e
    exact t
theorem PS1.two {K : PySem.W.Frag} {wl g L : Addr} {H0 H H' : Hp} {gs : List Gt} {vs : List V} (p : PS1 K wl H0 H g gs) (hL : H L = some (.lst vs)) (h0 : H0 L = none) (ng : g ≠ L) (k : ∀ b o, b ≠ wl → b ≠ L → H b = some o → H' b = some o) (W : WellAt wl H') : PS1 K wl H0 H' g gs := by
  obtain ⟨gv, h, a⟩ := p.gl
  exact ⟨p.w0, ⟨fun b o n e => k b o n (ne_of_none e h0) (p.dr.but b o n e), W⟩, p.gn, ⟨gv, k _ _ (p.w0.ne p.gn).symm ng h, a.imp fun _ _ r => r.tk (TK.two p.dr.well hL k)⟩, p.gok, p.g0⟩
theorem all2_eq {α β : Type} {f : β → α} : ∀ {xs : List α} {ys : List β}, All2 (fun x y => x = f y) xs ys → xs = ys.map f
  | [], [], _ => rfl
  | [], _ :: _, h => by have := h.1; simp at this
  | _ :: _, [], h => by have := h.1; simp at this
  | x :: xs, y :: ys, h => by rw [List.map_cons, ← all2_eq h.tail, ← h.head]
theorem eq_all2 {α β : Type} {f : β → α} (ys : List β) : All2 (fun x y => x = f y) (ys.map f) ys := ⟨by simp, fun i x y h1 h2 => by
  rw [List.getElem?_map, h2] at h1
  exact (Option.some.inj h1).symm⟩
theorem rgV_nat (n : Nat) : rgV 0 (n : Int) = (List.range n).map fun i => V.int (i : Nat) := by
  unfold rgV
  have : ((n : Int) - 0).toNat = n := by omega
  rw [this]
  refine List.map_congr_left fun i _ => ?_
  rw [Int.zero_add]
theorem flat_ints (l : List Nat) : (l.map fun i => V.int (i : Nat)).all flatV = true := by
  rw [List.all_eq_true]
  intro x hx
  obtain ⟨i, _, rfl⟩ := List.mem_map.mp hx
  rfl
/-- where a number stands among numbers without two alike -/
theorem idx_at {left : List Nat} {a : Nat} (h : a ∈ left) : (left.map fun i => V.int (i : Nat))[left.idxOf a]? = some (V.int (a : Nat)) := by
  rw [List.getElem?_map, List.getElem?_eq_getElem (List.idxOf_lt_length_iff.mpr h), List.getElem_idxOf]
  rfl
theorem eqV_int (a b : Int) : eqV (V.int a) (V.int b) = decide (a = b) := rfl
theorem idx_no {left : List Nat} {a m : Nat} {z : V} (nd : left.Nodup) (hm : m < left.idxOf a) (h : (left.map fun i => V.int (i : Nat))[m]? = some z) : eqV z (V.int (a : Nat)) = false := by
  rw [List.getElem?_map] at h
  cases e : left[m]? with
  | none =>
    rw [e] at h
    cases h
  | some b =>
    rw [e] at h
    cases h
    rw [eqV_int]
    refine decide_eq_false fun z => ?_
    have z : b = a := by omega
    obtain ⟨hm', eb⟩ := List.getElem?_eq_some_iff.mp e
    have := List.Nodup.idxOf_getElem nd m hm'
    rw [eb, z] at this
    omega
section
variable {P : Program} {w : World} {K : PySem.W.Frag} {mg : Str → Option Value} {base : Heap}
end
end Lag

set_option maxRecDepth 100000
set_option maxHeartbeats 4000000
namespace Lag
open PySem PySem.Spec PyProof.Rows L2
abbrev sWhole : Stmt := topS 9
abbrev sFromTo : Stmt := topS 10
abbrev sWorth : Stmt := topS 11
abbrev sIsGate : Stmt := topS 23
abbrev sChkGates : Stmt := topS 22
/-! ### o[i] of a list, by values -/
def rGetL (K : PySem.W.Frag) : V → V → Hp → VK → Prop := fun o i H Q => ∃ (p : Addr) (xs : List V) (j : Nat) (v : V), o = .ref p ∧ i = .int (j : Nat) ∧ SqL K H p xs ∧ xs[j]? = some v ∧ Q v H
theorem get_list {X : Cx} : PGet X (rGetL X.K) := by
  intro pins s σ H o i ov iv Q I ro ri h
  obtain ⟨p, xs, j, v, rfl, rfl, hq, he, q⟩ := h
  cases ro
  obtain ⟨t, rfl⟩ := ri
  obtain ⟨its, r, pl, hz⟩ := I.list hq
  obtain ⟨w, ew, rw'⟩ := r.get he
  have hl := r.length
  have hn := line63
  have hj : j < its.length := (List.getElem?_eq_some_iff.mp ew).1
  exact wpAny_getItem_list pl.isList (by omega) (by omega) (by simpa using ew) ⟨v, H, I, rw', q⟩
/-! ### names of built-ins, constants of the text -/
structure Bt (mg : Str → Option Value) : Prop where
  isi : mg "isinstance" = none
  int : mg "int" = none
  bool : mg "bool" = none
  len : mg "len" = none
  tuple : mg "tuple" = none
  str : mg "str" = none
  list : mg "list" = none
  all : mg "all" = none
  enum : mg "enumerate" = none
  zip : mg "zip" = none
  range : mg "range" = none
  max : mg "max" = none
structure Cns (K : PySem.W.Frag) (mg : Str → Option Value) (aK aW aF : Addr) : Prop where
  gw : ∃ t, mg "GREATEST_WORTH" = some (.int 96 t)
  ga : ∃ t, mg "GREATEST_WAIT" = some (.int 100 t)
  mK : mg "KINDS" = some (.ref aK)
  sK : ∀ H, SqT K H aK (kinds.map V.str)
  mW : mg "OUTER_KINDS" = some (.ref aW)
  sW : ∀ H, SqT K H aW [.str "in", .str "out"]
  mF : mg "KINDS_WITH_A_WIRE" = some (.ref aF)
  sF : ∀ H, SqT K H aF [.str "out", .str "first"]
theorem ty_tup {K : PySem.W.Frag} {H : Hp} {a : Addr} {xs : List V} (h : SqT K H a xs) : TyX K H (.ref a) (.type "tuple") := by
  rcases h with (h | ⟨o, h⟩) | ⟨o, its, n, hk, hc, _⟩
  · exact .base (.tup h)
  · exact .fTuple h
  · exact .kTuple hk hc
theorem ty_lst {K : PySem.W.Frag} {H : Hp} {a : Addr} {xs : List V} (h : SqL K H a xs) : TyX K H (.ref a) (.type "list") := by
  rcases h with (h | ⟨o, h⟩) | ⟨o, its, n, hk, hc, _⟩
  · exact .base (.lst h)
  · exact .base (.frz h)
  · exact .kList hk hc
/-! ### promises -/
def spWhole : Sp := fun vs H Q _ => ∃ n : Int, vs = [.int n] ∧ Q (.bl true) H
def spFromTo : Sp := fun vs H Q _ => ∃ n a b : Int, vs = [.int n, .int a, .int b] ∧ Q (.bl (decide (a ≤ n) && decide (n ≤ b))) H
def spWorth : Sp := fun vs H Q _ => ∃ n : Int, vs = [.int n] ∧ Q (.bl (decide (0 ≤ n) && decide (n ≤ 96))) H
def spIsGate (K : PySem.W.Frag) : Sp := fun vs H Q _ => ∃ (v : V) (g : Gt), vs = [v] ∧ GateV K H v g ∧ GOk g ∧ ∀ H', Same H H' → Q (.bl true) H'
/-- lists that are read -/
def RG (K : PySem.W.Frag) (H : Hp) (l : Addr) (gs : List Gt) : Prop := ∃ vs, SqL K H l vs ∧ All2 (GateV K H) vs gs
def RW (K : PySem.W.Frag) (H : Hp) (l : Addr) (ws : List Wr) : Prop := ∃ vs, SqL K H l vs ∧ All2 (WireV K H) vs ws
theorem RG.same {K : PySem.W.Frag} {H H' : Hp} {l : Addr} {gs : List Gt} (h : RG K H l gs) (s : Same H H') : RG K H' l gs := by
  obtain ⟨vs, q, a⟩ := h
  exact ⟨vs, s.seq q, a.imp fun _ _ r => r.tk (TK.same s)⟩
theorem RW.same {K : PySem.W.Frag} {H H' : Hp} {l : Addr} {ws : List Wr} (h : RW K H l ws) (s : Same H H') : RW K H' l ws := by
  obtain ⟨vs, q, a⟩ := h
  exact ⟨vs, s.seq q, a.imp fun _ _ r => r.tk (TK.same s)⟩
def spChkGates (K : PySem.W.Frag) : Sp := fun vs H Q _ => ∃ (l : Addr) (gs : List Gt), vs = [.ref l] ∧ RG K H l gs ∧ gs ≠ [] ∧ (∀ g ∈ gs, GOk g) ∧ ∀ H', Same H H' → Q .non H'
section
variable {P : Program} {w : World} {K : PySem.W.Frag} {mg : Str → Option Value} {base : Heap}
/-! ### is_whole, is_whole_from_to, is_worth -/
theorem scWhole : FnScope ["thing"] ["thing"] (defScope sWhole) := ⟨rfl, rfl, rfl, by decide +kernel, rfl, by decide +kernel, by decide +kernel⟩
abbrev DWhole (P : Program) (w : World) (K : PySem.W.Frag) (mg : Str → Option Value) (base : Heap) := Df P w K mg base 1 "is_whole" ["thing"] spWhole
theorem ok_whole {f : Addr} {fd : FuncData} (F : Fun K "is_whole" "is_whole" sWhole f fd) (hm : mg "is_whole" = some (.ref f)) (B : Bt mg) : DWhole P w K mg base f fd := by
  refine ⟨?_, hm, F.kp, F.binds fun _ _ _ _ _ _ us hl => match us, hl with | [_], _ => rfl⟩
  refine F.ok scWhole (fun vs H Q E h => ?_) (fun cdv A outer s H vs Q E hr h => ?_)
  · obtain ⟨n, rfl, _⟩ := h
    rfl
  · obtain ⟨n, rfl, q⟩ := h
    refine ⟨_, pss_one <| ps_ret <| pe_and (pe_callB call_isi (by rfl) B.isi (by decide +kernel) (pa_cons (pv 0) (pa_cons (pe_bltn (v := .ty "int") (by rfl) B.int (by decide +kernel) rfl) pa_nil)))
      (pe_one (pe_not (pe_callB call_isi (by rfl) B.isi (by decide +kernel) (pa_cons (pv 0) (pa_cons (pe_bltn (v := .ty "bool") (by rfl) B.bool (by decide +kernel) rfl) pa_nil))))), ?_⟩
    refine ⟨_, rfl, _, _, _, _, true, rfl, .ty "int", .base (.int n), kit_ty (by decide +kernel), true, rfl, iteT ?_⟩
    exact ⟨_, rfl, _, _, _, _, false, rfl, .ty "bool", .base (.int n), kit_ty (by decide +kernel), false, rfl, q⟩
theorem scFromTo : FnScope ["thing", "least", "greatest"] ["thing", "least", "greatest"] (defScope sFromTo) := ⟨rfl, rfl, rfl, by decide +kernel, rfl, by decide +kernel, by decide +kernel⟩
abbrev DFromTo (P : Program) (w : World) (K : PySem.W.Frag) (mg : Str → Option Value) (base : Heap) := Df P w K mg base 2 "is_whole_from_to" ["thing", "least", "greatest"] spFromTo
theorem ok_fromTo {f fW : Addr} {fd fdW : FuncData} (F : Fun K "is_whole_from_to" "is_whole_from_to" sFromTo f fd) (hm : mg "is_whole_from_to" = some (.ref f)) (DW : DWhole P w K mg base fW fdW) : DFromTo P w K mg base f fd := by
  refine ⟨?_, hm, F.kp, F.binds fun _ _ _ _ _ _ us hl => match us, hl with | [_, _, _], _ => rfl⟩
  refine F.ok scFromTo (fun vs H Q E h => ?_) (fun cdv A outer s H vs Q E hr h => ?_)
  · obtain ⟨n, a, b, rfl, _⟩ := h
    rfl
  · obtain ⟨n, a, b, rfl, q⟩ := h
    refine ⟨_, pss_one <| ps_ret <| pe_and (pe_call DW.ok hr (by rfl) DW.mg DW.kp DW.bd .nil pass0 (pa_cons (pv 0) pa_nil)) (pe_one (pe_chain op_le op_le (pv 1) (pv 0) (pv 2))), ?_⟩
    refine ⟨_, rfl, n, rfl, true, rfl, iteT ?_⟩
    refine ⟨_, rfl, _, rfl, _, _, rfl, rfl, _, rfl, ?_⟩
    cases e : decide (a ≤ n) with
    | false =>
      rw [e] at q
      exact iteF q
    | true =>
      rw [e] at q
      exact iteT ⟨_, rfl, _, _, rfl, rfl, q⟩
theorem scWorth : FnScope ["thing"] ["thing"] (defScope sWorth) := ⟨rfl, rfl, rfl, by decide +kernel, rfl, by decide +kernel, by decide +kernel⟩
abbrev DWorth (P : Program) (w : World) (K : PySem.W.Frag) (mg : Str → Option Value) (base : Heap) := Df P w K mg base 3 "is_worth" ["thing"] spWorth
theorem ok_worth {f fF aK aW aF : Addr} {fd fdF : FuncData} (F : Fun K "is_worth" "is_worth" sWorth f fd) (hm : mg "is_worth" = some (.ref f)) (C : Cns K mg aK aW aF) (DF : DFromTo P w K mg base fF fdF) : DWorth P w K mg base f fd := by
  obtain ⟨tg, hgw⟩ := C.gw
  refine ⟨?_, hm, F.kp, F.binds fun _ _ _ _ _ _ us hl => match us, hl with | [_], _ => rfl⟩
  refine F.ok scWorth (fun vs H Q E h => ?_) (fun cdv A outer s H vs Q E hr h => ?_)
  · obtain ⟨n, rfl, _⟩ := h
    rfl
  · obtain ⟨n, rfl, q⟩ := h
    refine ⟨_, pss_one <| ps_ret <| pe_call DF.ok hr (by rfl) DF.mg DF.kp DF.bd .nil pass0 <| pa_cons (pv 0) <| pa_cons pe_int <| pa_cons (pe_glob (v := .int 96) (by rfl) hgw ⟨_, rfl⟩) pa_nil, ?_⟩
    exact ⟨_, rfl, n, 0, 96, rfl, q⟩
/-! ### is_gate -/
theorem scIsGate : FnScope ["thing", "kind", "wait"] ["thing"] (defScope sIsGate) := ⟨rfl, rfl, rfl, by decide +kernel, rfl, by decide +kernel, by decide +kernel⟩
abbrev DIsGate (P : Program) (w : World) (K : PySem.W.Frag) (mg : Str → Option Value) (base : Heap) := Df P w K mg base 3 "is_gate" ["thing"] (spIsGate K)
theorem kinds_in {k : Str} (h : k ∈ kinds) : inV (.str k) (kinds.map V.str) = true := by
  unfold inV
  rw [List.any_eq_true]
  exact ⟨.str k, List.mem_map.mpr ⟨k, h, rfl⟩, beq_self_eq_true k⟩
theorem flat_strs (l : List Str) : (l.map V.str).all flatV = true := by
  rw [List.all_eq_true]
  intro x hx
  obtain ⟨i, _, rfl⟩ := List.mem_map.mp hx
  rfl
theorem ok_isGate {f fF aK aW aF : Addr} {fd fdF : FuncData} (F : Fun K "is_gate" "is_gate" sIsGate f fd) (hm : mg "is_gate" = some (.ref f)) (B : Bt mg) (C : Cns K mg aK aW aF) (DF : DFromTo P w K mg base fF fdF) : DIsGate P w K mg base f fd := by
  obtain ⟨tg, hga⟩ := C.ga
  refine ⟨?_, hm, F.kp, F.binds fun _ _ _ _ _ _ us hl => match us, hl with | [_], _ => rfl⟩
  refine F.ok scIsGate (fun vs H Q E h => ?_) (fun cdv A outer s H vs Q E hr h => ?_)
  · obtain ⟨v, g, rfl, _⟩ := h
    rfl
  · obtain ⟨v, g, rfl, ⟨a, rfl, sq⟩, gok, q⟩ := h
    have nd := scIsGate.nd
    refine ⟨_, pss_cons (ps_if (PW.pt (pw_or (pt_not (pt_val (pe_callB call_isi (by rfl) B.isi (by decide +kernel) (pa_cons (pv 0) (pa_cons (pe_bltn (v := .ty "tuple") (by rfl) B.tuple (by decide +kernel) rfl) pa_nil)))))
          (pw_or1 (pt_cmpR op_ne (pe_callB call_len_seq (by rfl) B.len PySem.boot_len (pa_cons (pv 0) pa_nil)) pe_int (nomark _))))) (pss_one (ps_ret pe_bl)) pss_nil) <|
      pss_cons (ps_asg (pv 0) (pg_tup (by rfl) (pgs_cons (pg_name (i := 1) nd rfl (.inl rfl)) (pgs_cons (pg_name (i := 2) nd rfl (.inl rfl)) pgs_nil)))) <|
      pss_cons (ps_if (PW.pt (pw_or (pt_not (pt_val (pe_callB call_isi (by rfl) B.isi (by decide +kernel) (pa_cons (pv 1) (pa_cons (pe_bltn (v := .ty "str") (by rfl) B.str (by decide +kernel) rfl) pa_nil)))))
          (pw_or1 (pt_cmpR op_notIn_seq (pv 1) (pe_glob (v := .ref aK) (by rfl) C.mK rfl) (by rfl))))) (pss_one (ps_ret pe_bl)) pss_nil) <|
      pss_one <| ps_ret <| pe_call DF.ok hr (by rfl) DF.mg DF.kp DF.bd .nil pass0 <| pa_cons (pv 2) <| pa_cons pe_int <| (pa_cons · pa_nil) <|
        pe_ifExp (pt_cmpR op_in_seq (pv 1) (pe_glob (v := .ref aW) (by rfl) C.mW rfl) (by rfl)) pe_int (pe_glob (v := .int 100) (by rfl) hga ⟨_, rfl⟩), ?_⟩
    refine ⟨_, rfl, _, _, _, _, true, rfl, .ty "tuple", ty_tup sq, kit_ty (by decide +kernel), true, rfl, ?_⟩
    refine iteF ⟨_, rfl, a, _, rfl, .inr sq, rfl, _, rfl, iteF ?_⟩
    refine ⟨_, rfl, a, _, rfl, sq, rfl, _, _, rfl, _, _, rfl, rfl, ?_⟩
    refine ⟨_, rfl, _, _, _, _, true, rfl, .ty "str", .base (.str g.1), kit_ty (by decide +kernel), true, rfl, ?_⟩
    refine iteF ⟨_, rfl, aK, _, rfl, .inr (C.sK H), rfl, flat_strs _, false, ?_, iteF ?_⟩
    · show V.bl (!inV (V.str g.1) (kinds.map V.str)) = V.bl false
      rw [kinds_in gok.1]
      rfl
    refine ⟨_, rfl, _, rfl, aW, _, rfl, .inr (C.sW H), rfl, rfl, _, rfl, ite2 (fun e => ?_) (fun e => ?_)⟩
    · have hp : portK g.1 := by
        have e' : inV (V.str g.1) [V.str "in", V.str "out"] = true := e
        unfold inV at e'
        rw [List.any_eq_true] at e'
        obtain ⟨x, hx, hxe⟩ := e'
        simp only [List.mem_cons, List.not_mem_nil, or_false] at hx
        rcases hx with rfl | rfl
        · exact .inl (eq_of_beq hxe).symm
        · exact .inr (eq_of_beq hxe).symm
      have h0 := gok.2.2.2 hp
      refine ⟨g.2, 0, 0, rfl, ?_⟩
      rw [h0]
      exact q H (Same.refl H)
    · refine ⟨g.2, 0, 100, rfl, ?_⟩
      rw [decide_eq_true gok.2.1, decide_eq_true gok.2.2.1]
      exact q H (Same.refl H)
end
end Lag

set_option maxRecDepth 100000
set_option maxHeartbeats 4000000
namespace Lag
open PySem PySem.Spec PyProof.Rows L2
abbrev sIsWire : Stmt := topS 25
abbrev sTaken : Stmt := topS 26
def spIsWire (K : PySem.W.Frag) : Sp := fun vs H Q _ => ∃ (v : V) (x : Wr) (n : Nat), vs = [v, .int (n : Nat)] ∧ WireV K H v x ∧ x.1 < n ∧ x.2.1 < n ∧ ROk x.2.2 ∧ x.2.2.length ≤ 1000 ∧ ∀ H', Same H H' → Q (.bl true) H'
def spTaken (K : PySem.W.Frag) : Sp := fun vs H Q _ => ∃ (v : V) (x : Wr) (lg lc : Addr) (gs : List Gt) (cs : List Nat), vs = [v, .ref lg, .ref lc] ∧ WireV K H v x ∧ RG K H lg gs ∧ SqL K H lc (cs.map fun i => V.int (i : Nat)) ∧ WOk gs x ∧ cs.length = gs.length ∧
  (kindAt gs x.2.1 = "out" → cs[x.2.1]? = some 0) ∧ Q (.bl true) H
section
variable {P : Program} {w : World} {K : PySem.W.Frag} {mg : Str → Option Value} {base : Heap}
/-! ### check_gates -/
theorem scChkGates : FnScope ["gates", "thing"] ["gates"] (defScope sChkGates) := ⟨rfl, rfl, rfl, by decide +kernel, rfl, by decide +kernel, by decide +kernel⟩
abbrev DChkGates (P : Program) (w : World) (K : PySem.W.Frag) (mg : Str → Option Value) (base : Heap) := Df P w K mg base 4 "check_gates" ["gates"] (spChkGates K)
theorem ok_chkGates {f fG : Addr} {fd fdG : FuncData} (F : Fun K "check_gates" "check_gates" sChkGates f fd) (hm : mg "check_gates" = some (.ref f)) (B : Bt mg) (DG : DIsGate P w K mg base fG fdG) : DChkGates P w K mg base f fd := by
  refine ⟨?_, hm, F.kp, F.binds fun _ _ _ _ _ _ us hl => match us, hl with | [_], _ => rfl⟩
  refine F.ok scChkGates (fun vs H Q E h => ?_) (fun cdv A outer s H vs Q E hr h => ?_)
  · obtain ⟨l, gs, rfl, _⟩ := h
    rfl
  · obtain ⟨l, gs, rfl, R, hne, gok, q⟩ := h
    have nd := scChkGates.nd
    refine ⟨_, pss_cons (ps_if (PW.pt (pw_or (pt_not (pt_val (pe_callB call_isi (by rfl) B.isi (by decide +kernel) (pa_cons (pv 0) (pa_cons (pe_bltn (v := .ty "list") (by rfl) B.list (by decide +kernel) rfl) pa_nil)))))
          (pw_or1 (pt_cmpR op_eq (pe_callB call_len_seq (by rfl) B.len PySem.boot_len (pa_cons (pv 0) pa_nil)) pe_int (nomark _))))) (pss_one ps_never) pss_nil) <|
      pss_one <| ps_for PassesOwn.never rfl (pi_list (pv 0)) (pg_name (i := 1) nd rfl (.inl rfl)) <|
        pss_one <| ps_if (pt_not (pt_val (pe_call DG.ok hr (by rfl) DG.mg DG.kp DG.bd .nil pass0 (pa_cons (pv 1) pa_nil)))) (pss_one ps_never) pss_nil, ?_⟩
    obtain ⟨gv, sg, ga⟩ := R
    have hl : gv.length = gs.length := ga.1
    have hpos : 0 < gs.length := by
      cases gs with
      | nil => exact absurd rfl hne
      | cons _ _ => simp
    refine ⟨_, rfl, _, _, _, _, true, rfl, .ty "list", ty_lst sg, kit_ty (by decide +kernel), true, rfl, ?_⟩
    refine iteF ⟨_, rfl, l, gv, rfl, .inl sg, rfl, false, ?_, iteF ?_⟩
    · show V.bl (decide (V.int (gv.length : Int) = V.int 0)) = V.bl false
      rw [decide_eq_false]
      intro z
      have := V.int.inj z
      omega
    refine ⟨_, rfl, l, rfl, ⟨_, sg⟩, for_list (K := K) (a := l) (xs := gv) (fun i σ H2 => ∃ y, σ = [some (.ref l), y] ∧ Same H H2) ⟨_, rfl, Same.refl H⟩ (fun i σ H2 _ ⟨_, _, sm⟩ => sm.seq sg) ?_ ?_⟩
    · rintro i x σ H2 hx ⟨y, rfl, sm⟩
      obtain ⟨g, hg, gv⟩ := ga.get hx
      refine ⟨_, rfl, x, g, rfl, gv.tk (TK.same sm), gok g (List.mem_of_getElem? hg), fun H3 sm3 => ⟨true, rfl, iteF ⟨_, rfl, sm.trans sm3⟩⟩⟩
    · rintro σ H2 ⟨y, rfl, sm⟩
      exact q H2 sm
/-! ### is_wire -/
abbrev nIsWire : List Str := ["thing", "many_gates", "start", "end", "held", "worth"]
theorem scIsWire : FnScope nIsWire ["thing", "many_gates"] (defScope sIsWire) := ⟨rfl, rfl, rfl, by decide +kernel, rfl, by decide +kernel, by decide +kernel⟩
abbrev DIsWire (P : Program) (w : World) (K : PySem.W.Frag) (mg : Str → Option Value) (base : Heap) := Df P w K mg base 4 "is_wire" ["thing", "many_gates"] (spIsWire K)
theorem ok_isWire {f fF fW : Addr} {fd fdF fdW : FuncData} (F : Fun K "is_wire" "is_wire" sIsWire f fd) (hm : mg "is_wire" = some (.ref f)) (B : Bt mg) (DF : DFromTo P w K mg base fF fdF) (DW : DWorth P w K mg base fW fdW) : DIsWire P w K mg base f fd := by
  refine ⟨?_, hm, F.kp, F.binds fun _ _ _ _ _ _ us hl => match us, hl with | [_, _], _ => rfl⟩
  refine F.ok scIsWire (fun vs H Q E h => ?_) (fun cdv A outer s H vs Q E hr h => ?_)
  · obtain ⟨v, x, n, rfl, _⟩ := h
    rfl
  · obtain ⟨v, x, n, rfl, ⟨a, b, rfl, sq1, sq2⟩, hs, he, rok, rl, q⟩ := h
    have nd := scIsWire.nd
    have hr2 : Room 2 _ := hr.mono (by decide)
    refine ⟨_, pss_cons (ps_if (PW.pt (pw_or (pt_not (pt_val (pe_callB call_isi (by rfl) B.isi (by decide +kernel) (pa_cons (pv 0) (pa_cons (pe_bltn (v := .ty "tuple") (by rfl) B.tuple (by decide +kernel) rfl) pa_nil)))))
          (pw_or1 (pt_cmpR op_ne (pe_callB call_len_seq (by rfl) B.len PySem.boot_len (pa_cons (pv 0) pa_nil)) pe_int (nomark _))))) (pss_one (ps_ret pe_bl)) pss_nil) <|
      pss_cons (ps_asg (pv 0) (pg_tup (by rfl) (pgs_cons (pg_name (i := 2) nd rfl (.inl rfl)) (pgs_cons (pg_name (i := 3) nd rfl (.inl rfl)) (pgs_cons (pg_name (i := 4) nd rfl (.inl rfl)) pgs_nil))))) <|
      pss_cons (ps_if (PW.pt (pw_or (pt_not (pt_val (pe_call DF.ok hr2 (by rfl) DF.mg DF.kp DF.bd .nil pass0 (pa_cons (pv 2) (pa_cons pe_int (pa_cons (pe_op op_sub (pv 1) pe_int) pa_nil))))))
          (pw_or1 (pt_not (pt_val (pe_call DF.ok hr2 (by rfl) DF.mg DF.kp DF.bd .nil pass0 (pa_cons (pv 3) (pa_cons pe_int (pa_cons (pe_op op_sub (pv 1) pe_int) pa_nil))))))))) (pss_one (ps_ret pe_bl)) pss_nil) <|
      pss_one <| ps_ret <| pe_and (pe_callB call_isi (by rfl) B.isi (by decide +kernel) (pa_cons (pv 4) (pa_cons (pe_bltn (v := .ty "tuple") (by rfl) B.tuple (by decide +kernel) rfl) pa_nil))) <| pe_one <|
        pe_callB (cr_all rfl) (by rfl) B.all (by decide +kernel) <| (pa_cons · pa_nil) <| pe_lc (own := [("worth", 5)]) (g := gName 5) (tt := tYes) (te := tCall spWorth [] E0 (tCons (tVar 5) tNil)) rfl nd (pi_tup (pv 4)) (blkOk_by (N := nIsWire) (sc := defScope sIsWire) (own := [("worth", 5)]) (by decide +kernel))
          (fun _ _ _ _ _ => pg_name (i := 5) nd rfl (.inl rfl)) (fun _ _ _ _ _ => pts_nil) (fun _ _ _ _ _ => pe_call DW.ok hr (by rfl) DW.mg DW.kp DW.bd .nil pass0 (pa_cons (pv 5) pa_nil)), ?_⟩
    refine ⟨_, rfl, _, _, _, _, true, rfl, .ty "tuple", ty_tup sq1, kit_ty (by decide +kernel), true, rfl, ?_⟩
    refine iteF ⟨_, rfl, a, _, rfl, .inr sq1, rfl, _, rfl, iteF ?_⟩
    refine ⟨_, rfl, a, _, rfl, sq1, rfl, _, _, rfl, _, _, rfl, _, _, rfl, rfl, ?_⟩
    refine ⟨_, rfl, _, rfl, _, _, rfl, rfl, _, _, _, rfl, true, ?_, iteF ?_⟩
    · rw [decide_eq_true (by omega), decide_eq_true (by omega)]
      rfl
    refine ⟨_, rfl, _, rfl, _, _, rfl, rfl, _, _, _, rfl, true, ?_, iteF ?_⟩
    · rw [decide_eq_true (by omega), decide_eq_true (by omega)]
      rfl
    refine ⟨_, rfl, _, _, _, _, true, rfl, .ty "tuple", ty_tup sq2, kit_ty (by decide +kernel), true, rfl, iteT ?_⟩
    refine ⟨_, rfl, b, rfl, ⟨_, sq2⟩, fun D hD => ?_⟩
    refine lc_tup (K := K) (a := b) (xs := x.2.2.map V.int) (fun i Hc => Hc D = some (.lst ((List.replicate i true).map V.bl)) ∧ Same H Hc) ⟨upd_same, same_new hD⟩ (fun i Hc _ ⟨_, sm⟩ => (TK.same sm).seq sq2) ?_ ?_
    · rintro i y Hc hy ⟨hc, sm⟩
      rw [List.getElem?_map] at hy
      cases ey : x.2.2[i]? with
      | none =>
        rw [ey] at hy
        cases hy
      | some z =>
      rw [ey] at hy
      cases hy
      have hz := rok z (List.mem_of_getElem? ey)
      have hi : i < x.2.2.length := (List.getElem?_eq_some_iff.mp ey).1
      refine ⟨rfl, tyes ?_⟩
      refine ⟨_, rfl, z, rfl, _, hc, by rw [List.length_map, List.length_replicate]; exact small1000 (by omega), ?_, same_mut sm hD⟩
      rw [upd_same, decide_eq_true hz.1, decide_eq_true hz.2, List.replicate_succ', List.map_append]
      rfl
    · rintro Hc ⟨hc, sm⟩
      refine ⟨D, _, rfl, SqL.of hc, ?_⟩
      have e : (List.replicate (x.2.2.map V.int).length true).all id = true := by
        rw [List.all_eq_true]
        intro y hy
        rw [List.mem_replicate] at hy
        rw [hy.2]
        rfl
      rw [e]
      exact q Hc sm
/-! ### is_taken -/
theorem scTaken : FnScope ["wire", "gates", "come", "start", "end"] ["wire", "gates", "come"] (defScope sTaken) := ⟨rfl, rfl, rfl, by decide +kernel, rfl, by decide +kernel, by decide +kernel⟩
abbrev DTaken (P : Program) (w : World) (K : PySem.W.Frag) (mg : Str → Option Value) (base : Heap) := Df P w K mg base 1 "is_taken" ["wire", "gates", "come"] (spTaken K)
theorem ok_taken {f : Addr} {fd : FuncData} (F : Fun K "is_taken" "is_taken" sTaken f fd) (hm : mg "is_taken" = some (.ref f)) : DTaken P w K mg base f fd := by
  refine ⟨?_, hm, F.kp, F.binds fun _ _ _ _ _ _ us hl => match us, hl with | [_, _, _], _ => rfl⟩
  refine F.ok scTaken (fun vs H Q E h => ?_) (fun cdv A outer s H vs Q E hr h => ?_)
  · obtain ⟨v, x, lg, lc, gs, cs, rfl, _⟩ := h
    rfl
  · obtain ⟨v, x, lg, lc, gs, cs, rfl, ⟨a, b, rfl, sq1, sq2⟩, ⟨gv, sg, ga⟩, sc, W, hcl, h0, q⟩ := h
    have nd := scTaken.nd
    refine ⟨_, pss_cons (ps_par (i := 3) (j := 4) (by rfl) nd rfl rfl (by decide) rfl rfl (pa_cons (pe_ix ix_tup (pv 0) pe_int (fun _ _ => rfl)) (pa_cons (pe_ix ix_tup (pv 0) pe_int (fun _ _ => rfl)) pa_nil)) (by rfl)) <|
      pss_cons (ps_if (PW.pt (pw_or (pt_cmpR op_eq (pe_ix ix_tup (pe_ix ix_list (pv 1) (pv 3) (fun _ _ => rfl)) pe_int (fun _ _ => rfl)) pe_str (nomark _)) (pw_or1 (pt_cmpR op_eq (pe_ix ix_tup (pe_ix ix_list (pv 1) (pv 4) (fun _ _ => rfl)) pe_int (fun _ _ => rfl)) pe_str (nomark _))))) (pss_one (ps_ret pe_bl)) pss_nil) <|
      pss_one <| ps_ret <| pe_or (pe_cmpR op_ne (pe_ix ix_tup (pe_ix ix_list (pv 1) (pv 4) (fun _ _ => rfl)) pe_int (fun _ _ => rfl)) pe_str (nomark _)) (pe_one (pe_cmpR op_eq (pe_ix ix_list (pv 2) (pv 4) (fun _ _ => rfl)) pe_int (nomark _))), ?_⟩
    have hl : gv.length = gs.length := ga.1
    obtain ⟨vs1, g1, e1, f1, a1, rfl, s1⟩ : ∃ vs1 g1, gv[x.1]? = some vs1 ∧ gs[x.1]? = some g1 ∧ GateV K H vs1 g1 := by
      have e1 : gs[x.1]? = some (gs[x.1]'W.s) := List.getElem?_eq_getElem W.s
      obtain ⟨y, hy, r⟩ := ga.getR e1
      exact ⟨y, _, hy, e1, r⟩
    obtain ⟨vs2, g2, e2, f2, a2, rfl, s2⟩ : ∃ vs2 g2, gv[x.2.1]? = some vs2 ∧ gs[x.2.1]? = some g2 ∧ GateV K H vs2 g2 := by
      have e1 : gs[x.2.1]? = some (gs[x.2.1]'W.e) := List.getElem?_eq_getElem W.e
      obtain ⟨y, hy, r⟩ := ga.getR e1
      exact ⟨y, _, hy, e1, r⟩
    have k1 := kindAt_get f1
    have k2 := kindAt_get f2
    refine ⟨_, rfl, a, _, 0, _, rfl, rfl, sq1, atI_nat (j := 0) rfl, _, rfl, a, _, 1, _, rfl, rfl, sq1, atI_nat (j := 1) rfl, _, _, rfl, ?_⟩
    refine ⟨_, rfl, _, rfl, lg, gv, _, _, rfl, rfl, sg, atI_nat e1, a1, _, 0, _, rfl, rfl, s1, atI_nat (j := 0) rfl, rfl, false, ?_, iteF ?_⟩
    · show V.bl (decide (V.str g1.1 = V.str "out")) = V.bl false
      rw [decide_eq_false]
      intro z
      exact W.ks (by rw [k1]; exact V.str.inj z)
    refine ⟨_, rfl, _, rfl, lg, gv, _, _, rfl, rfl, sg, atI_nat e2, a2, _, 0, _, rfl, rfl, s2, atI_nat (j := 0) rfl, rfl, false, ?_, iteF ?_⟩
    · show V.bl (decide (V.str g2.1 = V.str "in")) = V.bl false
      rw [decide_eq_false]
      intro z
      exact W.ke (by rw [k2]; exact V.str.inj z)
    refine ⟨_, rfl, _, rfl, lg, gv, _, _, rfl, rfl, sg, atI_nat e2, a2, _, 0, _, rfl, rfl, s2, atI_nat (j := 0) rfl, rfl, _, rfl, ite2 (fun e => ?_) (fun e => ?_)⟩
    · exact q
    · have hk : kindAt gs x.2.1 = "out" := by
        rw [k2]
        refine Classical.byContradiction fun z => e ?_
        show (!decide (V.str g2.1 = V.str "out")) = true
        rw [decide_eq_false (fun y => z (V.str.inj y))]
        rfl
      have hc := h0 hk
      refine ⟨_, rfl, _, rfl, lc, _, _, .int 0, rfl, rfl, sc, atI_nat (by rw [List.getElem?_map, hc]; rfl), rfl, q⟩
end
end Lag

set_option maxRecDepth 100000
set_option maxHeartbeats 4000000
namespace Lag
open PySem PySem.Spec PyProof.Rows L2
abbrev sChkWires : Stmt := topS 24
def cntL (n : Nat) (ws : List Wr) : List Nat := (List.range n).map (cnt ws)
theorem cntL_len (n : Nat) (ws : List Wr) : (cntL n ws).length = n := by simp [cntL]
theorem cntL_get {n e : Nat} {ws : List Wr} (h : e < n) : (cntL n ws)[e]? = some (cnt ws e) := by
  unfold cntL
  rw [List.getElem?_map, List.getElem?_range h]
  rfl
theorem cntL_nil (n : Nat) : cntL n [] = List.replicate n 0 := by
  refine List.ext_getElem? fun i => ?_
  by_cases h : i < n
  · rw [cntL_get h, List.getElem?_replicate, if_pos h]
    rfl
  · rw [List.getElem?_eq_none (by rw [cntL_len]; omega), List.getElem?_eq_none (by simp; omega)]
theorem cnt_app (ws : List Wr) (x : Wr) (e : Nat) : cnt (ws ++ [x]) e = cnt ws e + if x.2.1 = e then 1 else 0 := by
  unfold cnt
  rw [List.countP_append, List.countP_cons, List.countP_nil]
  by_cases h : x.2.1 = e <;> simp [h]
theorem cntL_app {n : Nat} {ws : List Wr} {x : Wr} (h : x.2.1 < n) : (cntL n ws).set x.2.1 (cnt ws x.2.1 + 1) = cntL n (ws ++ [x]) := by
  refine List.ext_getElem? fun i => ?_
  by_cases hi : i < n
  · rw [cntL_get hi, cnt_app, List.getElem?_set]
    by_cases e : x.2.1 = i
    · rw [if_pos e, if_pos e, if_pos (by rw [cntL_len]; exact h), e]
    · rw [if_neg e, if_neg e, cntL_get hi]
      rfl
  · rw [List.getElem?_eq_none (by rw [List.length_set, cntL_len]; omega), List.getElem?_eq_none (by rw [cntL_len]; omega)]
theorem cnt_take_lt {ws : List Wr} {i : Nat} {x : Wr} (h : ws[i]? = some x) : cnt (ws.take i) x.2.1 + 1 ≤ cnt ws x.2.1 := by
  have e : ws.take (i + 1) = ws.take i ++ [x] := by rw [List.take_add_one, h]; rfl
  have h1 : cnt (ws.take (i + 1)) x.2.1 ≤ cnt ws x.2.1 := by
    unfold cnt
    exact List.Sublist.countP_le (List.take_sublist _ _)
  rw [e, cnt_app, if_pos rfl] at h1
  exact h1
def spChkWires (K : PySem.W.Frag) : Sp := fun vs H Q _ => ∃ (lg lw : Addr) (gs : List Gt) (ws : List Wr), vs = [.ref lg, .ref lw] ∧ RG K H lg gs ∧ RW K H lw ws ∧ NetOk gs ws ∧ ∀ H', Same H H' → Q .non H'
theorem map_set' {α β : Type} (f : α → β) (l : List α) (i : Nat) (a : α) : (l.map f).set i (f a) = (l.set i a).map f := by simp [List.map_set]
section
variable {P : Program} {w : World} {K : PySem.W.Frag} {mg : Str → Option Value} {base : Heap}
theorem scChkWires : FnScope ["gates", "wires", "come", "place", "thing", "gate", "many"] ["gates", "wires"] (defScope sChkWires) := ⟨rfl, rfl, rfl, by decide +kernel, rfl, by decide +kernel, by decide +kernel⟩
abbrev DChkWires (P : Program) (w : World) (K : PySem.W.Frag) (mg : Str → Option Value) (base : Heap) := Df P w K mg base 5 "check_wires" ["gates", "wires"] (spChkWires K)
theorem ok_chkWires {f fW fT aK aW aF : Addr} {fd fdW fdT : FuncData} (F : Fun K "check_wires" "check_wires" sChkWires f fd) (hm : mg "check_wires" = some (.ref f)) (B : Bt mg) (C : Cns K mg aK aW aF) (DW : DIsWire P w K mg base fW fdW) (DT : DTaken P w K mg base fT fdT) : DChkWires P w K mg base f fd := by
  refine ⟨?_, hm, F.kp, F.binds fun _ _ _ _ _ _ us hl => match us, hl with | [_, _], _ => rfl⟩
  refine F.ok scChkWires (fun vs H Q E h => ?_) (fun cdv A outer s H vs Q E hr h => ?_)
  · obtain ⟨lg, lw, gs, ws, rfl, _⟩ := h
    rfl
  · obtain ⟨lg, lw, gs, ws, rfl, RGs, ⟨wv, sw, wa⟩, N, q⟩ := h
    have nd := scChkWires.nd
    have hr1 : Room 1 _ := hr.mono (by decide)
    refine ⟨_, pss_cons (ps_if (pt_not (pt_val (pe_callB call_isi (by rfl) B.isi (by decide +kernel) (pa_cons (pv 1) (pa_cons (pe_bltn (v := .ty "list") (by rfl) B.list (by decide +kernel) rfl) pa_nil))))) (pss_one ps_never) pss_nil) <|
      pss_cons (ps_set (i := 2) nd rfl (Or.inl rfl) (pe_op op_rep (pe_lst (pa_cons pe_int pa_nil)) (pe_callB call_len_seq (by rfl) B.len PySem.boot_len (pa_cons (pv 0) pa_nil)))) <|
      pss_cons (ps_for PassesOwn.never rfl (pi_enum (by rfl) B.enum (pa_cons (pv 1) pa_nil)) (pg_tup rfl (pgs_cons (pg_name (i := 3) nd rfl (Or.inl rfl)) (pgs_cons (pg_name (i := 4) nd rfl (Or.inl rfl)) pgs_nil))) <|
        pss_cons (ps_if (PW.pt (pw_or (pt_not (pt_val (pe_call DW.ok hr (by rfl) DW.mg DW.kp DW.bd .nil pass0 (pa_cons (pv 4) (pa_cons (pe_callB call_len_seq (by rfl) B.len PySem.boot_len (pa_cons (pv 0) pa_nil)) pa_nil)))))
            (pw_or1 (pt_not (pt_val (pe_call DT.ok hr1 (by rfl) DT.mg DT.kp DT.bd .nil pass0 (pa_cons (pv 4) (pa_cons (pv 0) (pa_cons (pv 2) pa_nil))))))))) (pss_one ps_never) pss_nil) <|
        pss_one <| ps_augS (pv 2) (pe_ix ix_tup (pv 4) pe_int (fun _ _ => rfl)) get_list pe_int ip_add set_list) <|
      pss_one <| ps_for PassesOwn.never rfl (pi_zip (by rfl) B.zip (pa_cons (pv 0) (pa_cons (pv 2) pa_nil))) (pg_tup rfl (pgs_cons (pg_name (i := 5) nd rfl (Or.inl rfl)) (pgs_cons (pg_name (i := 6) nd rfl (Or.inl rfl)) pgs_nil))) <|
        pss_one <| ps_if (PW.pt (pw_and (pt_cmpR op_in_seq (pe_ix ix_tup (pv 5) pe_int (fun _ _ => rfl)) (pe_glob (v := .ref aF) (by rfl) C.mF rfl) (by rfl)) (pw_and1 (pt_cmpR op_eq (pv 6) pe_int (nomark _))))) (pss_one ps_never) pss_nil, ?_⟩
    obtain ⟨gv, sg, ga⟩ := id RGs
    have hlg : gv.length = gs.length := ga.1
    have hlw : wv.length = ws.length := wa.1
    have hgl := N.gl
    refine ⟨_, rfl, _, _, _, _, true, rfl, .ty "list", ty_lst sw, kit_ty (by decide +kernel), true, rfl, iteF ?_⟩
    refine ⟨(by show 1 ≤ sizeLine; decide), fun l0 hl0 => ?_⟩
    refine ⟨_, rfl, lg, gv, rfl, .inl ((same_new hl0).seq sg), ?_⟩
    refine ⟨l0, _, _, rfl, rfl, upd_same, by omega, by omega, ?_, fun lc hlc => ?_⟩
    · show 1 * _ ≤ sizeLine
      have : 1 * ((gv.length : Int)).toNat ≤ 1000 := by omega
      exact Nat.le_of_lt (small1000 this)
    have sm0 : Same H (upd H l0 (.lst [.int 0])) := same_new hl0
    have hlc0 : H lc = none := sm0.free hlc
    have e0 : (List.replicate ((gv.length : Int)).toNat [V.int 0]).flatten = (cntL gs.length (ws.take 0)).map fun i => V.int (i : Nat) := by
      rw [List.take_zero, cntL_nil, List.map_replicate, ← hlg, Int.toNat_natCast]
      generalize gv.length = n
      induction n with
      | zero => rfl
      | succ n ih =>
        rw [List.replicate_succ, List.flatten_cons, ih, List.replicate_succ]
        rfl
    rw [e0]
    -- for place, thing in enumerate(wires)
    refine ⟨_, rfl, lw, wv, rfl, (sm0.trans (same_new hlc)).seq sw, for_it (walk_enum (K := K) (a := lw) (xs := wv)) (fun i σ H2 => ∃ s3 s4 : Option V, σ = [some (.ref lg), some (.ref lw), some (.ref lc), s3, s4, none, none] ∧
        H2 lc = some (.lst ((cntL gs.length (ws.take i)).map fun i => V.int (i : Nat))) ∧ Same H H2)
      ⟨_, _, rfl, upd_same, sm0.trans (same_new hlc)⟩ (fun i σ H2 _ ⟨_, _, _, _, sm⟩ => sm.seq sw) ?_ ?_⟩
    · rintro i v σ H2 H2' hi ⟨s3, s4, rfl, hc, sm⟩ ⟨T, x1, y, rfl, hT, rfl, ex, ey⟩
      cases ex
      obtain ⟨x, hx, wx⟩ := wa.get ey
      have W := N.wok x (List.mem_of_getElem? hx)
      have hxi : i < ws.length := (List.getElem?_eq_some_iff.mp hx).1
      have smT : Same H2 (upd H2 T (.tup [.int (i : Nat), y])) := same_new hT
      have sm2 := sm.trans smT
      refine ⟨T, _, rfl, .inl (.inl upd_same), rfl, _, _, rfl, _, _, rfl, rfl, ?_⟩
      refine ⟨_, rfl, _, rfl, lg, gv, rfl, .inl (sm2.seq sg), y, x, gv.length, rfl, wx.tk (TK.same sm2), by rw [hlg]; exact W.s, by rw [hlg]; exact W.e, W.r, by have := W.rl; omega, fun H3 sm3 => ⟨true, rfl, iteF ?_⟩⟩
      have sm4 := sm2.trans sm3
      have hc3 := sm3 _ _ (smT _ _ hc)
      refine ⟨_, rfl, _, rfl, _, rfl, y, x, lg, lc, gs, cntL gs.length (ws.take i), rfl, wx.tk (TK.same sm4), RGs.same sm4, SqL.of hc3, W, cntL_len _ _, fun hk => ?_, true, rfl, iteF ?_⟩
      · rw [cntL_get W.e]
        have h1 := N.one _ W.e hk
        have h2 := cnt_take_lt hx
        congr 1
        omega
      obtain ⟨a, b, rfl, sq1, sq2⟩ := wx
      have hlen : x.2.1 < (cntL gs.length (ws.take i)).length := by rw [cntL_len]; exact W.e
      refine ⟨_, rfl, _, rfl, a, _, 1, _, rfl, rfl, (TK.same sm4).seq sq1, atI_nat (j := 1) rfl, lc, _, x.2.1, .int (cnt (ws.take i) x.2.1 : Nat), rfl, rfl, SqL.of hc3, by rw [List.getElem?_map, cntL_get W.e]; rfl, _, _, rfl, rfl, lc, _, _, x.2.1, rfl, rfl, hc3, Evl.ixN_nat (by rw [List.length_map]; exact hlen), ?_⟩
      refine ⟨_, _, rfl, ?_, same_mut sm4 hlc0⟩
      have et : ws.take (i + 1) = ws.take i ++ [x] := by rw [List.take_add_one, hx]; rfl
      rw [upd_same, et, ← cntL_app W.e, ← map_set']
      rfl
    · rintro σ H2 ⟨s3, s4, rfl, hc, sm⟩
      rw [hlw, List.take_length] at hc
      -- for gate, many in zip(gates, come)
      refine ⟨_, rfl, _, rfl, lg, lc, gv, _, rfl, sm.seq sg, SqL.of hc, RZ.for_zipL (K := K) (a := lg) (b := lc) (xs := gv) (by rw [List.length_map, cntL_len]; exact hlg) (fun i σ H3 => ∃ s5 s6 : Option V, σ = [some (.ref lg), some (.ref lw), some (.ref lc), s3, s4, s5, s6] ∧ Same H2 H3)
        ⟨_, _, rfl, Same.refl H2⟩ (fun i σ H3 ⟨_, _, _, sm3⟩ => ⟨(sm.trans sm3).seq sg, SqL.of (sm3 _ _ hc)⟩) ?_ ?_⟩
      · rintro i x y T σ H3 hx hy ⟨s5, s6, rfl, sm3⟩ hT
        obtain ⟨g, hg, a, rfl, sq⟩ := ga.get hx
        have hgi : i < gs.length := (List.getElem?_eq_some_iff.mp hg).1
        rw [List.getElem?_map, cntL_get hgi] at hy
        cases hy
        have sm4 : Same H (upd H3 T (.tup [.ref a, .int (cnt ws i : Nat)])) := (sm.trans sm3).trans (same_new hT)
        refine ⟨T, _, rfl, .inl (.inl upd_same), rfl, _, _, rfl, _, _, rfl, rfl, ?_⟩
        refine ⟨_, rfl, a, _, 0, _, rfl, rfl, (TK.same sm4).seq sq, atI_nat (j := 0) rfl, aF, _, rfl, .inr (C.sF _), rfl, rfl, _, rfl, ite2 (fun e => ?_) (fun e => ?_)⟩
        · have e' : inV (V.str g.1) [V.str "out", V.str "first"] = true := e
          have hpos : 1 ≤ cnt ws i := by
            unfold inV at e'
            rw [List.any_eq_true] at e'
            obtain ⟨x, hx, hxe⟩ := e'
            simp only [List.mem_cons, List.not_mem_nil, or_false] at hx
            rcases hx with rfl | rfl
            · have := N.one i hgi (by rw [kindAt_get hg]; exact (eq_of_beq hxe).symm)
              omega
            · exact N.some i hgi (by rw [kindAt_get hg]; exact (eq_of_beq hxe).symm)
          refine ⟨_, rfl, rfl, false, ?_, iteF ⟨_, _, rfl, sm3.trans (same_new hT)⟩⟩
          show V.bl (decide (V.int (cnt ws i : Int) = V.int 0)) = V.bl false
          rw [decide_eq_false]
          intro z
          have := V.int.inj z
          omega
        · exact iteF ⟨_, _, rfl, sm3.trans (same_new hT)⟩
      · rintro σ H3 ⟨s5, s6, rfl, sm3⟩
        exact q H3 (sm.trans sm3)
end
end Lag

set_option maxRecDepth 100000
set_option maxHeartbeats 4000000
namespace Lag
open PySem PySem.Spec PyProof.Rows L2
/-! ### the order of gates along wires without registers: the mathematics -/
def bare (ws : List Wr) : List (Nat × Nat) := (ws.filter fun x => x.2.2.isEmpty).map fun x => (x.1, x.2.1)
/-- how many wires of B lead into e from gates that are not in dn -/
def mis (B : List (Nat × Nat)) (dn : List Nat) (e : Nat) : Nat := B.countP fun b => b.2 == e && !dn.contains b.1
def frm (B : List (Nat × Nat)) (g e : Nat) : Nat := B.countP fun b => b.1 == g && b.2 == e
theorem mis_split {B : List (Nat × Nat)} {dn : List Nat} {g : Nat} (h : g ∉ dn) (e : Nat) : mis B dn e = mis B (dn ++ [g]) e + frm B g e := by
  unfold mis frm
  induction B with
  | nil => rfl
  | cons b B ih =>
    rw [List.countP_cons, List.countP_cons, List.countP_cons, ih]
    by_cases h1 : b.2 = e
    · by_cases h2 : b.1 = g
      · have : b.1 ∉ dn := by rw [h2]; exact h
        simp [h1, h2, h]
        omega
      · by_cases h3 : b.1 ∈ dn
        · simp [h1, h2, h3]
        · simp [h1, h2, h3]
          omega
    · simp [h1]
theorem mis_zero {B : List (Nat × Nat)} {dn : List Nat} {e : Nat} (h : mis B dn e = 0) {b : Nat × Nat} (hb : b ∈ B) (he : b.2 = e) : b.1 ∈ dn := by
  unfold mis at h
  rw [List.countP_eq_zero] at h
  have := h b hb
  simp [he] at this
  exact this
theorem frm_drop {B : List (Nat × Nat)} {j : Nat} {b : Nat × Nat} (h : B[j]? = some b) (g e : Nat) : frm (B.drop j) g e = frm (B.drop (j + 1)) g e + if b.1 = g ∧ b.2 = e then 1 else 0 := by
  obtain ⟨hj, rfl⟩ := List.getElem?_eq_some_iff.mp h
  rw [List.drop_eq_getElem_cons hj]
  unfold frm
  rw [List.countP_cons]
  by_cases h1 : B[j].1 = g <;> by_cases h2 : B[j].2 = e <;> simp [h1, h2]
structure KI (B : List (Nat × Nat)) (n : Nat) (placed : List Nat) (d : Nat) : Prop where
  nd : placed.Nodup
  lt : ∀ e ∈ placed, e < n
  le : d ≤ placed.length
  iff : ∀ e, e < n → (e ∈ placed ↔ mis B (placed.take d) e = 0)
  top : ∀ (j e : Nat), placed[j]? = some e → ∀ b ∈ B, b.2 = e → b.1 ∈ placed.take j
structure KJ (B : List (Nat × Nat)) (n : Nat) (placed : List Nat) (d g j : Nat) : Prop where
  nd : placed.Nodup
  lt : ∀ e ∈ placed, e < n
  at_ : placed[d]? = some g
  iff : ∀ e, e < n → (e ∈ placed ↔ mis B (placed.take (d + 1)) e + frm (B.drop j) g e = 0)
  top : ∀ (j e : Nat), placed[j]? = some e → ∀ b ∈ B, b.2 = e → b.1 ∈ placed.take j
theorem take_add {l : List Nat} {d g : Nat} (h : l[d]? = some g) : l.take (d + 1) = l.take d ++ [g] := by rw [List.take_add_one, h]; rfl
theorem nodup_take {l : List Nat} {d g : Nat} (nd : l.Nodup) (h : l[d]? = some g) : g ∉ l.take d := by
  intro hm
  obtain ⟨i, hi⟩ := List.getElem?_of_mem hm
  have h1 : i < d := by
    have := (List.getElem?_eq_some_iff.mp hi).1
    rw [List.length_take] at this
    omega
  rw [List.getElem?_take_of_lt h1] at hi
  have := nd_ix nd hi h
  omega
theorem KI.go {B : List (Nat × Nat)} {n : Nat} {placed : List Nat} {d g : Nat} (h : KI B n placed d) (hg : placed[d]? = some g) : KJ B n placed d g 0 :=
  ⟨h.nd, h.lt, hg, fun e he => by rw [h.iff e he, take_add hg, mis_split (nodup_take h.nd hg), List.drop_zero], h.top⟩
theorem KJ.done {B : List (Nat × Nat)} {n : Nat} {placed : List Nat} {d g : Nat} (h : KJ B n placed d g B.length) : KI B n placed (d + 1) := by
  have hd : d < placed.length := (List.getElem?_eq_some_iff.mp h.at_).1
  refine ⟨h.nd, h.lt, hd, fun e he => ?_, h.top⟩
  rw [h.iff e he, List.drop_length]
  rfl
theorem KJ.skip {B : List (Nat × Nat)} {n : Nat} {placed : List Nat} {d g j : Nat} {b : Nat × Nat} (h : KJ B n placed d g j) (hb : B[j]? = some b) (hg : b.1 ≠ g) : KJ B n placed d g (j + 1) :=
  ⟨h.nd, h.lt, h.at_, fun e he => by rw [h.iff e he, frm_drop hb, if_neg (fun z => hg z.1)]; rfl, h.top⟩
theorem KJ.not {B : List (Nat × Nat)} {n : Nat} {placed : List Nat} {d g j : Nat} {b : Nat × Nat} (h : KJ B n placed d g j) (hb : B[j]? = some b) (hg : b.1 = g) (hn : mis B (placed.take (d + 1)) b.2 + frm (B.drop (j + 1)) g b.2 ≠ 0) : KJ B n placed d g (j + 1) := by
  refine ⟨h.nd, h.lt, h.at_, fun e he => ?_, h.top⟩
  rw [h.iff e he, frm_drop hb]
  by_cases h2 : b.2 = e
  · subst h2
    rw [if_pos ⟨hg, rfl⟩]
    omega
  · rw [if_neg (fun z => h2 z.2)]
    rfl
theorem KJ.put {B : List (Nat × Nat)} {n : Nat} {placed : List Nat} {d g j : Nat} {b : Nat × Nat} (h : KJ B n placed d g j) (hb : B[j]? = some b) (hg : b.1 = g) (hlt : b.2 < n) (hn : mis B (placed.take (d + 1)) b.2 + frm (B.drop (j + 1)) g b.2 = 0) : KJ B n (placed ++ [b.2]) d g (j + 1) := by
  have hd : d < placed.length := (List.getElem?_eq_some_iff.mp h.at_).1
  have hnot : b.2 ∉ placed := fun z => by
    have := (h.iff _ hlt).mp z
    rw [frm_drop hb, if_pos ⟨hg, rfl⟩] at this
    omega
  have et : (placed ++ [b.2]).take (d + 1) = placed.take (d + 1) := List.take_append_of_le_length (by omega)
  refine ⟨?_, ?_, ?_, ?_, ?_⟩
  · rw [List.nodup_append]
    refine ⟨h.nd, by simp, fun a ha c hc => ?_⟩
    simp at hc
    subst hc
    intro z
    exact hnot (by rw [← z]; exact ha)
  · intro e he
    rcases List.mem_append.mp he with he | he
    · exact h.lt e he
    · simp at he
      subst he
      exact hlt
  · rw [List.getElem?_append_left hd]
    exact h.at_
  · intro e he
    rw [et, List.mem_append]
    by_cases h2 : b.2 = e
    · subst h2
      simp [hn]
    · have := h.iff e he
      rw [frm_drop hb, if_neg (fun z => h2 z.2)] at this
      rw [this]
      simp
      intro z
      exact absurd z.symm h2
  · intro k e hk c hc hce
    by_cases hk' : k < placed.length
    · rw [List.getElem?_append_left hk'] at hk
      rw [List.take_append_of_le_length (by omega)]
      exact h.top k e hk c hc hce
    · have hkl : k = placed.length := by
        have := (List.getElem?_eq_some_iff.mp hk).1
        simp at this
        omega
      subst hkl
      rw [List.getElem?_append_right (by omega)] at hk
      simp at hk
      subst hk
      rw [List.take_left']
      · have := mis_zero (show mis B (placed.take (d + 1)) b.2 = 0 by omega) hc hce
        exact List.mem_of_mem_take this
      · rfl
/-- what the order is: gates without two alike, each behind those it hangs on; all whose wires come from such -/
def Ord (n : Nat) (ws : List Wr) (ord : List Nat) : Prop := KI (bare ws) n ord ord.length
theorem Ord.full {n : Nat} {ws : List Wr} {ord : List Nat} (h : Ord n ws ord) (hw : ∀ x ∈ ws, x.1 < n ∧ x.2.1 < n) (rk : ∃ ρ : Nat → Nat, ∀ x ∈ ws, x.2.2 = [] → ρ x.1 < ρ x.2.1) : ord.Perm (List.range n) := by
  obtain ⟨ρ, hρ⟩ := rk
  have all : ∀ r e, e < n → ρ e = r → e ∈ ord := by
    intro r
    induction r using Nat.strongRecOn with
    | ind r ih =>
      intro e he hr
      rw [h.iff e he, List.take_length]
      unfold mis
      rw [List.countP_eq_zero]
      intro b hb
      obtain ⟨x, hx, rfl⟩ := List.mem_map.mp hb
      rw [List.mem_filter] at hx
      have hr0 : x.2.2 = [] := by simpa using hx.2
      have := hρ x hx.1 hr0
      simp
      intro z
      exact ih (ρ x.1) (by rw [← hr, ← z]; exact this) x.1 (hw x hx.1).1 rfl
  rw [List.perm_iff_count]
  intro a
  rw [h.nd.count, List.nodup_range.count]
  by_cases ha : a < n
  · rw [if_pos (all _ a ha rfl), if_pos (List.mem_range.mpr ha)]
  · rw [if_neg (fun z => ha (h.lt a z)), if_neg (fun z => ha (List.mem_range.mp z))]
end Lag

set_option maxRecDepth 100000
set_option maxHeartbeats 8000000
namespace Lag
open PySem PySem.Spec PyProof.Rows L2
abbrev sAlong : Stmt := topS 13
abbrev sOrder : Stmt := topS 28
def PairV (K : PySem.W.Frag) (H : Hp) (v : V) (b : Nat × Nat) : Prop := ∃ a, v = .ref a ∧ SqT K H a [.int (b.1 : Nat), .int (b.2 : Nat)]
theorem PairV.tk {K : PySem.W.Frag} {H H' : Hp} {v : V} {b : Nat × Nat} (t : TK H H') (h : PairV K H v b) : PairV K H' v b := by
  obtain ⟨a, e, s⟩ := h
  exact ⟨a, e, t.seq s⟩
/-- numbers by a function of the place -/
def fnL (n : Nat) (f : Nat → Nat) : List V := (List.range n).map fun e => V.int (f e : Nat)
theorem fnL_len (n : Nat) (f : Nat → Nat) : (fnL n f).length = n := by simp [fnL]
theorem fnL_get {n e : Nat} {f : Nat → Nat} (h : e < n) : (fnL n f)[e]? = some (V.int (f e : Nat)) := by
  unfold fnL
  rw [List.getElem?_map, List.getElem?_range h]
  rfl
theorem fnL_set {n e : Nat} {f f' : Nat → Nat} {z : Int} (h : e < n) (he : (f' e : Int) = z) (ho : ∀ i, i ≠ e → f' i = f i) : (fnL n f).set e (V.int z) = fnL n f' := by
  refine List.ext_getElem? fun i => ?_
  by_cases hi : i < n
  · rw [fnL_get hi, List.getElem?_set]
    by_cases ei : e = i
    · subst ei
      rw [if_pos rfl, if_pos (by rw [fnL_len]; exact h), he]
    · rw [if_neg ei, fnL_get hi, ho i (fun z => ei z.symm)]
  · rw [List.getElem?_eq_none (by rw [List.length_set, fnL_len]; omega), List.getElem?_eq_none (by rw [fnL_len]; omega)]
theorem fnL_zero (n : Nat) (f : Nat → Nat) (h : ∀ e, f e = 0) : (List.replicate n [V.int 0]).flatten = fnL n f := by
  have e : f = fun _ => 0 := funext h
  subst e
  unfold fnL
  induction n with
  | zero => rfl
  | succ n ih =>
    rw [List.replicate_succ', List.flatten_append, ih, List.range_succ, List.map_append]
    rfl
def spOrder (K : PySem.W.Frag) : Sp := fun vs H Q _ => ∃ (n : Nat) (lw : Addr) (ws : List Wr), vs = [.int (n : Nat), .ref lw] ∧ RW K H lw ws ∧ (∀ x ∈ ws, x.1 < n ∧ x.2.1 < n) ∧ n ≤ 1000 ∧ ws.length ≤ 1000 ∧
  ∀ (ord : List Nat) (p : Addr) (H' : Hp), Ord n ws ord → Same H H' → H p = none → H' p = some (.lst (ord.map fun i => V.int (i : Nat))) → Q (.ref p) H'
def spAlong (K : PySem.W.Frag) : Sp := fun vs H Q _ => ∃ (n : Nat) (lb : Addr) (bv : List V) (B : List (Nat × Nat)), vs = [.int (n : Nat), .ref lb] ∧ SqL K H lb bv ∧ All2 (PairV K H) bv B ∧ (∀ b ∈ B, b.1 < n ∧ b.2 < n) ∧ n ≤ 1000 ∧ B.length ≤ 1000 ∧
  ∀ (ord : List Nat) (p : Addr) (H' : Hp), KI B n ord ord.length → Same H H' → H p = none → H' p = some (.lst (ord.map fun i => V.int (i : Nat))) → Q (.ref p) H'
abbrev nAlong : List Str := ["many", "pairs", "missing", "start", "end", "placed", "done", "place"]
theorem scAlong : FnScope nAlong ["many", "pairs"] (defScope sAlong) := ⟨rfl, rfl, rfl, by decide +kernel, rfl, by decide +kernel, by decide +kernel⟩
abbrev nOrder : List Str := ["many_gates", "wires", "start", "end", "held"]
theorem scOrder : FnScope nOrder ["many_gates", "wires"] (defScope sOrder) := ⟨rfl, rfl, rfl, by decide +kernel, rfl, by decide +kernel, by decide +kernel⟩
theorem bare_take {ws : List Wr} {i : Nat} {x : Wr} (h : ws[i]? = some x) : bare (ws.take (i + 1)) = if x.2.2.isEmpty then bare (ws.take i) ++ [(x.1, x.2.1)] else bare (ws.take i) := by
  unfold bare
  rw [List.take_add_one, h]
  show ((ws.take i ++ [x]).filter _).map _ = _
  rw [List.filter_append]
  by_cases e : x.2.2.isEmpty
  · rw [if_pos e, List.filter_cons, if_pos e, List.map_append]
    rfl
  · rw [if_neg e, List.filter_cons, if_neg e, List.filter_nil, List.append_nil]
theorem bare_len (ws : List Wr) : (bare ws).length ≤ ws.length := by
  unfold bare
  rw [List.length_map]
  exact List.length_filter_le _ _
theorem mis_take {B : List (Nat × Nat)} {i : Nat} {b : Nat × Nat} (h : B[i]? = some b) (e : Nat) : mis (B.take (i + 1)) [] e = mis (B.take i) [] e + if b.2 = e then 1 else 0 := by
  unfold mis
  rw [List.take_add_one, h]
  show (B.take i ++ [b]).countP _ = _
  rw [List.countP_append, List.countP_cons, List.countP_nil]
  by_cases h1 : b.2 = e <;> simp [h1]
section
variable {P : Program} {w : World} {K : PySem.W.Frag} {mg : Str → Option Value} {base : Heap}
abbrev DAlong (P : Program) (w : World) (K : PySem.W.Frag) (mg : Str → Option Value) (base : Heap) := Df P w K mg base 1 "order_along" ["many", "pairs"] (spAlong K)
theorem ok_along {f : Addr} {fd : FuncData} (F : Fun K "order_along" "order_along" sAlong f fd) (hm : mg "order_along" = some (.ref f)) (Bb : Bt mg) : DAlong P w K mg base f fd := by
  refine ⟨?_, hm, F.kp, F.binds fun _ _ _ _ _ _ us hl => match us, hl with | [_, _], _ => rfl⟩
  refine F.ok scAlong (fun vs H Q E h => ?_) (fun cdv A outer s H vs Q E hr h => ?_)
  · obtain ⟨n, lb, bv, B, rfl, _⟩ := h
    rfl
  · obtain ⟨n, lb, bv, B, rfl, sb, ba1, hBlt, hn, hwl, q⟩ := h
    have nd := scAlong.nd
    refine ⟨_, pss_cons (ps_set (i := 2) nd rfl (Or.inr rfl) (pe_op op_rep (pe_lst (pa_cons pe_int pa_nil)) (pv 0))) <|
      pss_cons (ps_for PassesOwn.never rfl (pi_list (pv 1)) (pg_tup rfl (pgs_cons (pg_name (i := 3) nd rfl (Or.inl rfl)) (pgs_cons (pg_name (i := 4) nd rfl (Or.inl rfl)) pgs_nil)))
        (pss_one (ps_augS (pv 2) (pv 4) get_list pe_int ip_add set_list))) <|
      pss_cons (ps_setLc (i := 5) (own := [("place", 7)]) (g := gName 7) (tt := tTest (tOp rEq (tOp (rIxL K) (tVar 2) (tVar 7)) (tC (.int 0)))) (te := tVar 7) rfl nd rfl rfl (sw_true rfl rfl rfl (by decide +kernel))
          (pi_range1 (by rfl) Bb.range (pa_cons (pv 0) pa_nil)) (blkOk_by (N := nAlong) (sc := defScope sAlong) (own := [("place", 7)]) (by decide +kernel)) (fun _ _ _ _ _ => pg_name (i := 7) nd rfl (Or.inl rfl))
          (fun _ _ _ _ _ => pts_one (pt_cmpR op_eq (pe_ix ix_list (pv 2) (pv 7) (fun _ _ => rfl)) pe_int (nomark _))) (fun _ _ _ _ _ => pv 7)) <|
      pss_cons (ps_set (i := 6) nd rfl (Or.inl rfl) pe_int) <|
      pss_cons (ps_while PassesOwn.never (pt_cmpR op_lt (pv 6) (pe_callB call_len_seq (by rfl) Bb.len PySem.boot_len (pa_cons (pv 5) pa_nil)) (nomark _)) <|
        pss_cons (ps_for PassesOwn.never rfl (pi_list (pv 1)) (pg_tup rfl (pgs_cons (pg_name (i := 3) nd rfl (Or.inl rfl)) (pgs_cons (pg_name (i := 4) nd rfl (Or.inl rfl)) pgs_nil))) <|
          pss_one <| ps_if (pt_cmpR op_eq (pv 3) (pe_ix ix_list (pv 5) (pv 6) (fun _ _ => rfl)) (nomark _))
            (pss_cons (ps_augS (pv 2) (pv 4) get_list pe_int ip_sub set_list) <| pss_one <| ps_if (pt_cmpR op_eq (pe_ix ix_list (pv 2) (pv 4) (fun _ _ => rfl)) pe_int (nomark _))
              (pss_one (ps_expr (pe_bm PySem.F.plainAttrs_list PySem.F.slot_list_append PySem.F.type_list_append mt_append (pv 5) (pa_cons (pv 4) pa_nil)))) pss_nil) pss_nil) <|
        pss_one <| ps_aug (i := 6) nd rfl (Or.inl rfl) pe_int ip_add) <|
      pss_one <| ps_ret (pv 5), ?_⟩
    have hbl : bv.length ≤ 1000 := by
      rw [ba1.1]
      omega
    -- missing = [0] * many_gates
    refine ⟨(by show 1 ≤ sizeLine; decide), fun l0 hl0 => ?_⟩
    have sm2 : Same H (upd H l0 (.lst [.int 0])) := same_new hl0
    refine ⟨_, rfl, l0, _, _, rfl, rfl, upd_same, by omega, by omega, ?_, fun lm hlm => ?_⟩
    · show 1 * _ ≤ sizeLine
      have : 1 * ((n : Int)).toNat ≤ 1000 := by omega
      exact Nat.le_of_lt (small1000 this)
    rw [Int.toNat_natCast, fnL_zero n (mis (B.take 0) []) (fun e => by simp [mis])]
    have sm3 : Same H (upd (upd H l0 (.lst [.int 0])) lm (.lst (fnL n (mis (B.take 0) [])))) := sm2.trans (same_new hlm)
    have hm1 : H lm = none := sm2.free hlm
    -- for start, end in bare: missing[end] += 1
    refine ⟨_, rfl, lb, rfl, ⟨_, sm3.seq sb⟩, for_list (K := K) (a := lb) (xs := bv) (fun i σ H4 => ∃ s4 s5 : Option V, σ = [some (.int (n : Nat)), some (.ref lb), some (.ref lm), s4, s5, none, none, none] ∧
        H4 lm = some (.lst (fnL n (mis (B.take i) []))) ∧ Same H H4) ⟨_, _, rfl, upd_same, sm3⟩ (fun i σ H4 _ ⟨_, _, _, _, sm⟩ => sm.seq sb) ?_ ?_⟩
    · rintro i x σ H4 hx ⟨s4, s5, rfl, hml, sm4⟩
      obtain ⟨b, hbb, a, rfl, sq⟩ := ba1.get hx
      have hlt := hBlt b (List.mem_of_getElem? hbb)
      refine ⟨a, _, rfl, (TK.same sm4).seq sq, rfl, _, _, rfl, _, _, rfl, rfl, ?_⟩
      refine ⟨_, rfl, _, rfl, lm, _, b.2, _, rfl, rfl, SqL.of hml, fnL_get hlt.2, _, _, rfl, rfl, lm, _, _, b.2, rfl, rfl, hml, Evl.ixN_nat (by rw [fnL_len]; exact hlt.2), ?_⟩
      refine ⟨_, _, rfl, ?_, same_mut sm4 hm1⟩
      rw [upd_same]
      refine congrArg (fun z => some (HO.lst z)) (fnL_set hlt.2 ?_ ?_)
      · rw [mis_take hbb, if_pos rfl]
        show ((mis (B.take i) [] b.2 + 1 : Nat) : Int) = ((mis (B.take i) [] b.2 : Nat) : Int) + 1
        omega
      · intro j hj
        rw [mis_take hbb, if_neg (fun z => hj z.symm)]
        rfl
    · rintro σ H4 ⟨s4, s5, rfl, hml, sm4⟩
      rw [ba1.1, List.take_length] at hml
      -- placed = [gate for gate in range(many_gates) if missing[gate] == 0]
      refine ⟨_, rfl, _, rfl, by omega, by omega, fun lp hlp => ?_⟩
      refine lc_range (lo := 0) (n := ((n : Int)).toNat) (fun i Hc => Hc lp = some (.lst (((List.range i).filter fun e => mis B [] e == 0).map fun i => V.int (i : Nat))) ∧ Same H4 Hc) ⟨upd_same, same_new hlp⟩ ?_ ?_
      · rintro i Hc hi ⟨hc, sm⟩
        have hi' : i < n := by omega
        have hlen : (((List.range i).filter fun e => mis B [] e == 0).map fun i => V.int (i : Nat)).length ≤ 1000 := by
          rw [List.length_map]
          have := List.length_filter_le (fun e => mis B [] e == 0) (List.range i)
          rw [List.length_range] at this
          omega
        have e0 : (0 : Int) + (i : Int) = (i : Int) := Int.zero_add _
        rw [e0]
        refine ⟨rfl, ?_⟩
        refine ⟨_, rfl, _, rfl, lm, _, _, _, rfl, rfl, SqL.of (sm _ _ hml), atI_nat (fnL_get hi'), rfl, _, rfl, ite2 (fun e => ?_) (fun e => ?_)⟩
        · have hz : mis B [] i = 0 := by
            have := V.int.inj (of_decide_eq_true e)
            omega
          refine ⟨_, rfl, _, hc, Nat.lt_of_le_of_lt hlen (small1000 (Nat.le_refl _)), ?_, same_mut sm hlp⟩
          rw [upd_same, List.range_succ, List.filter_append, List.map_append, List.filter_cons, if_pos (by rw [hz]; rfl)]
          rfl
        · have hz : ¬ (mis B [] i == 0) = true := fun z => by
            apply e
            rw [beq_iff_eq] at z
            rw [z]
            rfl
          refine ⟨?_, sm⟩
          rw [List.range_succ, List.filter_append, List.filter_cons, if_neg hz, List.filter_nil, List.append_nil]
          exact hc
      · rintro H5 ⟨hp5, sm5⟩
        rw [Int.toNat_natCast] at hp5
        have k0 : KI B n ((List.range n).filter fun e => mis B [] e == 0) 0 := by
          refine ⟨List.nodup_range.sublist List.filter_sublist, fun e he => List.mem_range.mp (List.mem_filter.mp he).1, Nat.zero_le _, fun e he => ?_, fun j e hj b hb hbe => ?_⟩
          · rw [List.mem_filter, List.take_zero]
            simp [he]
          · have hm0 := (List.mem_filter.mp (List.mem_of_getElem? hj)).2
            rw [beq_iff_eq] at hm0
            have := mis_zero hm0 hb hbe
            simp at this
        -- the while
        have hp0 : H lp = none := sm4.free hlp
        refine ⟨fun m σ H6 => ∃ (placed : List Nat) (d : Nat) (s4 s5 : Option V), σ = [some (.int (n : Nat)), some (.ref lb), some (.ref lm), s4, s5, some (.ref lp), some (.int (d : Nat)), none] ∧
          KI B n placed d ∧ H6 lp = some (.lst (placed.map fun i => V.int (i : Nat))) ∧ H6 lm = some (.lst (fnL n (mis B (placed.take d)))) ∧ Same H H6 ∧ m = n - d, ?_, ?_⟩
        · have h5m := sm5 _ _ hml
          have e0 : mis B [] = mis B (((List.range n).filter fun e => mis B [] e == 0).take 0) := by rw [List.take_zero]
          rw [e0] at h5m
          exact ⟨n, _, 0, _, _, rfl, k0, hp5, h5m, sm4.trans sm5, rfl⟩
        · rintro m σ H6 ⟨placed, d, s4, s5, rfl, ki, hp6, hm6, sm6, rfl⟩
          have hp1 : H lp = none := sm4.free hlp
          have npm : lp ≠ lm := fun z => by
            rw [z, hml] at hlp
            cases hlp
          refine ⟨_, rfl, _, rfl, lp, _, rfl, .inl (SqL.of hp6), _, _, rfl, rfl, _, rfl, ite2 (fun e => ?_) (fun e => ?_)⟩
          · have hd : d < placed.length := by
              have e' : (d : Int) < ((placed.map fun i => V.int (i : Nat)).length : Int) := of_decide_eq_true e
              rw [List.length_map] at e'
              omega
            have hpl : ∀ placed : List Nat, placed.Nodup → (∀ e ∈ placed, e < n) → placed.length ≤ n := fun l hnd hlt => by
              have h1 : l.length = (l.filter fun e => decide (e < n)).length := by
                rw [List.filter_eq_self.mpr]
                intro a ha
                exact decide_eq_true (hlt a ha)
              have h2 := List.Nodup.length_le_of_subset hnd (l₂ := List.range n) (fun a ha => List.mem_range.mpr (hlt a ha))
              rw [List.length_range] at h2
              exact h2
            have hdn := hpl placed ki.nd ki.lt
            have hg : placed[d]? = some placed[d] := List.getElem?_eq_getElem hd
            refine ⟨fun σ H7 => ∃ (placed : List Nat) (s4 s5 : Option V), σ = [some (.int (n : Nat)), some (.ref lb), some (.ref lm), s4, s5, some (.ref lp), some (.int ((d : Nat) + 1)), none] ∧
              KI B n placed (d + 1) ∧ H7 lp = some (.lst (placed.map fun i => V.int (i : Nat))) ∧ H7 lm = some (.lst (fnL n (mis B (placed.take (d + 1))))) ∧ Same H H7, ?_, ?_⟩
            · rintro σ' H' ⟨placed', t4, t5, rfl, ki', hp', hm', sm'⟩
              exact ⟨n - (d + 1), by omega, placed', d + 1, t4, t5, rfl, ki', hp', hm', sm', rfl⟩
            · have e1 : mis B (placed.take d) = fun e => mis B (placed.take (d + 1)) e + frm (B.drop 0) placed[d] e := funext fun e => by
                rw [take_add hg, List.drop_zero]
                exact mis_split (nodup_take ki.nd hg) e
              rw [e1] at hm6
              generalize placed[d] = g at hg hm6
              refine ⟨_, rfl, lb, rfl, ⟨_, sm6.seq sb⟩, for_list (K := K) (a := lb) (xs := bv) (fun j σ H7 => ∃ (placed : List Nat) (s4 s5 : Option V), σ = [some (.int (n : Nat)), some (.ref lb), some (.ref lm), s4, s5, some (.ref lp), some (.int (d : Nat)), none] ∧
                  KJ B n placed d g j ∧ H7 lp = some (.lst (placed.map fun i => V.int (i : Nat))) ∧ H7 lm = some (.lst (fnL n fun e => mis B (placed.take (d + 1)) e + frm (B.drop j) g e)) ∧ Same H H7)
                ⟨placed, _, _, rfl, ki.go hg, hp6, hm6, sm6⟩ (fun i σ H4 _ ⟨_, _, _, _, _, _, _, sm⟩ => sm.seq sb) ?_ ?_⟩
              · rintro j x σ H7 hx ⟨placed, s4, s5, rfl, kj, hp7, hm7, sm7⟩
                obtain ⟨b, hbb, a, rfl, sq⟩ := ba1.get hx
                have hlt := hBlt b (List.mem_of_getElem? hbb)
                refine ⟨a, _, rfl, (TK.same sm7).seq sq, rfl, _, _, rfl, _, _, rfl, rfl, ?_⟩
                refine ⟨_, rfl, _, rfl, _, rfl, lp, _, _, _, rfl, rfl, SqL.of hp7, atI_nat (j := d) (by rw [List.getElem?_map, kj.at_]; rfl), rfl, _, rfl, ite2 (fun e => ?_) (fun e => ?_)⟩
                · have hbg : b.1 = g := by
                    have := V.int.inj (of_decide_eq_true e)
                    omega
                  have hfd : ∀ e, frm (B.drop j) g e = frm (B.drop (j + 1)) g e + if b.1 = g ∧ b.2 = e then 1 else 0 := fun e => frm_drop hbb g e
                  refine ⟨_, rfl, _, rfl, lm, _, b.2, _, rfl, rfl, SqL.of hm7, fnL_get hlt.2, _, _, rfl, rfl, lm, _, _, b.2, rfl, rfl, hm7, Evl.ixN_nat (by rw [fnL_len]; exact hlt.2), ?_⟩
                  have e2 : (fnL n fun e => mis B (placed.take (d + 1)) e + frm (B.drop j) g e).set b.2 (V.int (((mis B (placed.take (d + 1)) b.2 + frm (B.drop j) g b.2 : Nat) : Int) - 1)) = fnL n fun e => mis B (placed.take (d + 1)) e + frm (B.drop (j + 1)) g e := by
                    refine fnL_set hlt.2 ?_ ?_
                    · rw [hfd, if_pos ⟨hbg, rfl⟩]
                      omega
                    · intro i hi
                      rw [hfd, if_neg (fun z => hi z.2.symm)]
                      rfl
                  have hm8 : (upd H7 lm (.lst (fnL n fun e => mis B (placed.take (d + 1)) e + frm (B.drop (j + 1)) g e))) lm = some (.lst (fnL n fun e => mis B (placed.take (d + 1)) e + frm (B.drop (j + 1)) g e)) := upd_same
                  rw [← e2] at hm8
                  have hp8 : (upd H7 lm (.lst ((fnL n fun e => mis B (placed.take (d + 1)) e + frm (B.drop j) g e).set b.2 (V.int (((mis B (placed.take (d + 1)) b.2 + frm (B.drop j) g b.2 : Nat) : Int) - 1))))) lp = some (.lst (placed.map fun i => V.int (i : Nat))) := by
                    rw [upd_ne npm]
                    exact hp7
                  have sm8 := same_mut (p := lm) (o := .lst ((fnL n fun e => mis B (placed.take (d + 1)) e + frm (B.drop j) g e).set b.2 (V.int (((mis B (placed.take (d + 1)) b.2 + frm (B.drop j) g b.2 : Nat) : Int) - 1)))) sm7 hm1
                  have hg8 : ((fnL n fun e => mis B (placed.take (d + 1)) e + frm (B.drop j) g e).set b.2 (V.int (((mis B (placed.take (d + 1)) b.2 + frm (B.drop j) g b.2 : Nat) : Int) - 1)))[b.2]? = some (V.int ((mis B (placed.take (d + 1)) b.2 + frm (B.drop (j + 1)) g b.2 : Nat) : Int)) := by
                    rw [e2]
                    exact fnL_get hlt.2
                  have hm9 := hm8
                  rw [e2] at hm9
                  refine ⟨_, rfl, _, rfl, lm, _, _, _, rfl, rfl, SqL.of upd_same, atI_nat hg8, rfl, _, rfl, ite2 (fun e3 => ?_) (fun e3 => ?_)⟩
                  · have hz : mis B (placed.take (d + 1)) b.2 + frm (B.drop (j + 1)) g b.2 = 0 := by
                      have := V.int.inj (of_decide_eq_true e3)
                      omega
                    have hlp1 := hpl placed kj.nd kj.lt
                    have hdl : d < placed.length := (List.getElem?_eq_some_iff.mp kj.at_).1
                    refine ⟨_, rfl, .inl ⟨rfl, _, SqL.of hp8⟩, _, rfl, lp, _, _, rfl, rfl, hp8, by rw [List.length_map]; exact small1000 (by omega), ?_⟩
                    refine ⟨placed ++ [b.2], _, _, rfl, kj.put hbb hbg hlt.2 hz, ?_, ?_, same_mut sm8 hp1⟩
                    · rw [upd_same, List.map_append]
                      rfl
                    · rw [upd_ne npm.symm, List.take_append_of_le_length (by omega), ← e2]
                      exact upd_same
                  · have hz : mis B (placed.take (d + 1)) b.2 + frm (B.drop (j + 1)) g b.2 ≠ 0 := fun z => by
                      apply e3
                      rw [z]
                      rfl
                    refine ⟨placed, _, _, rfl, kj.not hbb hbg hz, hp8, ?_, sm8⟩
                    rw [← e2]
                    exact upd_same
                · have hbg : b.1 ≠ g := fun z => by
                    apply e
                    rw [z]
                    exact decide_eq_true rfl
                  refine ⟨placed, _, _, rfl, kj.skip hbb hbg, hp7, ?_, sm7⟩
                  have : (fun e => mis B (placed.take (d + 1)) e + frm (B.drop (j + 1)) g e) = fun e => mis B (placed.take (d + 1)) e + frm (B.drop j) g e := funext fun e => by
                    rw [frm_drop hbb, if_neg (fun z => hbg z.1)]
                    rfl
                  rw [this]
                  exact hm7
              · rintro σ H7 ⟨placed, s4, s5, rfl, kj, hp7, hm7, sm7⟩
                rw [ba1.1] at kj hm7
                refine ⟨_, rfl, _, _, rfl, rfl, placed, _, _, rfl, kj.done, hp7, ?_, sm7⟩
                rw [List.drop_length] at hm7
                exact hm7
          · have hd : d = placed.length := by
              have e' : ¬ (d : Int) < ((placed.map fun i => V.int (i : Nat)).length : Int) := fun z => e (decide_eq_true z)
              rw [List.length_map] at e'
              have := ki.le
              omega
            subst hd
            exact ⟨_, rfl, q placed lp H6 ki sm6 hp0 hp6⟩
abbrev DOrder (P : Program) (w : World) (K : PySem.W.Frag) (mg : Str → Option Value) (base : Heap) := Df P w K mg base 2 "bare_order" ["many_gates", "wires"] (spOrder K)
theorem ok_order {f fA : Addr} {fd fdA : FuncData} (F : Fun K "bare_order" "bare_order" sOrder f fd) (hm : mg "bare_order" = some (.ref f)) (B : Bt mg) (DA : DAlong P w K mg base fA fdA) : DOrder P w K mg base f fd := by
  refine ⟨?_, hm, F.kp, F.binds fun _ _ _ _ _ _ us hl => match us, hl with | [_, _], _ => rfl⟩
  refine F.ok scOrder (fun vs H Q E h => ?_) (fun cdv A outer s H vs Q E hr h => ?_)
  · obtain ⟨n, lw, ws, rfl, _⟩ := h
    rfl
  · obtain ⟨n, lw, ws, rfl, ⟨wv, sw, wa⟩, hws, hn, hwl, q⟩ := h
    have nd := scOrder.nd
    refine ⟨_, pss_one <| ps_ret <| pe_call DA.ok hr (by rfl) DA.mg DA.kp DA.bd .nil pass0 <| pa_cons (pv 0) <| (pa_cons · pa_nil) <|
      pe_lc (own := [("start", 2), ("end", 3), ("held", 4)]) (g := gTup K 3 (gCons (gName 2) (gCons (gName 3) (gCons (gName 4) gNil)))) (tt := tTest (tOp rEq (tCB (Evl.rLenS K) (tCons (tVar 4) tNil)) (tC (.int 0)))) (te := tTup (tCons (tVar 2) (tCons (tVar 3) tNil))) rfl nd
        (pi_list (pv 1)) (blkOk_by (N := nOrder) (sc := defScope sOrder) (own := [("start", 2), ("end", 3), ("held", 4)]) (by decide +kernel))
        (fun _ _ _ _ _ => pg_tup rfl (pgs_cons (pg_name (i := 2) nd rfl (Or.inl rfl)) (pgs_cons (pg_name (i := 3) nd rfl (Or.inl rfl)) (pgs_cons (pg_name (i := 4) nd rfl (Or.inl rfl)) pgs_nil))))
        (fun _ _ _ _ _ => pts_one (pt_cmpR op_eq (pe_callB call_len_seq (by rfl) B.len PySem.boot_len (pa_cons (pv 4) pa_nil)) pe_int (nomark _)))
        (fun _ _ _ _ _ => pe_tup (pa_cons (pv 2) (pa_cons (pv 3) pa_nil))), ?_⟩
    have hlw : wv.length = ws.length := wa.1
    -- bare = [..]
    refine ⟨_, rfl, _, rfl, lw, rfl, ⟨_, sw⟩, fun lb hlb => ?_⟩
    refine lc_list (K := K) (a := lw) (xs := wv) (fun i Hc => ∃ bv, Hc lb = some (.lst bv) ∧ All2 (PairV K Hc) bv (bare (ws.take i)) ∧ Same H Hc) ⟨[], upd_same, by simpa [bare] using All2.nil, same_new hlb⟩ (fun i Hc _ ⟨_, _, _, sm⟩ => sm.seq sw) ?_ ?_
    · rintro i x Hc hx ⟨bv, hb, ba, sm⟩
      obtain ⟨y, hy, a, b, rfl, sq1, sq2⟩ := wa.get hx
      have hyi : i < ws.length := (List.getElem?_eq_some_iff.mp hy).1
      have t := TK.same sm
      have hbl : bv.length ≤ 1000 := by
        rw [ba.1]
        have := bare_len (ws.take i)
        rw [List.length_take] at this
        omega
      refine ⟨a, _, rfl, t.seq sq1, rfl, _, _, rfl, _, _, rfl, _, _, rfl, rfl, rfl, ?_⟩
      refine ⟨_, rfl, b, _, rfl, .inr (t.seq sq2), rfl, _, rfl, ite2 (fun e => ?_) (fun e => ?_)⟩
      · have he : y.2.2.isEmpty = true := by
          have e' : (((y.2.2.map V.int).length : Nat) : Int) = 0 := V.int.inj (of_decide_eq_true e)
          rw [List.length_map] at e'
          rw [List.isEmpty_iff, ← List.length_eq_zero_iff]
          omega
        refine ⟨_, rfl, _, rfl, (by show 2 ≤ sizeLine; decide), fun p hp => ?_⟩
        have smp : Same Hc (upd Hc p (.tup [.int (y.1 : Nat), .int (y.2.1 : Nat)])) := same_new hp
        have npb : p ≠ lb := fun z => by
          rw [z, hb] at hp
          cases hp
        have t2 : TK Hc (upd (upd Hc p (.tup [.int (y.1 : Nat), .int (y.2.1 : Nat)])) lb (.lst (bv ++ [.ref p]))) := (TK.new hp).trans (TK.lst (smp _ _ hb))
        refine ⟨bv, smp _ _ hb, Nat.lt_of_le_of_lt hbl (small1000 (Nat.le_refl _)), bv ++ [.ref p], upd_same, ?_, same_mut (sm.trans smp) hlb⟩
        rw [bare_take hy, if_pos he]
        exact (ba.imp fun _ _ r => r.tk t2).snoc ⟨p, rfl, .inl (.inl (by rw [upd_ne npb]; exact upd_same))⟩
      · have he : ¬ y.2.2.isEmpty = true := fun z => by
          apply e
          rw [List.isEmpty_iff] at z
          rw [z]
          rfl
        exact ⟨bv, hb, by rw [bare_take hy, if_neg he]; exact ba, sm⟩
    · rintro H1 ⟨bv, hb1, ba1, sm1⟩
      rw [hlw, List.take_length] at ba1
      have hbl : bv.length ≤ 1000 := by
        rw [ba1.1]
        have := bare_len ws
        omega
      have hBlt : ∀ b ∈ bare ws, b.1 < n ∧ b.2 < n := by
        intro b hb
        obtain ⟨x, hx, rfl⟩ := List.mem_map.mp hb
        rw [List.mem_filter] at hx
        exact hws x hx.1
      exact ⟨n, lb, bv, bare ws, rfl, SqL.of hb1, ba1, hBlt, hn, by have := bare_len ws; omega, fun ord p H2 ki s2 hp h2 => q ord p H2 ki (sm1.trans s2) (sm1.free hp) h2⟩
end
end Lag

set_option maxRecDepth 100000
set_option maxHeartbeats 4000000
namespace Lag
open PySem PySem.Spec PyProof.Rows L2
abbrev sChkRings : Stmt := topS 27
abbrev sInit : Stmt := inClass (topS 20) 0
abbrev sEq : Stmt := inClass (topS 20) 1
abbrev sIns : Stmt := inClass (topS 20) 2
abbrev sOuts : Stmt := inClass (topS 20) 3
abbrev sPlaces : Stmt := topS 21
def spChkRings (K : PySem.W.Frag) : Sp := fun vs H Q _ => ∃ (n : Nat) (lw : Addr) (ws : List Wr), vs = [.int (n : Nat), .ref lw] ∧ RW K H lw ws ∧ (∀ x ∈ ws, x.1 < n ∧ x.2.1 < n) ∧ n ≤ 1000 ∧ ws.length ≤ 1000 ∧
  (∃ ρ : Nat → Nat, ∀ x ∈ ws, x.2.2 = [] → ρ x.1 < ρ x.2.1) ∧ ∀ H', Same H H' → Q .non H'
/-! ### a net's object -/
def nf (lg lw : Addr) : List (Str × V) := putF "wires" (.ref lw) (putF "gates" (.ref lg) [])
theorem gw_ne : ¬ (("gates" : Str) = "wires") := by decide +kernel
theorem nf_eq (lg lw : Addr) : nf lg lw = ([("gates", V.ref lg), ("wires", V.ref lw)] : List (Str × V)) := by
  show (if ("gates" : Str) = "wires" then [(("gates" : Str), V.ref lw)] else (("gates" : Str), V.ref lg) :: putF "wires" (V.ref lw) []) = ([("gates", V.ref lg), ("wires", V.ref lw)] : List (Str × V))
  rw [if_neg gw_ne]
  all_goals rfl
theorem nf_gates (lg lw : Addr) : (nf lg lw).lookup ("gates" : Str) = some (.ref lg) := by
  unfold nf
  rw [lookup_putF, if_neg gw_ne, lookup_putF, if_pos rfl]
theorem nf_wires (lg lw : Addr) : (nf lg lw).lookup ("wires" : Str) = some (.ref lw) := by
  unfold nf
  rw [lookup_putF, if_pos rfl]
theorem nf_no (lg lw : Addr) {m : Str} (h1 : ¬ m = "wires") (h2 : ¬ m = "gates") : (nf lg lw).lookup m = none := by
  unfold nf
  rw [lookup_putF, if_neg h1, lookup_putF, if_neg h2]
  all_goals rfl
/-- the class as the top has made it -/
structure NT (K : PySem.W.Frag) (mg : Str → Option Value) (C : Addr) : Prop where
  cl : Cls K C
  nG : NoAttr K C "gates"
  nW : NoAttr K C "wires"
  mg : mg "Net" = some (.ref C)
/-- a net at p: its own lists at lg, lw -/
structure NetAt (K : PySem.W.Frag) (C : Addr) (H : Hp) (p lg lw : Addr) (gs : List Gt) (ws : List Wr) : Prop where
  ob : ∃ dx, H p = some (.ins C dx (nf lg lw))
  g : LG K H lg gs
  w : LW K H lw ws
  ne : lg ≠ lw
theorem LG.same {K : PySem.W.Frag} {H H' : Hp} {l : Addr} {gs : List Gt} (h : LG K H l gs) (s : Same H H') : LG K H' l gs := by
  obtain ⟨vs, q, a⟩ := h
  exact ⟨vs, s _ _ q, a.imp fun _ _ r => r.tk (TK.same s)⟩
theorem LW.same {K : PySem.W.Frag} {H H' : Hp} {l : Addr} {ws : List Wr} (h : LW K H l ws) (s : Same H H') : LW K H' l ws := by
  obtain ⟨vs, q, a⟩ := h
  exact ⟨vs, s _ _ q, a.imp fun _ _ r => r.tk (TK.same s)⟩
theorem LG.rg {K : PySem.W.Frag} {H : Hp} {l : Addr} {gs : List Gt} (h : LG K H l gs) : RG K H l gs := by
  obtain ⟨vs, q, a⟩ := h
  exact ⟨vs, SqL.of q, a⟩
theorem LW.rw {K : PySem.W.Frag} {H : Hp} {l : Addr} {ws : List Wr} (h : LW K H l ws) : RW K H l ws := by
  obtain ⟨vs, q, a⟩ := h
  exact ⟨vs, SqL.of q, a⟩
theorem NetAt.same {K : PySem.W.Frag} {C : Addr} {H H' : Hp} {p lg lw : Addr} {gs : List Gt} {ws : List Wr} (n : NetAt K C H p lg lw gs ws) (s : Same H H') : NetAt K C H' p lg lw gs ws := by
  obtain ⟨dx, h⟩ := n.ob
  exact ⟨⟨dx, s _ _ h⟩, n.g.same s, n.w.same s, n.ne⟩
def spInit (K : PySem.W.Frag) (C : Addr) : Sp := fun vs H Q _ => ∃ (p dx lg lw : Addr) (gs : List Gt) (ws : List Wr), vs = [.ref p, .ref lg, .ref lw] ∧ H p = some (.ins C dx []) ∧ RG K H lg gs ∧ RW K H lw ws ∧ NetOk gs ws ∧
  ∀ (H' : Hp) (lg' lw' : Addr), NetAt K C H' p lg' lw' gs ws → H lg' = none → H lw' = none → (∀ b o, H b = some o → b ≠ p → H' b = some o) → Q .non H'
/-- the places of a kind, rising -/
def plc (gs : List Gt) (k : Str) (n : Nat) : List Nat := (List.range n).filter fun i => decide (kindAt gs i = k)
def spPlaces (K : PySem.W.Frag) : Sp := fun vs H Q _ => ∃ (k : Str) (lg : Addr) (gs : List Gt), vs = [.str k, .ref lg] ∧ RG K H lg gs ∧ gs.length ≤ 1000 ∧
  ∀ p H', H p = none → Same H H' → H' p = some (.lst ((plc gs k gs.length).map fun i => V.int (i : Nat))) → Q (.ref p) H'
def spPorts (K : PySem.W.Frag) (C : Addr) (k : Str) : Sp := fun vs H Q _ => ∃ (p lg lw : Addr) (gs : List Gt) (ws : List Wr), vs = [.ref p] ∧ NetAt K C H p lg lw gs ws ∧ gs.length ≤ 1000 ∧
  ∀ l H', H l = none → Same H H' → H' l = some (.lst ((plc gs k gs.length).map fun i => V.int (i : Nat))) → Q (.ref l) H'
section
variable {P : Program} {w : World} {K : PySem.W.Frag} {mg : Str → Option Value} {base : Heap}
theorem scChkRings : FnScope ["many_gates", "wires", "placed"] ["many_gates", "wires"] (defScope sChkRings) := ⟨rfl, rfl, rfl, by decide +kernel, rfl, by decide +kernel, by decide +kernel⟩
abbrev DChkRings (P : Program) (w : World) (K : PySem.W.Frag) (mg : Str → Option Value) (base : Heap) := Df P w K mg base 3 "check_rings" ["many_gates", "wires"] (spChkRings K)
theorem ok_chkRings {f fO : Addr} {fd fdO : FuncData} (F : Fun K "check_rings" "check_rings" sChkRings f fd) (hm : mg "check_rings" = some (.ref f)) (B : Bt mg) (DO : DOrder P w K mg base fO fdO) : DChkRings P w K mg base f fd := by
  refine ⟨?_, hm, F.kp, F.binds fun _ _ _ _ _ _ us hl => match us, hl with | [_, _], _ => rfl⟩
  refine F.ok scChkRings (fun vs H Q E h => ?_) (fun cdv A outer s H vs Q E hr h => ?_)
  · obtain ⟨n, lw, ws, rfl, _⟩ := h
    rfl
  · obtain ⟨n, lw, ws, rfl, R, hws, hn, hwl, rk, q⟩ := h
    have nd := scChkRings.nd
    refine ⟨_, pss_cons (ps_set (i := 2) nd rfl (Or.inl rfl) (pe_call DO.ok hr (by rfl) DO.mg DO.kp DO.bd .nil pass0 (pa_cons (pv 0) (pa_cons (pv 1) pa_nil)))) <|
      pss_one <| ps_if (pt_cmpR op_lt (pe_callB call_len_seq (by rfl) B.len PySem.boot_len (pa_cons (pv 2) pa_nil)) (pv 0) (nomark _)) (pss_one ps_never) pss_nil, ?_⟩
    refine ⟨_, rfl, _, rfl, n, lw, ws, rfl, R, hws, hn, hwl, fun ord p H1 ho sm hp h1 => ?_⟩
    have hpl : ord.length = n := by rw [(ho.full hws rk).length_eq, List.length_range]
    refine ⟨_, rfl, p, _, rfl, .inl (SqL.of h1), _, rfl, _, _, rfl, rfl, false, ?_, iteF (q H1 sm)⟩
    show V.bl (decide (((ord.map fun i => V.int (i : Nat)).length : Int) < (n : Int))) = V.bl false
    rw [decide_eq_false]
    rw [List.length_map, hpl]
    omega
theorem scInit : FnScope ["self", "gates", "wires"] ["self", "gates", "wires"] (defScope sInit) := ⟨rfl, rfl, rfl, by decide +kernel, rfl, by decide +kernel, by decide +kernel⟩
theorem ok_init {f fG fW fR C : Addr} {fd fdG fdW fdR : FuncData} (F : Fun K "__init__" "Net.__init__" sInit f fd) (T : NT K mg C) (B : Bt mg) (DG : DChkGates P w K mg base fG fdG) (DW : DChkWires P w K mg base fW fdW) (DR : DChkRings P w K mg base fR fdR) :
    FnOk P w K mg base CX0 6 f fd ["self", "gates", "wires"] (spInit K C) := by
  refine F.ok scInit (fun vs H Q E h => ?_) (fun cdv A outer s H vs Q E hr h => ?_)
  · obtain ⟨p, dx, lg, lw, gs, ws, rfl, _⟩ := h
    rfl
  · obtain ⟨p, dx, lg, lw, gs, ws, rfl, hp, RGs, RWs, N, q⟩ := h
    have hr4 : Room 4 _ := hr.mono (by decide)
    have hr2 : Room 3 _ := hr.mono (by decide)
    refine ⟨_, pss_cons (ps_expr (pe_call DG.ok hr4 (by rfl) DG.mg DG.kp DG.bd .nil pass0 (pa_cons (pv 1) pa_nil))) <|
      pss_cons (ps_expr (pe_call DW.ok hr (by rfl) DW.mg DW.kp DW.bd .nil pass0 (pa_cons (pv 1) (pa_cons (pv 2) pa_nil)))) <|
      pss_cons (ps_expr (pe_call DR.ok hr2 (by rfl) DR.mg DR.kp DR.bd .nil pass0 (pa_cons (pe_callB call_len_seq (by rfl) B.len PySem.boot_len (pa_cons (pv 1) pa_nil)) (pa_cons (pv 2) pa_nil)))) <|
      pss_cons (ps_fld (pv 0) (pe_callTy call_list_of (by rfl) B.list (by decide +kernel) (pa_cons (pv 1) pa_nil)) rfl) <|
      pss_one (ps_fld (pv 0) (pe_callTy call_list_of (by rfl) B.list (by decide +kernel) (pa_cons (pv 2) pa_nil)) rfl), ?_⟩
    refine ⟨_, rfl, lg, gs, rfl, RGs, N.ne, N.gok, fun H1 sm1 => ?_⟩
    refine ⟨_, rfl, _, rfl, lg, lw, gs, ws, rfl, RGs.same sm1, RWs.same sm1, N, fun H2 sm2 => ?_⟩
    have s2 := sm1.trans sm2
    obtain ⟨gv, sg, ga⟩ := RGs.same s2
    have hlg : gv.length = gs.length := ga.1
    refine ⟨_, rfl, lg, gv, rfl, .inl sg, _, rfl, gv.length, lw, ws, rfl, RWs.same s2, fun x hx => ?_, by have := N.gl; omega, N.wl, N.rank, fun H3 sm3 => ?_⟩
    · rw [hlg]
      exact ⟨(N.wok x hx).s, (N.wok x hx).e⟩
    have s3 := s2.trans sm3
    obtain ⟨gv3, sg3, ga3⟩ := RGs.same s3
    obtain ⟨wv3, sw3, wa3⟩ := RWs.same s3
    have hp3 := s3 _ _ hp
    refine ⟨_, rfl, lg, gv3, rfl, .inl sg3, fun l1 hl1 => ?_⟩
    have np1 : p ≠ l1 := ne_of_none hp3 hl1
    have sm4 : Same H3 (upd H3 l1 (.lst gv3)) := same_new hl1
    refine ⟨_, rfl, p, C, dx, [], rfl, sm4 _ _ hp3, T.cl, T.nG, (by show 0 < 1000; decide), ?_⟩
    have hw4 : SqL K (upd (upd H3 l1 (.lst gv3)) p (.ins C dx (putF "gates" (.ref l1) []))) lw wv3 := by
      rcases sm4.seq sw3 with (h | ⟨o, h⟩) | h
      · have n : lw ≠ p := fun z => by
          rw [z, sm4 _ _ hp3] at h
          cases h
        exact .inl (.inl (by rw [upd_ne n]; exact h))
      · have n : lw ≠ p := fun z => by
          rw [z, sm4 _ _ hp3] at h
          cases h
        exact .inl (.inr ⟨o, by rw [upd_ne n]; exact h⟩)
      · exact .inr h
    refine ⟨_, rfl, lw, wv3, rfl, .inl hw4, fun l2 hl2 => ?_⟩
    have np2 : p ≠ l2 := fun z => by
      rw [← z, upd_same] at hl2
      cases hl2
    have h11 : (upd (upd H3 l1 (.lst gv3)) p (.ins C dx (putF "gates" (.ref l1) []))) l1 = some (.lst gv3) := by
      rw [upd_ne np1.symm]
      exact upd_same
    have n12 : l1 ≠ l2 := ne_of_none h11 hl2
    have hl2' : H3 l2 = none := by
      rw [upd_ne np2.symm, upd_ne n12.symm] at hl2
      exact hl2
    refine ⟨_, rfl, p, C, dx, _, rfl, (by rw [upd_ne np2]; exact upd_same), T.cl, T.nW, (by show 1 < 1000; decide), ?_⟩
    have keep : ∀ b o, b ≠ p → H3 b = some o → (upd (upd (upd (upd H3 l1 (.lst gv3)) p (.ins C dx (putF "gates" (.ref l1) []))) l2 (.lst wv3)) p (.ins C dx (putF "wires" (.ref l2) (putF "gates" (.ref l1) [])))) b = some o := fun b o nb e => by
      rw [upd_ne nb, upd_ne (ne_of_none e hl2'), upd_ne nb, upd_ne (ne_of_none e hl1)]
      exact e
    have tk : TK H3 (upd (upd (upd (upd H3 l1 (.lst gv3)) p (.ins C dx (putF "gates" (.ref l1) []))) l2 (.lst wv3)) p (.ins C dx (putF "wires" (.ref l2) (putF "gates" (.ref l1) [])))) := fun b o t e => keep b o (fun z => by
      rw [z, hp3] at e
      cases e
      exact t) e
    refine q _ l1 l2 ⟨⟨dx, upd_same⟩, ⟨gv3, ?_, ga3.imp fun _ _ r => r.tk tk⟩, ⟨wv3, ?_, wa3.imp fun _ _ r => r.tk tk⟩, n12⟩ (s3.free hl1) (s3.free hl2') fun b o e nb => keep b o nb (s3 _ _ e)
    · rw [upd_ne np1.symm, upd_ne n12, upd_ne np1.symm]
      exact upd_same
    · rw [upd_ne np2.symm]
      exact upd_same
/-! ### places_of, ins, outs -/
abbrev nPlaces : List Str := ["kind", "gates", "number", "gate"]
theorem scPlaces : FnScope nPlaces ["kind", "gates"] (defScope sPlaces) := ⟨rfl, rfl, rfl, by decide +kernel, rfl, by decide +kernel, by decide +kernel⟩
abbrev DPlaces (P : Program) (w : World) (K : PySem.W.Frag) (mg : Str → Option Value) (base : Heap) := Df P w K mg base 1 "places_of" ["kind", "gates"] (spPlaces K)
theorem plc_succ {gs : List Gt} {k : Str} {i : Nat} : plc gs k (i + 1) = if kindAt gs i = k then plc gs k i ++ [i] else plc gs k i := by
  unfold plc
  rw [List.range_succ, List.filter_append, List.filter_cons]
  by_cases h : kindAt gs i = k
  · rw [if_pos h, if_pos (decide_eq_true h)]
    rfl
  · rw [if_neg h, if_neg (by simp [h]), List.filter_nil, List.append_nil]
theorem plc_len (gs : List Gt) (k : Str) (n : Nat) : (plc gs k n).length ≤ n := by
  unfold plc
  have := List.length_filter_le (fun i => decide (kindAt gs i = k)) (List.range n)
  rw [List.length_range] at this
  exact this
theorem ok_places {f : Addr} {fd : FuncData} (F : Fun K "places_of" "places_of" sPlaces f fd) (hm : mg "places_of" = some (.ref f)) (B : Bt mg) : DPlaces P w K mg base f fd := by
  refine ⟨?_, hm, F.kp, F.binds fun _ _ _ _ _ _ us hl => match us, hl with | [_, _], _ => rfl⟩
  refine F.ok scPlaces (fun vs H Q E h => ?_) (fun cdv A outer s H vs Q E hr h => ?_)
  · obtain ⟨k, lg, gs, rfl, _⟩ := h
    rfl
  · obtain ⟨k, lg, gs, rfl, ⟨gv, sg, ga⟩, hl, q⟩ := h
    have nd := scPlaces.nd
    refine ⟨_, pss_one <| ps_ret <| pe_lc (own := [("number", 2), ("gate", 3)]) (g := gTup K 2 (gCons (gName 2) (gCons (gName 3) gNil))) (tt := tTest (tOp rEq (tOp (rIxT K) (tVar 3) (tC (.int 0))) (tVar 0))) (te := tVar 2) rfl nd
      (pi_enum (by rfl) B.enum (pa_cons (pv 1) pa_nil)) (blkOk_by (N := nPlaces) (sc := defScope sPlaces) (own := [("number", 2), ("gate", 3)]) (by decide +kernel))
      (fun _ _ _ _ _ => pg_tup rfl (pgs_cons (pg_name (i := 2) nd rfl (Or.inl rfl)) (pgs_cons (pg_name (i := 3) nd rfl (Or.inl rfl)) pgs_nil)))
      (fun _ _ _ _ _ => pts_one (pt_cmpR op_eq (pe_ix ix_tup (pv 3) pe_int (fun _ _ => rfl)) (pv 0) (nomark _))) (fun _ _ _ _ _ => pv 2), ?_⟩
    have hlg : gv.length = gs.length := ga.1
    refine ⟨_, rfl, lg, gv, rfl, sg, fun D hD => ?_⟩
    refine lc_it (walk_enum (K := K) (a := lg) (xs := gv)) (fun i Hc => Hc D = some (.lst ((plc gs k i).map fun i => V.int (i : Nat))) ∧ Same H Hc) ⟨upd_same, same_new hD⟩ (fun i Hc _ ⟨_, sm⟩ => sm.seq sg) ?_ ?_
    · rintro i x Hc Hc' hi ⟨hc, sm⟩ ⟨T, x1, y, rfl, hT, rfl, ex, ey⟩
      cases ex
      obtain ⟨g, hg, a, rfl, sq⟩ := ga.get ey
      have smT : Same Hc (upd Hc T (.tup [.int (i : Nat), .ref a])) := same_new hT
      have hlen : ((plc gs k i).map fun i => V.int (i : Nat)).length ≤ 1000 := by
        rw [List.length_map]
        have := plc_len gs k i
        omega
      refine ⟨T, _, rfl, .inl (.inl upd_same), rfl, _, _, rfl, _, _, rfl, rfl, rfl, ?_⟩
      refine ⟨_, rfl, a, _, 0, _, rfl, rfl, (TK.same (sm.trans smT)).seq sq, atI_nat (j := 0) rfl, _, rfl, rfl, _, rfl, ite2 (fun e => ?_) (fun e => ?_)⟩
      · have hk : kindAt gs i = k := by
          rw [kindAt_get hg]
          exact V.str.inj (of_decide_eq_true e)
        refine ⟨_, rfl, _, smT _ _ hc, Nat.lt_of_le_of_lt hlen (small1000 (Nat.le_refl _)), ?_, same_mut (sm.trans smT) hD⟩
        rw [upd_same, plc_succ, if_pos hk, List.map_append]
        rfl
      · have hk : ¬ kindAt gs i = k := fun z => e (decide_eq_true (by rw [← z, kindAt_get hg]))
        refine ⟨?_, sm.trans smT⟩
        rw [plc_succ, if_neg hk]
        exact smT _ _ hc
    · rintro Hc ⟨hc, sm⟩
      rw [hlg] at hc
      exact q D Hc hD sm hc
theorem scIns : FnScope ["self"] ["self"] (defScope sIns) := ⟨rfl, rfl, rfl, by decide +kernel, rfl, by decide +kernel, by decide +kernel⟩
theorem ok_ins {f fP C : Addr} {fd fdP : FuncData} (F : Fun K "ins" "Net.ins" sIns f fd) (T : NT K mg C) (DP : DPlaces P w K mg base fP fdP) : FnOk P w K mg base CX0 2 f fd ["self"] (spPorts K C "in") := by
  refine F.ok scIns (fun vs H Q E h => ?_) (fun cdv A outer s H vs Q E hr h => ?_)
  · obtain ⟨p, lg, lw, gs, ws, rfl, _⟩ := h
    rfl
  · obtain ⟨p, lg, lw, gs, ws, rfl, N, hl, q⟩ := h
    obtain ⟨dx, hp⟩ := N.ob
    refine ⟨_, pss_one <| ps_ret <| pe_call DP.ok hr (by rfl) DP.mg DP.kp DP.bd .nil pass0 <| pa_cons pe_str <| pa_cons (pe_fld (pv 0) rfl) pa_nil, ?_⟩
    exact ⟨_, rfl, p, C, dx, _, _, rfl, hp, T.cl, T.nG, nf_gates _ _, "in", lg, gs, rfl, N.g.rg, hl, q⟩
theorem scOuts : FnScope ["self"] ["self"] (defScope sOuts) := ⟨rfl, rfl, rfl, by decide +kernel, rfl, by decide +kernel, by decide +kernel⟩
theorem ok_outs {f fP C : Addr} {fd fdP : FuncData} (F : Fun K "outs" "Net.outs" sOuts f fd) (T : NT K mg C) (DP : DPlaces P w K mg base fP fdP) : FnOk P w K mg base CX0 2 f fd ["self"] (spPorts K C "out") := by
  refine F.ok scOuts (fun vs H Q E h => ?_) (fun cdv A outer s H vs Q E hr h => ?_)
  · obtain ⟨p, lg, lw, gs, ws, rfl, _⟩ := h
    rfl
  · obtain ⟨p, lg, lw, gs, ws, rfl, N, hl, q⟩ := h
    obtain ⟨dx, hp⟩ := N.ob
    refine ⟨_, pss_one <| ps_ret <| pe_call DP.ok hr (by rfl) DP.mg DP.kp DP.bd .nil pass0 <| pa_cons pe_str <| pa_cons (pe_fld (pv 0) rfl) pa_nil, ?_⟩
    exact ⟨_, rfl, p, C, dx, _, _, rfl, hp, T.cl, T.nG, nf_gates _ _, "out", lg, gs, rfl, N.g.rg, hl, q⟩
end
end Lag

set_option maxRecDepth 100000
set_option maxHeartbeats 4000000
namespace Lag
open PySem PySem.Spec PyProof.Rows L2
/-! ### == and != by an own __eq__, whatever the other thing is -/
section
variable {X : Cx} {pins : List (Addr × Obj)} {σ : L2.St} {H : Hp} {s : Shared}
/-- what typeOf says -/
def TyL (X : Cx) (s : Shared) (v tb : Value) : Prop := PySem.W.Looks (model X.prog X.w) s.heap (typeOf v) tb
theorem ty_looks {y : V} {v tb : Value} (I : Inv X pins σ H s) (r : RelV y v) (t : TyOf X.K H y tb) : TyL X s v tb := by
  cases t with
  | non => cases r; exact .of_pure rfl
  | bl b => cases r; exact .of_pure rfl
  | int i => obtain ⟨t, rfl⟩ := r; exact .of_pure rfl
  | str x => obtain ⟨t, rfl⟩ := r; exact .of_pure rfl
  | flt x => obtain ⟨t, rfl⟩ := r; exact .of_pure rfl
  | @lst a xs ea =>
    cases r
    obtain ⟨_, _, n, _, h1⟩ := (show ObjOk X.prog X.w H s.heap a (.lst xs) from I.hok a _ ea)
    exact (PySem.W.Looks.ld h1).andThen .now
  | @frz a ob xs ea =>
    cases r
    obtain ⟨_, _, _, n, _, h1⟩ := (show ObjOk X.prog X.w H s.heap a (.frz ob (.lst xs)) from I.hok a _ ea)
    exact (PySem.W.Looks.ld h1).andThen .now
  | @tup a xs ea =>
    cases r
    obtain ⟨_, _, _, o, h1, h2, _⟩ := (show ObjOk X.prog X.w H s.heap a (.tup xs) from I.hok a _ ea)
    exact h2 ▸ (PySem.W.Looks.ld h1).andThen .now
  | @dK a kvs ea =>
    cases r
    obtain ⟨_, _, vs, _, o, es, ep, h1, h2, _⟩ := (show ObjOk X.prog X.w H s.heap a (.dK kvs) from I.hok a _ ea)
    exact h2.1 ▸ (PySem.W.Looks.ld h1).andThen .now
  | @dT a kvs ea =>
    cases r
    obtain ⟨_, _, xs, _, o, es, ep, h1, h2, _⟩ := (show ObjOk X.prog X.w H s.heap a (.dT kvs) from I.hok a _ ea)
    exact h2.1 ▸ (PySem.W.Looks.ld h1).andThen .now
  | @ins a C dx fs ea cl ha hn htk hm =>
    cases r
    obtain ⟨mA, O, _⟩ := ins_get I.hok ea
    obtain ⟨od, J, _⟩ := O.look
    exact J.type
/-- a call of a def from within -/
theorem call_own {n : Nat} {f : Addr} {fd : FuncData} {ps : List Str} {sp : Sp} {xs : List V} {us : List Value} {Q : VK} {A : Around} (F : FnOk X.prog X.w X.K X.mg X.base CX0 n f fd ps sp) (hb : Binds X.K fd ps []) (sb : Sub X n A) (I : Inv X pins σ H s) (rx : Vals xs us)
    (h : sp xs H Q E0) : wpAny (model X.prog X.w) A (call (.ref f) us) (EP X pins σ Q) X.xe s := by
  have e0 : Env0 X.prog X.w X.K X.mg X.base A X.stack s H := by
    have e := I.env0
    exact ⟨by rw [sb.fr]; exact e.frames, e.mod, e.bs, e.bsz, e.funs, e.frf, e.hok, e.bare⟩
  have hl := F.len _ _ _ _ h
  have hl' : us.length = ps.length := by rw [← rx.length, hl]
  refine wpAny_call (codeAny_mono (F.run A X.stack s H ⟨us, []⟩ us xs _ E0 sb.room e0 (by
    have := hb s us I.kIn (by simpa using hl')
    simpa using this) rx h) fun r s' hq => ?_)
  cases r with
  | error e => exact False.elim hq
  | ok fl =>
    cases fl with
    | ret w => exact I.after hq
    | next => exact False.elim hq
    | brk => exact False.elim hq
    | cont => exact False.elim hq
/-- a special method that is a built-in -/
theorem ifBound_B {M : Model} {K : PySem.W.Frag} {A : Around} {E : Value → Shared → Prop} {s : Shared} {x C : Addr} {ox : Obj} {od : Option Obj} {name : Str} {id : String} {args : List Value} {Q : Option Value → Shared → Prop} (X : K.In s.heap) (I : PySem.W.InstAt s.heap x ox C od)
    (hs : PySem.W.findIn K (.ref C) name = some (some (.builtin id))) (hb : ∀ self, bindSpecial (.builtin id) self = pure (.builtin id, [self]))
    (h : wpAny M A (call (.builtin id) (.ref x :: args)) (fun v => Q (some v)) E s) : wpAny M A (callSpecialIfBound? (.ref x) name args) Q E s := by
  simp only [callSpecialIfBound?, bindSpecialIfBound?]
  refine wpAny_holding (wpAny_bind (wpAny_bind (wpAny_bind (I.type.here ((PySem.W.looks_findIn X hs).here ?_)))))
  refine wpAny_bind (wpAny_askSetting (wpAny_ite ?_))
  have fin : wpAny M A (call (.builtin id) ([.ref x] ++ args) >>= fun v => pure (some v)) Q E s := wpAny_bind (wpAny_mono h (fun v s' h' => wpAny_pure h') fun _ _ h' => h')
  split
  · exact wpAny_bind (wpAny_of_eq (hb _) (wpAny_pure (by exact fin)))
  · exact wpAny_tryCatch (wpAny_bind (wpAny_of_eq (hb _) (wpAny_pure (by exact fin))))
theorem bind_ne (self : Value) : bindSpecial (.builtin "object.__ne__") self = pure (.builtin "object.__ne__", [self]) := PySem.F.slot_tuple_iterator_ne.bind self
theorem ne_body {K : PySem.W.Frag} {prog : Program} {w : World} {A : Around} {E : Value → Shared → Prop} {s : Shared} {x C f : Addr} {ox : Obj} {od : Option Obj} {b : Value} {Q : Fin → Shared → Prop} (X : K.In s.heap) (I : PySem.W.InstAt s.heap x ox C od)
    (hs : PySem.W.findIn K (.ref C) "__eq__" = some (some (.ref f))) (hf : PySem.W.isFn K (.ref f) = true) (hu : A.units < cLine)
    (hcall : wpAny (model prog w) A (call (.ref f) [.ref x, b]) (fun v s' => ∃ c, v = .bool c ∧ Q (.done (.ret (.bool (!c)))) s') E s) :
    wpAny (model prog w) A (Builtin.«object.__ne__» ⟨[.ref x, b], []⟩) Q E s := by
  obtain ⟨h, g, d, t, os⟩ := s
  unfold Builtin.«object.__ne__»
  repeat (first
    | with_reducible refine wpAny_cRoomFor hu ?_
    | (refine wpAny_bind (m := callSpecialIfBound? (.ref x) (Str.ofString "__eq__") [b])
        (PySem.W.ifBound_K X I hs hf (wpAny_mono hcall (fun r s' hr => by
          obtain ⟨c, rfl, hq⟩ := hr
          repeat (first | exact hq | exact wpAny_pure hq | exact wpAny_truthy_bool hq | (refine wpAny_bind (m := truthy (.bool _)) (wpAny_truthy_bool ?_)) | wp_step)) fun _ _ e => e)))
    | wp_step)
theorem op_eqO {n : Nat} {C f : Addr} {fd : FuncData} {ps : List Str} {sp : Sp} (F : FnOk X.prog X.w X.K X.mg X.base CX0 n f fd ps sp) (hs : PySem.W.findIn X.K (.ref C) "__eq__" = some (some (.ref f))) (hf : PySem.W.isFn X.K (.ref f) = true) (hb : Binds X.K fd ps []) (hr : Room n X.A) :
    OpR X (compareOp .Eq) (fun x y H Q => ∃ a dx fs tb, x = .ref a ∧ H a = some (.ins C dx fs) ∧ TyOf X.K H y tb ∧ PySem.W.notFirst X.K C tb = true ∧ sp [x, y] H (fun v H' => ∃ c, v = .bl c ∧ Q v H') E0) := by
  intro pins s σ H x y u v Q I rx ry h
  obtain ⟨a, dx, fs, tb, rfl, ha, ty, nf, q⟩ := h
  cases rx
  obtain ⟨mA, J, _⟩ := ins_get I.hok ha
  obtain ⟨od, J, _⟩ := J.look
  obtain ⟨m, hF⟩ := I.fr
  show wpAny (model X.prog X.w) X.A (richCompare .Eq (.ref a) v) (EP X pins σ Q) X.xe s
  refine PySem.W.cmp_K (op := .Eq) (tb := tb) hr.units0 hF I.ok.mod.kin J (ty_looks I ry ty) nf hs hf ?_
  refine wpAny_mono (call_own F hb ⟨hr, rfl⟩ I (.cons (show RelV (V.ref a) (Value.ref a) from rfl) (.cons ry .nil)) q) (fun r s' z => ?_) fun _ _ x => x
  obtain ⟨z, H', I', rz, c, ez, q'⟩ := z
  subst ez
  cases rz
  exact ⟨.bl c, H', I', rfl, q'⟩
theorem op_neO {n : Nat} {C f : Addr} {fd : FuncData} {ps : List Str} {sp : Sp} (F : FnOk X.prog X.w X.K X.mg X.base CX0 n f fd ps sp) (hs : PySem.W.findIn X.K (.ref C) "__eq__" = some (some (.ref f))) (hn : PySem.W.findIn X.K (.ref C) "__ne__" = some (some (.builtin "object.__ne__")))
    (ho : PySem.W.mroIn X.K C (.type "object") = some true) (hf : PySem.W.isFn X.K (.ref f) = true) (hb : Binds X.K fd ps []) (hr : Room (n + 1) X.A) :
    OpR X (compareOp .NotEq) (fun x y H Q => ∃ a dx fs tb, x = .ref a ∧ H a = some (.ins C dx fs) ∧ TyOf X.K H y tb ∧ PySem.W.notFirst X.K C tb = true ∧ sp [x, y] H (fun v H' => ∃ c, v = .bl c ∧ Q (.bl (!c)) H') E0) := by
  intro pins s σ H x y u v Q I rx ry h
  obtain ⟨a, dx, fs, tb, rfl, ha, ty, nf, q⟩ := h
  cases rx
  obtain ⟨mA, J, _⟩ := ins_get I.hok ha
  obtain ⟨od, J, _⟩ := J.look
  have hb' := ty_looks I ry ty
  have sb : Sub X (n + 1) X.A := ⟨hr, rfl⟩
  show wpAny (model X.prog X.w) X.A (richCompare .NotEq (.ref a) v) (EP X pins σ Q) X.xe s
  have one : wpAny (model X.prog X.w) X.A (tryCompare (.ref a) "__ne__" v) (fun r s' => ∃ w, r = some w ∧ EP X pins σ Q w s') X.xe s := by
    unfold tryCompare
    refine wpAny_bind (ifBound_B I.kIn J hn bind_ne (wpAny_call (codeAny_call_builtin PySem.F.slot_tuple_iterator_ne.plain PySem.F.cmpEntry_ne
      (PySem.W.check_slot PySem.F.cmpKind_ne PySem.F.cmpSplit_ne (J.type.andThen (PySem.W.looks_mroIn I.kIn ho)) (PySem.F.cmpArgs_ne _ _)
        (ne_body I.kIn J hs hf sb.in1.room.units0 (wpAny_mono (call_own F hb sb.in1 I (.cons (show RelV (V.ref a) (Value.ref a) from rfl) (.cons ry .nil)) q) (fun r s' z => ?_) fun _ _ x => x))))))
    obtain ⟨z, H', I', rz, c, ez, q'⟩ := z
    subst ez
    cases rz
    have fin : EP X pins σ Q (.bool (!c)) s' := ⟨.bl (!c), H', I', rfl, q'⟩
    first | exact ⟨c, rfl, wpAny_pure ⟨_, rfl, fin⟩⟩ | exact ⟨c, rfl, wpAny_pure (wpAny_pure ⟨_, rfl, fin⟩)⟩ | exact ⟨c, rfl, ⟨_, rfl, fin⟩⟩
  unfold richCompare
  simp only [oneThing_ref]
  refine wpAny_holding (wpAny_bind (wpAny_cRoomFor hr.units0 ?_))
  refine wpAny_bind (J.type.here (wpAny_bind (hb'.here ?_)))
  split
  · rename_i q'
    have e : PySem.W.subIn X.K tb (.ref C) = some false := by
      rcases Bool.or_eq_true_iff.mp nf with e | e
      · rw [beq_iff_eq.mp e] at q'; simp at q'
      · exact beq_iff_eq.mp e
    refine wpAny_bind ((PySem.W.looks_subIn I.kIn e).here ?_)
    simp only [Bool.false_eq_true, if_false]
    refine wpAny_bind (wpAny_mono one (fun r s' z => ?_) fun _ _ e => e)
    obtain ⟨v, rfl, hq⟩ := z
    exact wpAny_pure hq
  · refine wpAny_bind (wpAny_pure ?_)
    simp only [Bool.false_eq_true, if_false]
    refine wpAny_bind (wpAny_mono one (fun r s' z => ?_) fun _ _ e => e)
    obtain ⟨v, rfl, hq⟩ := z
    exact wpAny_pure hq
end
end Lag

set_option maxRecDepth 100000
set_option maxHeartbeats 4000000
namespace Lag
open PySem PySem.Spec PyProof.Rows L2
/-! ### nets as data that is compared -/
def gateD (g : Gt) : PyData := .tuple [.str g.1, .int g.2]
def gatesD (gs : List Gt) : PyData := .list (gs.map gateD)
def wireD (x : Wr) : PyData := .tuple [.int (x.1 : Nat), .int (x.2.1 : Nat), .tuple (x.2.2.map PyData.int)]
def wiresD (ws : List Wr) : PyData := .list (ws.map wireD)
def intsD (l : List Nat) : PyData := .list (l.map fun i => .int (i : Nat))
theorem eqvAll_map {α : Type} [DecidableEq α] {f : α → PyData} (h : ∀ x y, PyData.eqv (f x) (f y) = decide (x = y)) : ∀ xs ys : List α, PyData.eqvAll (xs.map f) (ys.map f) = decide (xs = ys)
  | [], [] => rfl
  | [], _ :: _ => rfl
  | _ :: _, [] => rfl
  | x :: xs, y :: ys => by
    show (PyData.eqv (f x) (f y) && PyData.eqvAll (xs.map f) (ys.map f)) = _
    rw [h, eqvAll_map h xs ys, Bool.eq_iff_iff]
    simp
theorem gateD_eq (a b : Gt) : PyData.eqv (gateD a) (gateD b) = decide (a = b) := by
  show ((a.1 == b.1) && ((a.2 == b.2) && true)) = _
  rw [Bool.eq_iff_iff]
  simp [Prod.ext_iff]
theorem gatesD_eq (a b : List Gt) : PyData.eqv (gatesD a) (gatesD b) = decide (a = b) := eqvAll_map gateD_eq a b
theorem intD_eq (a b : Int) : PyData.eqv (.int a) (.int b) = decide (a = b) := rfl
theorem wireD_eq (a b : Wr) : PyData.eqv (wireD a) (wireD b) = decide (a = b) := by
  show ((((a.1 : Nat) : Int) == ((b.1 : Nat) : Int)) && ((((a.2.1 : Nat) : Int) == ((b.2.1 : Nat) : Int)) && (PyData.eqvAll (a.2.2.map PyData.int) (b.2.2.map PyData.int) && true))) = _
  rw [eqvAll_map intD_eq, Bool.eq_iff_iff]
  simp only [Bool.and_eq_true, beq_iff_eq, decide_eq_true_eq, and_true]
  constructor
  · rintro ⟨h1, h2, h3⟩
    exact Prod.ext (by omega) (Prod.ext (by show a.2.1 = b.2.1; omega) h3)
  · rintro rfl
    exact ⟨rfl, rfl, rfl⟩
theorem wiresD_eq (a b : List Wr) : PyData.eqv (wiresD a) (wiresD b) = decide (a = b) := eqvAll_map wireD_eq a b
theorem natD_eq (a b : Nat) : PyData.eqv (.int (a : Nat)) (.int (b : Nat)) = decide (a = b) := by
  show (((a : Nat) : Int) == ((b : Nat) : Int)) = _
  rw [Bool.eq_iff_iff]
  simp
  omega
theorem intsD_eq (a b : List Nat) : PyData.eqv (intsD a) (intsD b) = decide (a = b) := eqvAll_map natD_eq a b
theorem lay_all {ds : List PyData} : (∀ d ∈ ds, PyData.canLay0 d = true) → PyData.canLayAll0 ds = true := by
  induction ds with
  | nil => intro _; rfl
  | cons d ds ih =>
    intro h
    show (PyData.canLay0 d && PyData.canLayAll0 ds) = true
    rw [h d (List.mem_cons_self ..), ih fun x hx => h x (List.mem_cons_of_mem _ hx)]
    rfl
theorem depth_all {ds : List PyData} {k : Nat} : (∀ d ∈ ds, PyData.depth d ≤ k) → PyData.depthAll ds ≤ k := by
  induction ds with
  | nil => intro _; exact Nat.zero_le _
  | cons d ds ih =>
    intro h
    show max (PyData.depth d) (PyData.depthAll ds) ≤ k
    have h1 := h d (List.mem_cons_self ..)
    have h2 := ih fun x hx => h x (List.mem_cons_of_mem _ hx)
    omega
/-- such data may be compared, to the depth k -/
def Sh (k : Nat) (d : PyData) : Prop := PyData.canLay0 d = true ∧ PyData.depth d ≤ k
theorem Sh.ok {k : Nat} {d : PyData} (h : Sh k d) (hk : k ≤ 64) : SeqAt.shaped d = true := by
  show (PyData.canLay0 d && decide (PyData.depth d ≤ 64)) = true
  rw [h.1, decide_eq_true (Nat.le_trans h.2 hk)]
  rfl
theorem sh_list {k : Nat} {ds : List PyData} (h : ∀ d ∈ ds, Sh k d) : Sh (k + 1) (.list ds) := ⟨lay_all fun d hd => (h d hd).1, Nat.succ_le_succ (depth_all fun d hd => (h d hd).2)⟩
theorem sh_tuple {k : Nat} {ds : List PyData} (h : ∀ d ∈ ds, Sh k d) : Sh (k + 1) (.tuple ds) := ⟨lay_all fun d hd => (h d hd).1, Nat.succ_le_succ (depth_all fun d hd => (h d hd).2)⟩
theorem sh_int {k : Nat} (i : Int) : Sh k (.int i) := ⟨rfl, Nat.zero_le _⟩
theorem kinds_str : ∀ k ∈ kinds, PyData.canLay0 (.str k) = true := by decide +kernel
theorem sh_kind {k : Nat} {z : Str} (h : z ∈ kinds) : Sh k (.str z) := ⟨kinds_str z h, Nat.zero_le _⟩
theorem sh_gates {gs : List Gt} (h : ∀ g ∈ gs, GOk g) : Sh 2 (gatesD gs) := by
  refine sh_list fun d hd => ?_
  obtain ⟨g, hg, rfl⟩ := List.mem_map.mp hd
  refine sh_tuple fun d hd => ?_
  simp only [List.mem_cons, List.not_mem_nil, or_false] at hd
  rcases hd with rfl | rfl
  · exact sh_kind (h g hg).1
  · exact sh_int _
theorem sh_wires (ws : List Wr) : Sh 3 (wiresD ws) := by
  refine sh_list fun d hd => ?_
  obtain ⟨g, hg, rfl⟩ := List.mem_map.mp hd
  refine sh_tuple fun d hd => ?_
  simp only [List.mem_cons, List.not_mem_nil, or_false] at hd
  rcases hd with rfl | rfl | rfl
  · exact sh_int _
  · exact sh_int _
  · refine sh_tuple fun d hd => ?_
    obtain ⟨i, _, rfl⟩ := List.mem_map.mp hd
    exact sh_int _
theorem sh_ints (l : List Nat) : Sh 1 (intsD l) := by
  refine sh_list fun d hd => ?_
  obtain ⟨i, _, rfl⟩ := List.mem_map.mp hd
  exact sh_int _
section
variable {K : PySem.W.Frag} {H : Hp}
theorem dp_all {α : Type} {R : V → α → Prop} {f : α → PyData} (h : ∀ v x, R v x → Dp K H v (f x)) : ∀ {vs : List V} {xs : List α}, All2 R vs xs → DpAll K H vs (xs.map f)
  | [], [], _ => .nil
  | [], _ :: _, a => by have := a.1; simp at this
  | _ :: _, [], a => by have := a.1; simp at this
  | _ :: _, _ :: _, a => .cons (h _ _ a.head) (dp_all h a.tail)
theorem GateV.dp {v : V} {g : Gt} (h : GateV K H v g) : Dp K H v (gateD g) := by
  obtain ⟨a, rfl, s⟩ := h
  exact .tup s (.cons (.str _) (.cons (.int _) .nil))
theorem ints_dp : ∀ l : List Int, DpAll K H (l.map V.int) (l.map PyData.int)
  | [] => .nil
  | i :: l => .cons (.int i) (ints_dp l)
theorem nats_dp : ∀ l : List Nat, DpAll K H (l.map fun i => V.int (i : Nat)) (l.map fun i => PyData.int (i : Nat))
  | [] => .nil
  | i :: l => .cons (.int _) (nats_dp l)
theorem WireV.dp {v : V} {x : Wr} (h : WireV K H v x) : Dp K H v (wireD x) := by
  obtain ⟨a, b, rfl, s1, s2⟩ := h
  exact .tup s1 (.cons (.int _) (.cons (.int _) (.cons (.tup s2 (ints_dp _)) .nil)))
theorem RG.dp {l : Addr} {gs : List Gt} (h : RG K H l gs) : Dp K H (.ref l) (gatesD gs) := by
  obtain ⟨vs, s, a⟩ := h
  exact .lst s (dp_all (fun _ _ r => GateV.dp r) a)
theorem RW.dp {l : Addr} {ws : List Wr} (h : RW K H l ws) : Dp K H (.ref l) (wiresD ws) := by
  obtain ⟨vs, s, a⟩ := h
  exact .lst s (dp_all (fun _ _ r => WireV.dp r) a)
theorem dp_ints {l : Addr} {xs : List Nat} (h : SqL K H l (xs.map fun i => V.int (i : Nat))) : Dp K H (.ref l) (intsD xs) := .lst h (nats_dp xs)
end
/-! ### Net.__eq__ -/
structure NTy (K : PySem.W.Frag) (C : Addr) : Prop where
  ha : PySem.W.findIn K (.ref C) "__class__" = some (some (.builtin "object.__class__"))
  hn : PySem.W.specialIn K (.builtin "object.__class__") "__get__" = some (some (.builtin "getset_descriptor.__get__"))
  htk : PySem.W.takesIn K (.builtin "object.__class__") = some true
  hm : PySem.W.mroIn K C (.type "object") = some true
theorem ty_net {K : PySem.W.Frag} {mg : Str → Option Value} {C : Addr} {H : Hp} {p dx : Addr} {fs : List (Str × V)} (T : NT K mg C) (Y : NTy K C) (h : H p = some (.ins C dx fs)) : TyOf K H (.ref p) (.ref C) := .ins h T.cl Y.ha Y.hn Y.htk Y.hm
def spEqN (K : PySem.W.Frag) (C : Addr) : Sp := fun vs H Q _ => ∃ (p lg lw : Addr) (gs : List Gt) (ws : List Wr) (y : V), vs = [.ref p, y] ∧ NetAt K C H p lg lw gs ws ∧
  ((∃ (q lg' lw' : Addr) (gs' : List Gt) (ws' : List Wr), y = .ref q ∧ NetAt K C H q lg' lw' gs' ws' ∧ (∀ g ∈ gs, GOk g) ∧ (∀ g ∈ gs', GOk g) ∧ Q (.bl (decide (gs = gs') && decide (ws = ws'))) H) ∨
    (∃ t, TyX K H y t ∧ PySem.W.kitOne K t (.ref C) = some false ∧ Q (.bl false) H))
section
variable {P : Program} {w : World} {K : PySem.W.Frag} {mg : Str → Option Value} {base : Heap}
theorem scEq : FnScope ["self", "other"] ["self", "other"] (defScope sEq) := ⟨rfl, rfl, rfl, by decide +kernel, rfl, by decide +kernel, by decide +kernel⟩
theorem kit_self {K : PySem.W.Frag} (C : Addr) : PySem.W.kitOne K (.ref C) (.ref C) = some true := by
  unfold PySem.W.kitOne
  rw [if_pos (beq_self_eq_true _)]
theorem ok_eqN {f C : Addr} {fd : FuncData} (F : Fun K "__eq__" "Net.__eq__" sEq f fd) (T : NT K mg C) (Y : NTy K C) (B : Bt mg) : FnOk P w K mg base CX0 1 f fd ["self", "other"] (spEqN K C) := by
  refine F.ok scEq (fun vs H Q E h => ?_) (fun cdv A outer s H vs Q E hr h => ?_)
  · obtain ⟨p, lg, lw, gs, ws, y, rfl, _⟩ := h
    rfl
  · obtain ⟨p, lg, lw, gs, ws, y, rfl, N, h⟩ := h
    refine ⟨_, pss_one <| ps_ret <| pe_and (pe_callB call_isi (by rfl) B.isi (by decide +kernel) (pa_cons (pv 1) (pa_cons (pe_glob (v := .ref C) (by rfl) T.mg rfl) pa_nil))) <|
      pe_and (pe_cmpR (op_eqD hr.units) (pe_fld (pv 0) rfl) (pe_fld (pv 1) rfl) (nomark _)) <| pe_one <| pe_cmpR (op_eqD hr.units) (pe_fld (pv 0) rfl) (pe_fld (pv 1) rfl) (nomark _), ?_⟩
    obtain ⟨dx, hp⟩ := N.ob
    rcases h with ⟨q, lg', lw', gs', ws', rfl, N', gok, gok', k⟩ | ⟨t, ty, kt, k⟩
    · obtain ⟨dx', hq⟩ := N'.ob
      refine ⟨_, rfl, _, _, _, _, true, rfl, .own C, .base (ty_net T Y hq), kit_self C, true, rfl, iteT ?_⟩
      refine ⟨_, rfl, p, C, dx, _, _, rfl, hp, T.cl, T.nG, nf_gates _ _, _, rfl, q, C, dx', _, _, rfl, hq, T.cl, T.nG, nf_gates _ _, _, _, N.g.rg.dp, N'.g.rg.dp, (sh_gates gok).ok (by decide), (sh_gates gok').ok (by decide), _, rfl, ?_⟩
      rw [gatesD_eq]
      cases e : decide (gs = gs') with
      | false =>
        rw [e] at k
        exact iteF k
      | true =>
        rw [e] at k
        refine iteT ⟨_, rfl, p, C, dx, _, _, rfl, hp, T.cl, T.nW, nf_wires _ _, _, rfl, q, C, dx', _, _, rfl, hq, T.cl, T.nW, nf_wires _ _, _, _, N.w.rw.dp, N'.w.rw.dp, (sh_wires _).ok (by decide), (sh_wires _).ok (by decide), ?_⟩
        rw [wiresD_eq]
        exact k
    · exact ⟨_, rfl, _, _, _, _, false, rfl, .own C, ty, kt, false, rfl, iteF k⟩
end
end Lag

set_option maxRecDepth 100000
set_option maxHeartbeats 4000000
namespace Lag
open PySem PySem.Spec PyProof.Rows L2
/-! ### what keeps a net a net -/
theorem kindAt_set {gs : List Gt} {i j : Nat} {g : Gt} (h : i < gs.length) : kindAt (gs.set i g) j = if j = i then g.1 else kindAt gs j := by
  unfold kindAt
  rw [List.getD_eq_getElem?_getD, List.getD_eq_getElem?_getD, List.getElem?_set]
  by_cases e : i = j
  · subst e
    rw [if_pos rfl, if_pos h, if_pos rfl]
    rfl
  · rw [if_neg e, if_neg (fun z => e z.symm)]
/-- another gate at a place whose gate is no port: no port, and no first where it was none -/
theorem NetOk.setG {gs : List Gt} {ws : List Wr} (N : NetOk gs ws) {i : Nat} {g : Gt} (hi : i < gs.length) (hg : GOk g) (h1 : g.1 ≠ "out") (h2 : g.1 ≠ "in") (h3 : g.1 = "first" → kindAt gs i = "first") : NetOk (gs.set i g) ws := by
  have kk := @kindAt_set gs i
  refine ⟨?_, by rw [List.length_set]; exact N.gl, N.wl, ?_, fun x hx => ?_, fun e he hk => ?_, fun e he hk => ?_, N.rank⟩
  · intro z
    have := congrArg List.length z
    rw [List.length_set] at this
    exact N.ne (List.length_eq_zero_iff.mp this)
  · intro y hy
    rcases List.mem_or_eq_of_mem_set hy with hy | hy
    · exact N.gok y hy
    · rw [hy]
      exact hg
  · have W := N.wok x hx
    refine ⟨by rw [List.length_set]; exact W.s, by rw [List.length_set]; exact W.e, ?_, ?_, W.r, W.rl⟩
    · rw [kk hi]
      split
      · exact h1
      · exact W.ks
    · rw [kk hi]
      split
      · exact h2
      · exact W.ke
  · rw [List.length_set] at he
    rw [kk hi] at hk
    split at hk
    · exact absurd hk h1
    · exact N.one e he hk
  · rw [List.length_set] at he
    rw [kk hi] at hk
    split at hk
    · rename_i hei
      subst hei
      exact N.some _ he (h3 hk)
    · exact N.some e he hk
theorem kindAt_app {gs : List Gt} {g : Gt} {j : Nat} (h : j < gs.length) : kindAt (gs ++ [g]) j = kindAt gs j := by
  unfold kindAt
  rw [List.getD_eq_getElem?_getD, List.getD_eq_getElem?_getD, List.getElem?_append_left h]
theorem NetOk.addIn {gs : List Gt} {ws : List Wr} (N : NetOk gs ws) (hl : gs.length < 100) : NetOk (gs ++ [(("in" : Str), (0 : Int))]) ws := by
  have kl : kindAt (gs ++ [(("in" : Str), (0 : Int))]) gs.length = "in" := by
    unfold kindAt
    rw [List.getD_eq_getElem?_getD, List.getElem?_append_right (Nat.le_refl _), Nat.sub_self]
    rfl
  refine ⟨by simp, by simp; omega, N.wl, ?_, fun x hx => ?_, fun e he hk => ?_, fun e he hk => ?_, N.rank⟩
  · intro y hy
    rcases List.mem_append.mp hy with hy | hy
    · exact N.gok y hy
    · simp at hy
      subst hy
      exact ⟨by show ("in" : Str) ∈ kinds; decide +kernel, Int.le_refl 0, (by show (0 : Int) ≤ 100; decide), fun _ => rfl⟩
  · have W := N.wok x hx
    exact ⟨by have := W.s; simp; omega, by have := W.e; simp; omega, by rw [kindAt_app W.s]; exact W.ks, by rw [kindAt_app W.e]; exact W.ke, W.r, W.rl⟩
  · by_cases h : e < gs.length
    · rw [kindAt_app h] at hk
      exact N.one e h hk
    · have : e = gs.length := by simp at he; omega
      subst this
      rw [kl] at hk
      exact absurd hk (by decide +kernel)
  · by_cases h : e < gs.length
    · rw [kindAt_app h] at hk
      exact N.some e h hk
    · have : e = gs.length := by simp at he; omega
      subst this
      rw [kl] at hk
      exact absurd hk (by decide +kernel)
theorem cnt_set {ws : List Wr} {i : Nat} {x y : Wr} (h : ws[i]? = some x) (he : y.2.1 = x.2.1) (e : Nat) : cnt (ws.set i y) e = cnt ws e := by
  obtain ⟨hi, rfl⟩ := List.getElem?_eq_some_iff.mp h
  have h1 : ws.set i y = ws.take i ++ y :: ws.drop (i + 1) := List.set_eq_take_append_cons_drop .. |>.trans (by rw [if_pos hi])
  have h2 : ws = ws.take i ++ ws[i] :: ws.drop (i + 1) := by rw [List.getElem_cons_drop, List.take_append_drop]
  unfold cnt
  conv => rhs; rw [h2]
  rw [h1, List.countP_append, List.countP_append, List.countP_cons, List.countP_cons, he]
/-- a wire with other registers, one at least -/
theorem NetOk.setW {gs : List Gt} {ws : List Wr} (N : NetOk gs ws) {i : Nat} {x : Wr} {r : List Int} (h : ws[i]? = Option.some x) (hr : ROk r) (hl : r.length ≤ 200) (hne : r ≠ []) : NetOk gs (ws.set i (x.1, x.2.1, r)) := by
  have W := N.wok x (List.mem_of_getElem? h)
  obtain ⟨ρ, hρ⟩ := N.rank
  refine ⟨N.ne, N.gl, by rw [List.length_set]; exact N.wl, N.gok, fun y hy => ?_, fun e he hk => ?_, fun e he hk => ?_, ρ, fun y hy hyr => ?_⟩
  · rcases List.mem_or_eq_of_mem_set hy with hy | hy
    · exact N.wok y hy
    · rw [hy]
      exact ⟨W.s, W.e, W.ks, W.ke, hr, hl⟩
  · rw [cnt_set (y := (x.1, x.2.1, r)) h rfl]
    exact N.one e he hk
  · rw [cnt_set (y := (x.1, x.2.1, r)) h rfl]
    exact N.some e he hk
  · rcases List.mem_or_eq_of_mem_set hy with hy | hy
    · exact hρ y hy hyr
    · rw [hy] at hyr
      exact absurd hyr hne
theorem NetOk.perm {gs : List Gt} {ws ws' : List Wr} (N : NetOk gs ws) (p : ws'.Perm ws) : NetOk gs ws' := by
  obtain ⟨ρ, hρ⟩ := N.rank
  have c : ∀ e, cnt ws' e = cnt ws e := fun e => p.countP_eq _
  exact ⟨N.ne, N.gl, by rw [p.length_eq]; exact N.wl, N.gok, fun x hx => N.wok x (p.mem_iff.mp hx), fun e he hk => by rw [c]; exact N.one e he hk, fun e he hk => by rw [c]; exact N.some e he hk, ρ, fun x hx h => hρ x (p.mem_iff.mp hx) h⟩
/-! ### slices -/
theorem take_min {α : Type} (l : List α) (k : Nat) : l.take (min k l.length) = l.take k := by
  by_cases h : k ≤ l.length
  · rw [Nat.min_eq_left h]
  · rw [Nat.min_eq_right (by omega), List.take_length, List.take_of_length_le (by omega)]
theorem drop_min {α : Type} (l : List α) (k : Nat) : l.drop (min k l.length) = l.drop k := by
  by_cases h : k ≤ l.length
  · rw [Nat.min_eq_left h]
  · rw [Nat.min_eq_right (by omega), List.drop_length, List.drop_of_length_le (by omega)]
theorem cut_to {xs : List V} (k : Nat) : cutV xs none (some (k : Int)) = xs.take k := by
  unfold cutV
  rw [HT.sIx_none, HT.sIx_nat, List.drop_zero, Nat.sub_zero, take_min]
theorem cut_from {xs : List V} (k : Nat) : cutV xs (some (k : Int)) none = xs.drop k := by
  unfold cutV
  rw [HT.sIx_none, HT.sIx_nat, drop_min]
  exact List.take_of_length_le (by rw [List.length_drop]; omega)
theorem cut_mid {xs : List V} (j k : Nat) : cutV xs (some (j : Int)) (some (k : Int)) = (xs.take k).drop j := by
  unfold cutV
  rw [HT.sIx_nat, HT.sIx_nat, List.drop_take, drop_min]
  by_cases h : j ≤ xs.length
  · by_cases h2 : k ≤ xs.length
    · rw [Nat.min_eq_left h, Nat.min_eq_left h2]
    · rw [List.take_of_length_le (by rw [List.length_drop]; omega), List.take_of_length_le (by rw [List.length_drop]; omega)]
  · rw [List.drop_of_length_le (by omega)]
    simp
section
variable {α β : Type} {R : α → β → Prop} {xs xs' : List α} {ys ys' : List β}
theorem All2.take (h : All2 R xs ys) (k : Nat) : All2 R (xs.take k) (ys.take k) := by
  refine ⟨by rw [List.length_take, List.length_take, h.1], fun i x y hx hy => ?_⟩
  have hi : i < k := by
    have := (List.getElem?_eq_some_iff.mp hx).1
    rw [List.length_take] at this
    omega
  rw [List.getElem?_take_of_lt hi] at hx hy
  exact h.2 i x y hx hy
theorem All2.drop (h : All2 R xs ys) (k : Nat) : All2 R (xs.drop k) (ys.drop k) := by
  refine ⟨by rw [List.length_drop, List.length_drop, h.1], fun i x y hx hy => ?_⟩
  rw [List.getElem?_drop] at hx hy
  exact h.2 _ x y hx hy
theorem All2.append (h : All2 R xs ys) (h' : All2 R xs' ys') : All2 R (xs ++ xs') (ys ++ ys') := by
  induction xs generalizing ys with
  | nil =>
    cases ys with
    | nil => exact h'
    | cons _ _ => have := h.1; simp at this
  | cons x xs ih =>
    cases ys with
    | nil => have := h.1; simp at this
    | cons y ys => exact All2.cons h.head (ih h.tail)
theorem All2.reverse (h : All2 R xs ys) : All2 R xs.reverse ys.reverse := by
  induction xs generalizing ys with
  | nil =>
    cases ys with
    | nil => exact h
    | cons _ _ => have := h.1; simp at this
  | cons x xs ih =>
    cases ys with
    | nil => have := h.1; simp at this
    | cons y ys =>
      rw [List.reverse_cons, List.reverse_cons]
      exact (ih h.tail).snoc h.head
theorem All2.one {x : α} {y : β} (r : R x y) : All2 R [x] [y] := All2.cons r All2.nil
end
theorem set_cut {α : Type} {l : List α} {i : Nat} {y : α} (h : i < l.length) : l.take i ++ [y] ++ l.drop (i + 1) = l.set i y := by
  rw [List.set_eq_take_append_cons_drop, if_pos h, List.append_assoc]
  rfl
theorem swap_perm {α : Type} (l : List α) (i : Nat) : (l.take i ++ ((l.take (i + 2)).drop i).reverse ++ l.drop (i + 2)).Perm l := by
  have e : l = l.take i ++ (l.take (i + 2)).drop i ++ l.drop (i + 2) := by
    have h1 : l.take i = (l.take (i + 2)).take i := by rw [List.take_take, Nat.min_eq_left (by omega)]
    rw [h1, List.take_append_drop, List.take_append_drop]
  conv => rhs; rw [e]
  exact ((List.Perm.refl _).append (List.reverse_perm _)).append (List.Perm.refl _)
end Lag

set_option maxRecDepth 100000
set_option maxHeartbeats 4000000
namespace Lag
open PySem PySem.Spec PyProof.Rows L2
theorem ints_get : ∀ {its : List Value} {ns : List Int}, IntsAre its ns → ∀ {i : Nat} {v : Value}, its[i]? = some v → ∃ (z : Int) (t : Tok), v = .int z t ∧ ns[i]? = some z := by
  intro its ns h
  induction h with
  | nil => intro i v e; simp at e
  | cons n t _ ih =>
    intro i v e
    cases i with
    | zero =>
      simp at e
      exact ⟨n, t, e.symm, rfl⟩
    | succ i => exact ih (by simpa using e)
/-! ### max(xs, default=d) of whole numbers -/
section
variable {prog : Program} {w : World} {A : Around} {E : Value → Shared → Prop}
theorem dargs_max (a d : Value) : argsOk "max" ⟨[a], [(Str.ofString "default", d)]⟩ := by
  unfold argsOk
  kernel_rfl
/-- what is held while it goes on: nothing as yet, or the best of those that came -/
def Held_max (ns : List Int) (j : Nat) (its : Array Value) : Prop := (j = 0 ∧ its = #[]) ∨ (0 < j ∧ ∃ (m : Int) (t : Tok), its = #[.int m t, .int m t] ∧ m ∈ ns.take j ∧ ∀ y ∈ ns.take j, y ≤ m)
theorem dloop_max {R : Result → Shared → Prop} {I S : Addr} {fp wr : List Addr} {n : Nat} {Pv : Nat → Value → Prop} {St : Nat → Heap → Prop} {ns : List Int} {d : Value} (W : Walks prog w A.in1 I fp wr n Pv St) (hSf : S ∉ fp) (hn : ns.length = n)
    (hP : ∀ i v, Pv i v → ∃ (z : Int) (t : Tok), v = .int z t ∧ ns[i]? = some z) :
    ∀ (k j : Nat) (s : Shared) (its : Array Value) (c : Nat), n - j = k → j ≤ n → St j s.heap → s.heap.get? S = some { cls := .type "list", data := .seq its c } → Held_max ns j its →
    (∀ h' tk, (∀ b o, b ∉ wr → b ≠ S → s.heap.get? b = some o → h'.get? b = some o) → (ns = [] → R (.ok (.ret d)) { s with heap := h', toks := tk }) ∧ ∀ m t, m ∈ ns → (∀ y ∈ ns, y ≤ m) → R (.ok (.ret (.int m t))) { s with heap := h', toks := tk }) →
    codeAny (model prog w) A (.builtin "max.loop" ⟨[.ref I, .none, .ref S], [(Str.ofString "default", d)]⟩) R s := by
  have nSw : S ∉ wr := fun z => hSf (W.sub S z)
  have hnm : (toString "max" ++ toString ".loop" : String) = "max.loop" := by decide
  intro k
  induction k with
  | zero =>
    intro j s its c hk hj st hS hh hR
    have ej : j = n := by omega
    subst ej
    refine codeAny_builtin PySem.F.entry_max_loop ?_
    rw [Around.under_plainId PySem.F.plain_max_loop _]
    show wpAny _ A.in1 (seqItems? (.ref S) >>= _) _ _ s
    refine wpAny_bind (wpAny_seqItems hS rfl ?_)
    show wpAny _ A.in1 (tryCatch (pyNext (.ref I)) _ >>= _) _ _ s
    refine wpAny_bind (wpAny_tryCatch (W.done s _ _ st fun h' tk kp => ?_))
    have hS' := kp S _ nSw hS
    rcases hh with ⟨h0, rfl⟩ | ⟨h0, m, t, rfl, hm, hb⟩
    · refine wpAny_bind (wpAny_rule (wpAny_pure ?_))
      exact (hR h' tk fun b o nb _ e => kp b o nb e).1 (List.length_eq_zero_iff.mp (by omega))
    · show wpAny _ A.in1 (updateSeq S (fun _ => #[]) >>= _) _ _ _
      refine wpAny_bind ?_
      refine wpAny_updateSeq hS' rfl (wpAny_bind (wpAny_letGo (wpAny_pure ?_)))
      rw [List.take_of_length_le (by omega)] at hm hb
      exact (hR _ tk fun b o nb nS e => (Heap.get?_update_other _ _ (Ne.symm nS)).trans (kp b o nb e)).2 m t hm hb
  | succ k ih =>
    intro j s its c hk hj st hS hh hR
    have lt : j < n := by omega
    refine codeAny_builtin PySem.F.entry_max_loop ?_
    rw [Around.under_plainId PySem.F.plain_max_loop _]
    show wpAny _ A.in1 (seqItems? (.ref S) >>= _) _ _ s
    refine wpAny_bind (wpAny_seqItems hS rfl ?_)
    show wpAny _ A.in1 (tryCatch (pyNext (.ref I)) _ >>= _) _ _ s
    refine wpAny_bind (wpAny_tryCatch (W.item j s _ _ lt st fun v h' tk pv st' kp => ?_))
    have hS' := kp S _ nSw hS
    obtain ⟨z, tz, rfl, hz⟩ := hP j v pv
    have et : ns.take (j + 1) = ns.take j ++ [z] := by rw [List.take_add_one, hz]; rfl
    rcases hh with ⟨h0, rfl⟩ | ⟨h0, m, t, rfl, hm, hb⟩
    · show wpAny _ A.in1 (updateSeq S (fun _ => #[.int z tz, .int z tz]) >>= _) _ _ _
      refine wpAny_bind ?_
      refine wpAny_updateSeq hS' rfl ?_
      rw [hnm]
      refine wpAny_pure ⟨plainId_quiet PySem.F.plain_max_loop _, ih (j + 1) _ _ _ (by omega) lt (W.frame _ _ _ st' fun b hbf o e => (Heap.get?_update_other _ _ (fun q : S = b => hSf (by rw [q]; exact hbf))).trans e) (Heap.get?_update_self _ hS' rfl) (.inr ⟨by omega, z, tz, rfl, ?_, ?_⟩) fun h'' tk'' kp'' => ?_⟩
      · rw [et]; simp
      · subst h0
        rw [et]
        intro y hy
        simp at hy
        subst hy
        exact Int.le_refl _
      · exact hR h'' tk'' fun b o nb nS e => kp'' b o nb nS ((Heap.get?_update_other _ _ (Ne.symm nS)).trans (kp b o nb e))
    · show wpAny _ A.in1 (tryCatch (holding [.int z tz, .int z tz] (richCompare .Gt (.int z tz) (.int m t) >>= _)) _ >>= _) _ _ _
      refine wpAny_bind (wpAny_tryCatch (wpAny_holding (wpAny_bind (CmpOf.ints_gt (P := fun i v => ∃ t, v = Value.int (if i = 0 then z else m) t) (fun i => if i = 0 then z else m) (fun _ _ h => h) 0 1 _ _ _ _ _ ⟨tz, rfl⟩ ⟨t, rfl⟩ ?_))))
      refine wpAny_bind (wpAny_holding (wpAny_truthy_bool ?_))
      refine wpAny_bind (wpAny_letGo (wpAny_pure ?_))
      show wpAny _ A.in1 (if decide (z > m) = true then _ else _) _ _ _
      by_cases hzm : z > m
      · rw [if_pos (decide_eq_true hzm)]
        refine wpAny_bind ?_
        refine wpAny_updateSeq hS' rfl (wpAny_bind (wpAny_letGo ?_))
        rw [hnm]
        refine wpAny_pure ⟨plainId_quiet PySem.F.plain_max_loop _, ih (j + 1) _ _ _ (by omega) lt (W.frame _ _ _ st' fun b hbf o e => (Heap.get?_update_other _ _ (fun q : S = b => hSf (by rw [q]; exact hbf))).trans e) (Heap.get?_update_self _ hS' rfl) (.inr ⟨by omega, z, tz, rfl, ?_, ?_⟩) fun h'' tk'' kp'' => ?_⟩
        · rw [et]; simp
        · rw [et]
          intro y hy
          rcases List.mem_append.mp hy with hy | hy
          · have := hb y hy
            omega
          · simp at hy
            omega
        · exact hR h'' tk'' fun b o nb nS e => kp'' b o nb nS ((Heap.get?_update_other _ _ (Ne.symm nS)).trans (kp b o nb e))
      · rw [if_neg (by rw [decide_eq_false hzm]; decide)]
        refine wpAny_bind (wpAny_letGo ?_)
        rw [hnm]
        refine wpAny_pure ⟨plainId_quiet PySem.F.plain_max_loop _, ih (j + 1) _ _ c (by omega) lt st' hS' (.inr ⟨by omega, m, t, rfl, ?_, ?_⟩) fun h'' tk'' kp'' => ?_⟩
        · rw [et]; exact List.mem_append_left _ hm
        · rw [et]
          intro y hy
          rcases List.mem_append.mp hy with hy | hy
          · exact hb y hy
          · simp at hy
            omega
        · exact hR h'' tk'' fun b o nb nS e => kp'' b o nb nS (kp b o nb e)
theorem dcall_max {s : Shared} {l : Addr} {items : Array Value} {ns : List Int} {d : Value} {Q : Value → Shared → Prop} (hh : A.handled = none) (hl : s.heap.IsList l items) (hi : IntsAre items.toList ns)
    (h : ∀ h' tk, (∀ b o, s.heap.get? b = some o → h'.get? b = some o) → (ns = [] → Q d { s with heap := h', toks := tk }) ∧ ∀ m t, m ∈ ns → (∀ y ∈ ns, y ≤ m) → Q (.int m t) { s with heap := h', toks := tk }) :
    wpAny (model prog w) A (call (.builtin "max") [.ref l] [(Str.ofString "default", d)]) Q E s := by
  have hnm : (toString "max" ++ toString ".loop" : String) = "max.loop" := by decide
  have hlt : l < s.heap.objs.size := by obtain ⟨_, e, _⟩ := hl; exact Heap.lt_size e
  refine PyProof.Rows.kmk_tree PySem.F.kind_max PySem.F.plain_max PySem.F.entry_max (dargs_max _ _) ?_
  show wpAny _ A.in1 (Builtin.Builtins.bindParams "max" ["key", "default"] 0 ⟨[], [(Str.ofString "default", d)]⟩ >>= _) _ _ s
  refine wpAny_bind (wpAny_of_eq (show Builtin.Builtins.bindParams "max" ["key", "default"] 0 ⟨[], [(Str.ofString "default", d)]⟩ = pure [none, some d] from rfl) ?_)
  refine wpAny_bind (wpAny_pure ?_)
  refine wpAny_bind (wpAny_pyIter_list hl ?_)
  refine wpAny_bind (wpAny_newList ?_ (Nat.zero_le _))
  rw [hnm]
  have W := Walks.list (prog := prog) (w := w) (A := A.in1) hh s.heap.objs.size l (Nat.ne_of_lt hlt) items
  have e1 : (s.heap.push { cls := .type "list_iterator", data := .fields #[.ref l, .int 0 0] }).objs.size = s.heap.objs.size + 1 := Heap.size_push ..
  refine wpAny_pure ⟨plainId_quiet PySem.F.plain_max_loop _, dloop_max (ns := ns) W (fun q => ?_) ?_ (fun i v hv => ?_) items.size 0 _ #[] _ (by omega) (Nat.zero_le _) ?_ (Heap.get?_push_size _ rfl) (.inl ⟨rfl, rfl⟩) fun h' tk kp => ?_⟩
  · rw [e1] at q
    rcases List.mem_cons.mp q with q | q
    · exact Nat.succ_ne_self _ q
    · have q := List.mem_singleton.mp q
      rw [← q] at hlt
      exact Nat.not_lt.mpr (Nat.le_succ _) hlt
  · rw [← hi.length]
    simp
  · obtain ⟨z, t, e2, e3⟩ := ints_get hi (show items.toList[i]? = some v by simpa using hv)
    exact ⟨z, t, e2, e3⟩
  · exact ⟨⟨_, Heap.get?_push_of_some _ (Heap.get?_push_size _ rfl), rfl, rfl⟩, (hl.push _).push _⟩
  · refine h h' tk fun b o e => ?_
    have hb := Heap.lt_size e
    refine kp b o (fun q => ?_) (fun q => ?_) (Heap.get?_push_of_some _ (Heap.get?_push_of_some _ e))
    · rw [List.mem_singleton.mp q] at hb
      exact Nat.lt_irrefl _ hb
    · rw [q, e1] at hb
      exact Nat.not_lt.mpr (Nat.le_succ _) hb
end
/-! ### min(xs, default=d) of whole numbers -/
section
variable {prog : Program} {w : World} {A : Around} {E : Value → Shared → Prop}
theorem dargs_min (a d : Value) : argsOk "min" ⟨[a], [(Str.ofString "default", d)]⟩ := by
  unfold argsOk
  kernel_rfl
/-- what is held while it goes on: nothing as yet, or the best of those that came -/
def Held_min (ns : List Int) (j : Nat) (its : Array Value) : Prop := (j = 0 ∧ its = #[]) ∨ (0 < j ∧ ∃ (m : Int) (t : Tok), its = #[.int m t, .int m t] ∧ m ∈ ns.take j ∧ ∀ y ∈ ns.take j, m ≤ y)
theorem dloop_min {R : Result → Shared → Prop} {I S : Addr} {fp wr : List Addr} {n : Nat} {Pv : Nat → Value → Prop} {St : Nat → Heap → Prop} {ns : List Int} {d : Value} (W : Walks prog w A.in1 I fp wr n Pv St) (hSf : S ∉ fp) (hn : ns.length = n)
    (hP : ∀ i v, Pv i v → ∃ (z : Int) (t : Tok), v = .int z t ∧ ns[i]? = some z) :
    ∀ (k j : Nat) (s : Shared) (its : Array Value) (c : Nat), n - j = k → j ≤ n → St j s.heap → s.heap.get? S = some { cls := .type "list", data := .seq its c } → Held_min ns j its →
    (∀ h' tk, (∀ b o, b ∉ wr → b ≠ S → s.heap.get? b = some o → h'.get? b = some o) → (ns = [] → R (.ok (.ret d)) { s with heap := h', toks := tk }) ∧ ∀ m t, m ∈ ns → (∀ y ∈ ns, m ≤ y) → R (.ok (.ret (.int m t))) { s with heap := h', toks := tk }) →
    codeAny (model prog w) A (.builtin "min.loop" ⟨[.ref I, .none, .ref S], [(Str.ofString "default", d)]⟩) R s := by
  have nSw : S ∉ wr := fun z => hSf (W.sub S z)
  have hnm : (toString "min" ++ toString ".loop" : String) = "min.loop" := by decide
  intro k
  induction k with
  | zero =>
    intro j s its c hk hj st hS hh hR
    have ej : j = n := by omega
    subst ej
    refine codeAny_builtin PySem.F.entry_min_loop ?_
    rw [Around.under_plainId PySem.F.plain_min_loop _]
    show wpAny _ A.in1 (seqItems? (.ref S) >>= _) _ _ s
    refine wpAny_bind (wpAny_seqItems hS rfl ?_)
    show wpAny _ A.in1 (tryCatch (pyNext (.ref I)) _ >>= _) _ _ s
    refine wpAny_bind (wpAny_tryCatch (W.done s _ _ st fun h' tk kp => ?_))
    have hS' := kp S _ nSw hS
    rcases hh with ⟨h0, rfl⟩ | ⟨h0, m, t, rfl, hm, hb⟩
    · refine wpAny_bind (wpAny_rule (wpAny_pure ?_))
      exact (hR h' tk fun b o nb _ e => kp b o nb e).1 (List.length_eq_zero_iff.mp (by omega))
    · show wpAny _ A.in1 (updateSeq S (fun _ => #[]) >>= _) _ _ _
      refine wpAny_bind ?_
      refine wpAny_updateSeq hS' rfl (wpAny_bind (wpAny_letGo (wpAny_pure ?_)))
      rw [List.take_of_length_le (by omega)] at hm hb
      exact (hR _ tk fun b o nb nS e => (Heap.get?_update_other _ _ (Ne.symm nS)).trans (kp b o nb e)).2 m t hm hb
  | succ k ih =>
    intro j s its c hk hj st hS hh hR
    have lt : j < n := by omega
    refine codeAny_builtin PySem.F.entry_min_loop ?_
    rw [Around.under_plainId PySem.F.plain_min_loop _]
    show wpAny _ A.in1 (seqItems? (.ref S) >>= _) _ _ s
    refine wpAny_bind (wpAny_seqItems hS rfl ?_)
    show wpAny _ A.in1 (tryCatch (pyNext (.ref I)) _ >>= _) _ _ s
    refine wpAny_bind (wpAny_tryCatch (W.item j s _ _ lt st fun v h' tk pv st' kp => ?_))
    have hS' := kp S _ nSw hS
    obtain ⟨z, tz, rfl, hz⟩ := hP j v pv
    have et : ns.take (j + 1) = ns.take j ++ [z] := by rw [List.take_add_one, hz]; rfl
    rcases hh with ⟨h0, rfl⟩ | ⟨h0, m, t, rfl, hm, hb⟩
    · show wpAny _ A.in1 (updateSeq S (fun _ => #[.int z tz, .int z tz]) >>= _) _ _ _
      refine wpAny_bind ?_
      refine wpAny_updateSeq hS' rfl ?_
      rw [hnm]
      refine wpAny_pure ⟨plainId_quiet PySem.F.plain_min_loop _, ih (j + 1) _ _ _ (by omega) lt (W.frame _ _ _ st' fun b hbf o e => (Heap.get?_update_other _ _ (fun q : S = b => hSf (by rw [q]; exact hbf))).trans e) (Heap.get?_update_self _ hS' rfl) (.inr ⟨by omega, z, tz, rfl, ?_, ?_⟩) fun h'' tk'' kp'' => ?_⟩
      · rw [et]; simp
      · subst h0
        rw [et]
        intro y hy
        simp at hy
        subst hy
        exact Int.le_refl _
      · exact hR h'' tk'' fun b o nb nS e => kp'' b o nb nS ((Heap.get?_update_other _ _ (Ne.symm nS)).trans (kp b o nb e))
    · show wpAny _ A.in1 (tryCatch (holding [.int z tz, .int z tz] (richCompare .Lt (.int z tz) (.int m t) >>= _)) _ >>= _) _ _ _
      refine wpAny_bind (wpAny_tryCatch (wpAny_holding (wpAny_bind (CmpOf.ints_lt (P := fun i v => ∃ t, v = Value.int (if i = 0 then z else m) t) (fun i => if i = 0 then z else m) (fun _ _ h => h) 0 1 _ _ _ _ _ ⟨tz, rfl⟩ ⟨t, rfl⟩ ?_))))
      refine wpAny_bind (wpAny_holding (wpAny_truthy_bool ?_))
      refine wpAny_bind (wpAny_letGo (wpAny_pure ?_))
      show wpAny _ A.in1 (if decide (z < m) = true then _ else _) _ _ _
      by_cases hzm : z < m
      · rw [if_pos (decide_eq_true hzm)]
        refine wpAny_bind ?_
        refine wpAny_updateSeq hS' rfl (wpAny_bind (wpAny_letGo ?_))
        rw [hnm]
        refine wpAny_pure ⟨plainId_quiet PySem.F.plain_min_loop _, ih (j + 1) _ _ _ (by omega) lt (W.frame _ _ _ st' fun b hbf o e => (Heap.get?_update_other _ _ (fun q : S = b => hSf (by rw [q]; exact hbf))).trans e) (Heap.get?_update_self _ hS' rfl) (.inr ⟨by omega, z, tz, rfl, ?_, ?_⟩) fun h'' tk'' kp'' => ?_⟩
        · rw [et]; simp
        · rw [et]
          intro y hy
          rcases List.mem_append.mp hy with hy | hy
          · have := hb y hy
            omega
          · simp at hy
            omega
        · exact hR h'' tk'' fun b o nb nS e => kp'' b o nb nS ((Heap.get?_update_other _ _ (Ne.symm nS)).trans (kp b o nb e))
      · rw [if_neg (by rw [decide_eq_false hzm]; decide)]
        refine wpAny_bind (wpAny_letGo ?_)
        rw [hnm]
        refine wpAny_pure ⟨plainId_quiet PySem.F.plain_min_loop _, ih (j + 1) _ _ c (by omega) lt st' hS' (.inr ⟨by omega, m, t, rfl, ?_, ?_⟩) fun h'' tk'' kp'' => ?_⟩
        · rw [et]; exact List.mem_append_left _ hm
        · rw [et]
          intro y hy
          rcases List.mem_append.mp hy with hy | hy
          · exact hb y hy
          · simp at hy
            omega
        · exact hR h'' tk'' fun b o nb nS e => kp'' b o nb nS (kp b o nb e)
theorem dcall_min {s : Shared} {l : Addr} {items : Array Value} {ns : List Int} {d : Value} {Q : Value → Shared → Prop} (hh : A.handled = none) (hl : s.heap.IsList l items) (hi : IntsAre items.toList ns)
    (h : ∀ h' tk, (∀ b o, s.heap.get? b = some o → h'.get? b = some o) → (ns = [] → Q d { s with heap := h', toks := tk }) ∧ ∀ m t, m ∈ ns → (∀ y ∈ ns, m ≤ y) → Q (.int m t) { s with heap := h', toks := tk }) :
    wpAny (model prog w) A (call (.builtin "min") [.ref l] [(Str.ofString "default", d)]) Q E s := by
  have hnm : (toString "min" ++ toString ".loop" : String) = "min.loop" := by decide
  have hlt : l < s.heap.objs.size := by obtain ⟨_, e, _⟩ := hl; exact Heap.lt_size e
  refine PyProof.Rows.kmk_tree PySem.F.kind_min PySem.F.plain_min PySem.F.entry_min (dargs_min _ _) ?_
  show wpAny _ A.in1 (Builtin.Builtins.bindParams "min" ["key", "default"] 0 ⟨[], [(Str.ofString "default", d)]⟩ >>= _) _ _ s
  refine wpAny_bind (wpAny_of_eq (show Builtin.Builtins.bindParams "min" ["key", "default"] 0 ⟨[], [(Str.ofString "default", d)]⟩ = pure [none, some d] from rfl) ?_)
  refine wpAny_bind (wpAny_pure ?_)
  refine wpAny_bind (wpAny_pyIter_list hl ?_)
  refine wpAny_bind (wpAny_newList ?_ (Nat.zero_le _))
  rw [hnm]
  have W := Walks.list (prog := prog) (w := w) (A := A.in1) hh s.heap.objs.size l (Nat.ne_of_lt hlt) items
  have e1 : (s.heap.push { cls := .type "list_iterator", data := .fields #[.ref l, .int 0 0] }).objs.size = s.heap.objs.size + 1 := Heap.size_push ..
  refine wpAny_pure ⟨plainId_quiet PySem.F.plain_min_loop _, dloop_min (ns := ns) W (fun q => ?_) ?_ (fun i v hv => ?_) items.size 0 _ #[] _ (by omega) (Nat.zero_le _) ?_ (Heap.get?_push_size _ rfl) (.inl ⟨rfl, rfl⟩) fun h' tk kp => ?_⟩
  · rw [e1] at q
    rcases List.mem_cons.mp q with q | q
    · exact Nat.succ_ne_self _ q
    · have q := List.mem_singleton.mp q
      rw [← q] at hlt
      exact Nat.not_lt.mpr (Nat.le_succ _) hlt
  · rw [← hi.length]
    simp
  · obtain ⟨z, t, e2, e3⟩ := ints_get hi (show items.toList[i]? = some v by simpa using hv)
    exact ⟨z, t, e2, e3⟩
  · exact ⟨⟨_, Heap.get?_push_of_some _ (Heap.get?_push_size _ rfl), rfl, rfl⟩, (hl.push _).push _⟩
  · refine h h' tk fun b o e => ?_
    have hb := Heap.lt_size e
    refine kp b o (fun q => ?_) (fun q => ?_) (Heap.get?_push_of_some _ (Heap.get?_push_of_some _ e))
    · rw [List.mem_singleton.mp q] at hb
      exact Nat.lt_irrefl _ hb
    · rw [q, e1] at hb
      exact Nat.not_lt.mpr (Nat.le_succ _) hb
end
/-! ### as rules -/
theorem fold_max : ∀ (ns : List Int) (d : Int), ns ≠ [] → (∀ y ∈ ns, d ≤ y) → ns.foldl max d ∈ ns ∧ ∀ y ∈ ns, y ≤ ns.foldl max d
  | [], _, h, _ => absurd rfl h
  | x :: r, d, _, hd => by
    rw [List.foldl_cons, Int.max_eq_right (hd x (List.mem_cons_self ..))]
    exact go r x
where
  go : ∀ (r : List Int) (x : Int), r.foldl max x ∈ x :: r ∧ ∀ y ∈ x :: r, y ≤ r.foldl max x
    | [], x => ⟨by simp, by simp⟩
    | z :: r, x => by
      obtain ⟨h1, h2⟩ := go r (max x z)
      rw [List.foldl_cons]
      constructor
      · rcases List.mem_cons.mp h1 with e | e
        · rw [e]
          by_cases hx : x ≤ z
          · rw [Int.max_eq_right hx]; simp
          · rw [Int.max_eq_left (by omega)]; simp
        · exact List.mem_cons_of_mem _ (List.mem_cons_of_mem _ e)
      · intro y hy
        have hm := h2 (max x z) (List.mem_cons_self ..)
        rcases List.mem_cons.mp hy with rfl | hy
        · omega
        · rcases List.mem_cons.mp hy with rfl | hy
          · omega
          · exact h2 y (List.mem_cons_of_mem _ hy)
theorem fold_min : ∀ (ns : List Int) (d : Int), ns ≠ [] → (∀ y ∈ ns, y ≤ d) → ns.foldl min d ∈ ns ∧ ∀ y ∈ ns, ns.foldl min d ≤ y
  | [], _, h, _ => absurd rfl h
  | x :: r, d, _, hd => by
    rw [List.foldl_cons, Int.min_eq_right (hd x (List.mem_cons_self ..))]
    exact go r x
where
  go : ∀ (r : List Int) (x : Int), r.foldl min x ∈ x :: r ∧ ∀ y ∈ x :: r, r.foldl min x ≤ y
    | [], x => ⟨by simp, by simp⟩
    | z :: r, x => by
      obtain ⟨h1, h2⟩ := go r (min x z)
      rw [List.foldl_cons]
      constructor
      · rcases List.mem_cons.mp h1 with e | e
        · rw [e]
          by_cases hx : x ≤ z
          · rw [Int.min_eq_left hx]; simp
          · rw [Int.min_eq_right (by omega)]; simp
        · exact List.mem_cons_of_mem _ (List.mem_cons_of_mem _ e)
      · intro y hy
        have hm := h2 (min x z) (List.mem_cons_self ..)
        rcases List.mem_cons.mp hy with rfl | hy
        · omega
        · rcases List.mem_cons.mp hy with rfl | hy
          · omega
          · exact h2 y (List.mem_cons_of_mem _ hy)
/-- max(xs, default=d), d no greater than any of xs -/
def rMaxW (K : PySem.W.Frag) : List V → List V → Hp → VK → Prop := fun vs zs H Q => ∃ (a : Addr) (ns : List Int) (d : Int), vs = [.ref a] ∧ zs = [.int d] ∧ SqL K H a (ns.map V.int) ∧ (∀ y ∈ ns, d ≤ y) ∧ Q (.int (ns.foldl max d)) H
def rMinW (K : PySem.W.Frag) : List V → List V → Hp → VK → Prop := fun vs zs H Q => ∃ (a : Addr) (ns : List Int) (d : Int), vs = [.ref a] ∧ zs = [.int d] ∧ SqL K H a (ns.map V.int) ∧ (∀ y ∈ ns, y ≤ d) ∧ Q (.int (ns.foldl min d)) H
theorem cr_maxW {X : Cx} (hc : X.calm = true) : CallRK X (.builtin "max") ["default"] (rMaxW X.K) := by
  intro pins s σ H vs zs us ws Q I r rz h
  obtain ⟨a, ns, d, rfl, rfl, hs, hd, q⟩ := h
  obtain ⟨its, rv, hl, _⟩ := I.list hs
  obtain ⟨u, rfl, ru⟩ := Vals.one rz
  obtain ⟨td, rfl⟩ := ru
  rw [Vals.ref1 r]
  refine dcall_max (I.ok.hd hc) hl.isList (by simpa using rv.ints) fun h' tk hk => ⟨fun e => ?_, fun m t hm hb => ?_⟩
  · subst e
    exact ⟨.int d, H, I.kept hk, ⟨_, rfl⟩, q⟩
  · have hne : ns ≠ [] := fun e => by rw [e] at hm; simp at hm
    obtain ⟨h1, h2⟩ := fold_max ns d hne hd
    have e : m = ns.foldl max d := Int.le_antisymm (h2 m hm) (hb _ h1)
    exact ⟨.int m, H, I.kept hk, ⟨_, rfl⟩, by rw [e]; exact q⟩
theorem cr_minW {X : Cx} (hc : X.calm = true) : CallRK X (.builtin "min") ["default"] (rMinW X.K) := by
  intro pins s σ H vs zs us ws Q I r rz h
  obtain ⟨a, ns, d, rfl, rfl, hs, hd, q⟩ := h
  obtain ⟨its, rv, hl, _⟩ := I.list hs
  obtain ⟨u, rfl, ru⟩ := Vals.one rz
  obtain ⟨td, rfl⟩ := ru
  rw [Vals.ref1 r]
  refine dcall_min (I.ok.hd hc) hl.isList (by simpa using rv.ints) fun h' tk hk => ⟨fun e => ?_, fun m t hm hb => ?_⟩
  · subst e
    exact ⟨.int d, H, I.kept hk, ⟨_, rfl⟩, q⟩
  · have hne : ns ≠ [] := fun e => by rw [e] at hm; simp at hm
    obtain ⟨h1, h2⟩ := fold_min ns d hne hd
    have e : m = ns.foldl min d := Int.le_antisymm (hb _ h1) (h2 m hm)
    exact ⟨.int m, H, I.kept hk, ⟨_, rfl⟩, by rw [e]; exact q⟩
end Lag

set_option maxRecDepth 100000
set_option maxHeartbeats 4000000
namespace Lag
open PySem PySem.Spec PyProof.Rows L2
abbrev sSumOf : Stmt := topS 32
abbrev sProdOf : Stmt := topS 33
abbrev sMostOf : Stmt := topS 34
abbrev sLeastOf : Stmt := topS 35
abbrev sFirstOf : Stmt := topS 36
abbrev sOneOf : Stmt := topS 37
/-! ### a gate's worth, of the worths that come -/
def kindVal (k : Str) (l : List Int) : Int :=
  if k = "sum" then l.sum % 97 else if k = "times" then l.foldl (fun a b => a * b % 97) 1 else if k = "most" then l.foldl max 0 else if k = "least" then l.foldl min 96
  else if k = "one" then (if l.foldl max 0 > 0 then 1 else 0) else l.headD 0
def WOk1 (l : List Int) : Prop := ∀ y ∈ l, 0 ≤ y ∧ y ≤ 96
theorem kv_sum (l : List Int) : kindVal "sum" l = l.sum % 97 := by unfold kindVal; rw [if_pos rfl]
theorem kv_times (l : List Int) : kindVal "times" l = l.foldl (fun a b => a * b % 97) 1 := by
  unfold kindVal
  rw [if_neg (by decide +kernel), if_pos rfl]
theorem kv_most (l : List Int) : kindVal "most" l = l.foldl max 0 := by
  unfold kindVal
  rw [if_neg (by decide +kernel), if_neg (by decide +kernel), if_pos rfl]
theorem kv_least (l : List Int) : kindVal "least" l = l.foldl min 96 := by
  unfold kindVal
  rw [if_neg (by decide +kernel), if_neg (by decide +kernel), if_neg (by decide +kernel), if_pos rfl]
theorem kv_one (l : List Int) : kindVal "one" l = if l.foldl max 0 > 0 then 1 else 0 := by
  unfold kindVal
  rw [if_neg (by decide +kernel), if_neg (by decide +kernel), if_neg (by decide +kernel), if_neg (by decide +kernel), if_pos rfl]
theorem kv_first (l : List Int) : kindVal "first" l = l.headD 0 := by
  unfold kindVal
  rw [if_neg (by decide +kernel), if_neg (by decide +kernel), if_neg (by decide +kernel), if_neg (by decide +kernel), if_neg (by decide +kernel)]
theorem kv_out (l : List Int) : kindVal "out" l = l.headD 0 := by
  unfold kindVal
  rw [if_neg (by decide +kernel), if_neg (by decide +kernel), if_neg (by decide +kernel), if_neg (by decide +kernel), if_neg (by decide +kernel)]
theorem prod_bound : ∀ (l : List Int) (a : Int), 0 ≤ a ∧ a ≤ 96 → 0 ≤ l.foldl (fun a b => a * b % 97) a ∧ l.foldl (fun a b => a * b % 97) a ≤ 96
  | [], a, h => h
  | x :: l, a, h => by
    rw [List.foldl_cons]
    refine prod_bound l _ ⟨Int.emod_nonneg _ (by decide), ?_⟩
    have := Int.emod_lt_of_pos (a * x) (show (0 : Int) < 97 by decide)
    omega
theorem max_bound : ∀ (l : List Int) (a : Int), WOk1 l → 0 ≤ a ∧ a ≤ 96 → 0 ≤ l.foldl max a ∧ l.foldl max a ≤ 96
  | [], a, _, h => h
  | x :: l, a, hl, h => by
    rw [List.foldl_cons]
    have hx := hl x (List.mem_cons_self ..)
    exact max_bound l _ (fun y hy => hl y (List.mem_cons_of_mem _ hy)) ⟨by omega, by omega⟩
theorem min_bound : ∀ (l : List Int) (a : Int), WOk1 l → 0 ≤ a ∧ a ≤ 96 → 0 ≤ l.foldl min a ∧ l.foldl min a ≤ 96
  | [], a, _, h => h
  | x :: l, a, hl, h => by
    rw [List.foldl_cons]
    have hx := hl x (List.mem_cons_self ..)
    exact min_bound l _ (fun y hy => hl y (List.mem_cons_of_mem _ hy)) ⟨by omega, by omega⟩
theorem kv_bound (k : Str) {l : List Int} (h : WOk1 l) : 0 ≤ kindVal k l ∧ kindVal k l ≤ 96 := by
  unfold kindVal
  split
  · have h1 := Int.emod_nonneg l.sum (show (97 : Int) ≠ 0 by decide)
    have h2 := Int.emod_lt_of_pos l.sum (show (0 : Int) < 97 by decide)
    omega
  split
  · exact prod_bound l 1 (by decide)
  split
  · exact max_bound l 0 h (by decide)
  split
  · exact min_bound l 96 h (by decide)
  split
  · split <;> decide
  · cases l with
    | nil => decide
    | cons x l => exact h x (List.mem_cons_self ..)
def spR (K : PySem.W.Frag) (k : Str) : Sp := fun vs H Q _ => ∃ (a : Addr) (ns : List Int), vs = [.ref a] ∧ SqL K H a (ns.map V.int) ∧ WOk1 ns ∧ (k = "out" ∨ k = "first" → ns ≠ []) ∧ Q (.int (kindVal k ns)) H
section
variable {P : Program} {w : World} {K : PySem.W.Frag} {mg : Str → Option Value} {base : Heap}
theorem int_at {l : List Int} {i : Nat} {x : V} (h : (l.map V.int)[i]? = some x) : ∃ z, l[i]? = some z ∧ x = V.int z := by
  rw [List.getElem?_map] at h
  cases e : l[i]? with
  | none =>
    rw [e] at h
    cases h
  | some z =>
    rw [e] at h
    exact ⟨z, rfl, (Option.some.inj h).symm⟩
theorem scSumOf : FnScope ["coming"] ["coming"] (defScope sSumOf) := ⟨rfl, rfl, rfl, by decide +kernel, rfl, by decide +kernel, by decide +kernel⟩
theorem ok_sumOf {f : Addr} {fd : FuncData} (F : Fun K "sum_of" "sum_of" sSumOf f fd) (ms : mg "sum" = none) (md : ∃ t, mg "DIVISOR" = some (.int 97 t)) : FnOk P w K mg base CX0 1 f fd ["coming"] (spR K "sum") := by
  obtain ⟨td, hd⟩ := md
  refine F.ok scSumOf (fun vs H Q E h => ?_) (fun cdv A outer s H vs Q E hr h => ?_)
  · obtain ⟨a, ns, rfl, _⟩ := h
    rfl
  · obtain ⟨a, ns, rfl, sq, _, _, q⟩ := h
    refine ⟨_, pss_one <| ps_ret <| pe_op op_mod (pe_callB (cr_sum rfl) (by rfl) ms (by decide +kernel) (pa_cons (pv 0) pa_nil)) (pe_glob (v := .int 97) (by rfl) hd ⟨_, rfl⟩), ?_⟩
    refine ⟨_, rfl, a, ns, rfl, sq, _, _, rfl, rfl, (by show (0 : Int) < 97; decide), ?_⟩
    rw [kv_sum] at q
    exact q
theorem scProdOf : FnScope ["coming", "told", "worth"] ["coming"] (defScope sProdOf) := ⟨rfl, rfl, rfl, by decide +kernel, rfl, by decide +kernel, by decide +kernel⟩
theorem ok_prodOf {f : Addr} {fd : FuncData} (F : Fun K "product_of" "product_of" sProdOf f fd) (md : ∃ t, mg "DIVISOR" = some (.int 97 t)) : FnOk P w K mg base CX0 1 f fd ["coming"] (spR K "times") := by
  obtain ⟨td, hd⟩ := md
  refine F.ok scProdOf (fun vs H Q E h => ?_) (fun cdv A outer s H vs Q E hr h => ?_)
  · obtain ⟨a, ns, rfl, _⟩ := h
    rfl
  · obtain ⟨a, ns, rfl, sq, hw, _, q⟩ := h
    have nd := scProdOf.nd
    refine ⟨_, pss_cons (ps_set (i := 1) nd rfl (.inl rfl) pe_int) <| pss_cons (ps_for PassesOwn.never rfl (pi_list (pv 0)) (pg_name (i := 2) nd rfl (.inl rfl)) <|
      pss_one <| ps_set (i := 1) nd rfl (.inl rfl) <| pe_op op_mod (pe_op op_mul (pv 1) (pv 2)) (pe_glob (v := .int 97) (by rfl) hd ⟨_, rfl⟩)) <| pss_one <| ps_ret (pv 1), ?_⟩
    refine ⟨_, rfl, a, rfl, ⟨_, sq⟩, for_list (K := K) (a := a) (xs := ns.map V.int) (fun i σ H' => ∃ y, σ = [some (.ref a), some (.int ((ns.take i).foldl (fun a b => a * b % 97) 1)), y] ∧ H' = H) ⟨_, rfl, rfl⟩ (fun i σ H' _ ⟨_, _, e⟩ => by rw [e]; exact sq) ?_ ?_⟩
    · rintro i x σ H' hx ⟨y, rfl, rfl⟩
      obtain ⟨z, hz, rfl⟩ := int_at hx
      have hb := prod_bound (ns.take i) 1 (by decide)
      refine ⟨_, rfl, _, rfl, _, _, rfl, rfl, .inl ⟨by omega, by omega⟩, _, _, rfl, rfl, (by show (0 : Int) < 97; decide), some (.int z), ?_, rfl⟩
      rw [List.take_add_one, hz, List.foldl_append]
      rfl
    · rintro σ H' ⟨y, rfl, rfl⟩
      rw [List.length_map, List.take_length]
      rw [kv_times] at q
      exact ⟨_, rfl, q⟩
theorem scMostOf : FnScope ["coming"] ["coming"] (defScope sMostOf) := ⟨rfl, rfl, rfl, by decide +kernel, rfl, by decide +kernel, by decide +kernel⟩
theorem ok_mostOf {f : Addr} {fd : FuncData} (F : Fun K "most_of" "most_of" sMostOf f fd) (mm : mg "max" = none) : FnOk P w K mg base CX0 1 f fd ["coming"] (spR K "most") := by
  refine F.ok scMostOf (fun vs H Q E h => ?_) (fun cdv A outer s H vs Q E hr h => ?_)
  · obtain ⟨a, ns, rfl, _⟩ := h
    rfl
  · obtain ⟨a, ns, rfl, sq, hw, _, q⟩ := h
    refine ⟨_, pss_one <| ps_ret <| pe_callBK (cr_maxW rfl) (by rfl) mm (by decide +kernel) (pa_cons (pv 0) pa_nil) (pk_cons pe_int pk_nil), ?_⟩
    rw [kv_most] at q
    exact ⟨_, rfl, a, ns, 0, rfl, rfl, sq, fun y hy => (hw y hy).1, q⟩
theorem scLeastOf : FnScope ["coming"] ["coming"] (defScope sLeastOf) := ⟨rfl, rfl, rfl, by decide +kernel, rfl, by decide +kernel, by decide +kernel⟩
theorem ok_leastOf {f : Addr} {fd : FuncData} (F : Fun K "least_of" "least_of" sLeastOf f fd) (mm : mg "min" = none) (mw : ∃ t, mg "GREATEST_WORTH" = some (.int 96 t)) : FnOk P w K mg base CX0 1 f fd ["coming"] (spR K "least") := by
  obtain ⟨td, hd⟩ := mw
  refine F.ok scLeastOf (fun vs H Q E h => ?_) (fun cdv A outer s H vs Q E hr h => ?_)
  · obtain ⟨a, ns, rfl, _⟩ := h
    rfl
  · obtain ⟨a, ns, rfl, sq, hw, _, q⟩ := h
    refine ⟨_, pss_one <| ps_ret <| pe_callBK (cr_minW rfl) (by rfl) mm (by decide +kernel) (pa_cons (pv 0) pa_nil) (pk_cons (pe_glob (v := .int 96) (by rfl) hd ⟨_, rfl⟩) pk_nil), ?_⟩
    rw [kv_least] at q
    exact ⟨_, rfl, a, ns, 96, rfl, rfl, sq, fun y hy => (hw y hy).2, q⟩
theorem scFirstOf : FnScope ["coming"] ["coming"] (defScope sFirstOf) := ⟨rfl, rfl, rfl, by decide +kernel, rfl, by decide +kernel, by decide +kernel⟩
theorem ok_firstOf {f : Addr} {fd : FuncData} {k : Str} (hk : k = "out" ∨ k = "first") (F : Fun K "first_of" "first_of" sFirstOf f fd) : FnOk P w K mg base CX0 1 f fd ["coming"] (spR K k) := by
  refine F.ok scFirstOf (fun vs H Q E h => ?_) (fun cdv A outer s H vs Q E hr h => ?_)
  · obtain ⟨a, ns, rfl, _⟩ := h
    rfl
  · obtain ⟨a, ns, rfl, sq, hw, hne, q⟩ := h
    refine ⟨_, pss_one <| ps_ret <| pe_ix ix_list (pv 0) pe_int (fun _ _ => rfl), ?_⟩
    have e : kindVal k ns = ns.headD 0 := by
      rcases hk with rfl | rfl
      · exact kv_out ns
      · exact kv_first ns
    cases ns with
    | nil => exact absurd rfl (hne hk)
    | cons x r =>
      rw [e] at q
      exact ⟨_, rfl, a, _, 0, .int x, rfl, rfl, sq, atI_nat (j := 0) rfl, q⟩
theorem scOneOf : FnScope ["coming"] ["coming"] (defScope sOneOf) := ⟨rfl, rfl, rfl, by decide +kernel, rfl, by decide +kernel, by decide +kernel⟩
theorem ok_oneOf {f : Addr} {fd : FuncData} (F : Fun K "one_of" "one_of" sOneOf f fd) (mm : mg "max" = none) : FnOk P w K mg base CX0 1 f fd ["coming"] (spR K "one") := by
  refine F.ok scOneOf (fun vs H Q E h => ?_) (fun cdv A outer s H vs Q E hr h => ?_)
  · obtain ⟨a, ns, rfl, _⟩ := h
    rfl
  · obtain ⟨a, ns, rfl, sq, hw, _, q⟩ := h
    refine ⟨_, pss_one <| ps_ret <| pe_ifExp (pt_cmpR op_gt (pe_callBK (cr_maxW rfl) (by rfl) mm (by decide +kernel) (pa_cons (pv 0) pa_nil) (pk_cons pe_int pk_nil)) pe_int (nomark _)) pe_int pe_int, ?_⟩
    rw [kv_one] at q
    refine ⟨_, rfl, a, ns, 0, rfl, rfl, sq, fun y hy => (hw y hy).1, _, _, rfl, rfl, _, rfl, ite2 (fun e => ?_) (fun e => ?_)⟩
    · rw [if_pos (of_decide_eq_true e)] at q
      exact q
    · rw [if_neg (fun z => e (decide_eq_true z))] at q
      exact q
end
end Lag

set_option maxRecDepth 100000
set_option maxHeartbeats 8000000
namespace Lag
open PySem PySem.Spec PyProof.Rows L2
abbrev sWorths : Stmt := topS 39
abbrev sComing : Stmt := topS 40
abbrev sWireWorth : Stmt := topS 41
abbrev sChkRow : Stmt := topS 42
/-! ### worths in a beat: the mathematics -/
/-- a wire's worth, of the gates' worths ts -/
def wv (ts : List Int) (x : Wr) : Int := match x.2.2 with
  | r :: _ => r
  | [] => ts.getD x.1 0
def cmg (ws : List Wr) (ts : List Int) (g : Nat) : List Int := (ws.filter fun x => x.2.1 == g).map (wv ts)
/-- ts are the gates' worths where rs is put in -/
structure IsW (gs : List Gt) (ws : List Wr) (rs ts : List Int) : Prop where
  len : ts.length = gs.length
  put : ∀ (i g : Nat) (r : Int), (plc gs "in" gs.length)[i]? = some g → rs[i]? = some r → ts.getD g 0 = r
  eq : ∀ g, g < gs.length → kindAt gs g ≠ "in" → ts.getD g 0 = kindVal (kindAt gs g) (cmg ws ts g)
theorem mem_plc {gs : List Gt} {k : Str} {n g : Nat} : g ∈ plc gs k n ↔ g < n ∧ kindAt gs g = k := by
  unfold plc
  rw [List.mem_filter, List.mem_range]
  simp
theorem wv_congr {ts ts' : List Int} {x : Wr} (h : x.2.2 = [] → ts.getD x.1 0 = ts'.getD x.1 0) : wv ts x = wv ts' x := by
  unfold wv
  cases e : x.2.2 with
  | nil => exact h e
  | cons r l => rfl
theorem IsW.unique {gs : List Gt} {ws : List Wr} {rs ts ts' : List Int} (N : NetOk gs ws) (hr : rs.length = (plc gs "in" gs.length).length) (h : IsW gs ws rs ts) (h' : IsW gs ws rs ts') : ts = ts' := by
  obtain ⟨ρ, hρ⟩ := N.rank
  have all : ∀ r g, g < gs.length → ρ g = r → ts.getD g 0 = ts'.getD g 0 := by
    intro r
    induction r using Nat.strongRecOn with
    | ind r ih =>
      intro g hg hrg
      by_cases hk : kindAt gs g = "in"
      · have hm : g ∈ plc gs "in" gs.length := mem_plc.mpr ⟨hg, hk⟩
        obtain ⟨i, hi⟩ := List.getElem?_of_mem hm
        have hil : i < rs.length := by
          rw [hr]
          exact (List.getElem?_eq_some_iff.mp hi).1
        rw [h.put i g _ hi (List.getElem?_eq_getElem hil), h'.put i g _ hi (List.getElem?_eq_getElem hil)]
      · rw [h.eq g hg hk, h'.eq g hg hk]
        have e : cmg ws ts g = cmg ws ts' g := by
          unfold cmg
          refine List.map_congr_left fun x hx => ?_
          rw [List.mem_filter] at hx
          have hxg : x.2.1 = g := by simpa using hx.2
          refine wv_congr fun hb => ?_
          have := hρ x hx.1 hb
          exact ih (ρ x.1) (by rw [← hrg, ← hxg]; exact this) x.1 (N.wok x hx.1).s rfl
        rw [e]
  refine List.ext_getElem? fun i => ?_
  by_cases hi : i < gs.length
  · have h1 : i < ts.length := by rw [h.len]; exact hi
    have h2 : i < ts'.length := by rw [h'.len]; exact hi
    have e := all _ i hi rfl
    rw [List.getD_eq_getElem?_getD, List.getD_eq_getElem?_getD, List.getElem?_eq_getElem h1, List.getElem?_eq_getElem h2] at e
    rw [List.getElem?_eq_getElem h1, List.getElem?_eq_getElem h2]
    exact congrArg some e
  · rw [List.getElem?_eq_none (by rw [h.len]; omega), List.getElem?_eq_none (by rw [h'.len]; omega)]
theorem getD_set {ts : List Int} {g i : Nat} {z : Int} (hg : g < ts.length) : (ts.set g z).getD i 0 = if i = g then z else ts.getD i 0 := by
  rw [List.getD_eq_getElem?_getD, List.getD_eq_getElem?_getD, List.getElem?_set]
  by_cases e : g = i
  · subst e
    rw [if_pos rfl, if_pos rfl, if_pos hg]
    rfl
  · rw [if_neg e, if_neg (fun z => e z.symm)]
theorem wok_getD {ts : List Int} (h : WOk1 ts) (i : Nat) : 0 ≤ ts.getD i 0 ∧ ts.getD i 0 ≤ 96 := by
  rw [List.getD_eq_getElem?_getD]
  cases e : ts[i]? with
  | none => decide
  | some z => exact h z (List.mem_of_getElem? e)
theorem wv_bound {gs : List Gt} {ws : List Wr} {ts : List Int} (N : NetOk gs ws) (h : WOk1 ts) {x : Wr} (hx : x ∈ ws) : 0 ≤ wv ts x ∧ wv ts x ≤ 96 := by
  have W := N.wok x hx
  unfold wv
  cases e : x.2.2 with
  | nil => exact wok_getD h x.1
  | cons r l => exact W.r r (by rw [e]; exact List.mem_cons_self ..)
theorem cmg_bound {gs : List Gt} {ws : List Wr} {ts : List Int} (N : NetOk gs ws) (h : WOk1 ts) (g : Nat) : WOk1 (cmg ws ts g) := by
  intro y hy
  obtain ⟨x, hx, rfl⟩ := List.mem_map.mp hy
  exact wv_bound N h (List.mem_filter.mp hx).1
theorem cmg_ne {gs : List Gt} {ws : List Wr} {ts : List Int} (N : NetOk gs ws) {g : Nat} (hg : g < gs.length) (hk : kindAt gs g = "out" ∨ kindAt gs g = "first") : cmg ws ts g ≠ [] := by
  have hp : 1 ≤ cnt ws g := by
    rcases hk with hk | hk
    · have := N.one g hg hk
      omega
    · exact N.some g hg hk
  intro z
  have hl := congrArg List.length z
  unfold cmg at hl
  rw [List.length_map, List.length_nil] at hl
  unfold cnt at hp
  rw [List.countP_eq_length_filter, hl] at hp
  omega
/-! ### promises -/
def spWireWorth (K : PySem.W.Frag) : Sp := fun vs H Q _ => ∃ (v : V) (x : Wr) (lt : Addr) (ts : List Int), vs = [v, .ref lt] ∧ WireV K H v x ∧ SqL K H lt (ts.map V.int) ∧ x.1 < ts.length ∧ Q (.int (wv ts x)) H
def spComing (K : PySem.W.Frag) : Sp := fun vs H Q _ => ∃ (g : Nat) (lw lt : Addr) (ws : List Wr) (ts : List Int), vs = [.int (g : Nat), .ref lw, .ref lt] ∧ RW K H lw ws ∧ SqL K H lt (ts.map V.int) ∧ (∀ x ∈ ws, x.1 < ts.length) ∧ ws.length ≤ 1000 ∧
  ∀ p H', H p = none → Same H H' → H' p = some (.lst ((cmg ws ts g).map V.int)) → Q (.ref p) H'
def spChkRow (K : PySem.W.Frag) (C : Addr) : Sp := fun vs H Q _ => ∃ (p ng nw lr : Addr) (gs : List Gt) (ws : List Wr) (rs : List Int), vs = [.ref p, .ref lr] ∧ NetAt K C H p ng nw gs ws ∧ gs.length ≤ 1000 ∧ SqL K H lr (rs.map V.int) ∧ rs.length = (plc gs "in" gs.length).length ∧ WOk1 rs ∧ ∀ H', Same H H' → Q .non H'
def spWorths (K : PySem.W.Frag) (C : Addr) : Sp := fun vs H Q _ => ∃ (p ng nw lr : Addr) (gs : List Gt) (ws : List Wr) (rs : List Int), vs = [.ref p, .ref lr] ∧ NetAt K C H p ng nw gs ws ∧ NetOk gs ws ∧ SqL K H lr (rs.map V.int) ∧ rs.length = (plc gs "in" gs.length).length ∧ WOk1 rs ∧
  ∀ l H' ts, H l = none → Same H H' → IsW gs ws rs ts → WOk1 ts → H' l = some (.lst (ts.map V.int)) → Q (.ref l) H'
section
variable {P : Program} {w : World} {K : PySem.W.Frag} {mg : Str → Option Value} {base : Heap}
theorem scWireWorth : FnScope ["wire", "told", "start", "end", "held"] ["wire", "told"] (defScope sWireWorth) := ⟨rfl, rfl, rfl, by decide +kernel, rfl, by decide +kernel, by decide +kernel⟩
abbrev DWireWorth (P : Program) (w : World) (K : PySem.W.Frag) (mg : Str → Option Value) (base : Heap) := Df P w K mg base 1 "wire_worth" ["wire", "told"] (spWireWorth K)
theorem ok_wireWorth {f : Addr} {fd : FuncData} (F : Fun K "wire_worth" "wire_worth" sWireWorth f fd) (hm : mg "wire_worth" = some (.ref f)) (B : Bt mg) : DWireWorth P w K mg base f fd := by
  refine ⟨?_, hm, F.kp, F.binds fun _ _ _ _ _ _ us hl => match us, hl with | [_, _], _ => rfl⟩
  refine F.ok scWireWorth (fun vs H Q E h => ?_) (fun cdv A outer s H vs Q E hr h => ?_)
  · obtain ⟨v, x, lt, ts, rfl, _⟩ := h
    rfl
  · obtain ⟨v, x, lt, ts, rfl, ⟨a, b, rfl, sq1, sq2⟩, st, hx, q⟩ := h
    have nd := scWireWorth.nd
    refine ⟨_, pss_cons (ps_asg (pv 0) (pg_tup (by rfl) (pgs_cons (pg_name (i := 2) nd rfl (.inl rfl)) (pgs_cons (pg_name (i := 3) nd rfl (.inl rfl)) (pgs_cons (pg_name (i := 4) nd rfl (.inl rfl)) pgs_nil))))) <|
      pss_one <| ps_ret <| pe_ifExp (pt_cmpR op_gt (pe_callB call_len_seq (by rfl) B.len PySem.boot_len (pa_cons (pv 4) pa_nil)) pe_int (nomark _)) (pe_ix ix_tup (pv 4) pe_int (fun _ _ => rfl)) (pe_ix ix_list (pv 1) (pv 2) (fun _ _ => rfl)), ?_⟩
    refine ⟨_, rfl, a, _, rfl, sq1, rfl, _, _, rfl, _, _, rfl, _, _, rfl, rfl, ?_⟩
    refine ⟨_, rfl, b, _, rfl, .inr sq2, _, _, rfl, rfl, _, rfl, ite2 (fun e => ?_) (fun e => ?_)⟩
    · cases er : x.2.2 with
      | nil =>
        rw [er] at e
        exact absurd (of_decide_eq_true e) (by decide)
      | cons r l =>
        rw [er] at sq2
        have ew : wv ts x = r := by unfold wv; rw [er]
        rw [ew] at q
        exact ⟨_, rfl, b, _, 0, .int r, rfl, rfl, sq2, atI_nat (j := 0) rfl, q⟩
    · have er : x.2.2 = [] := by
        cases er : x.2.2 with
        | nil => rfl
        | cons r l =>
          rw [er] at e
          exfalso
          apply e
          refine decide_eq_true ?_
          rw [List.length_map, List.length_cons]
          omega
      have ew : wv ts x = ts.getD x.1 0 := by unfold wv; rw [er]
      rw [ew, List.getD_eq_getElem?_getD, List.getElem?_eq_getElem hx] at q
      exact ⟨_, rfl, _, rfl, lt, _, _, .int (ts[x.1]'hx), rfl, rfl, st, atI_nat (by rw [List.getElem?_map, List.getElem?_eq_getElem hx]; rfl), q⟩
abbrev nComing : List Str := ["gate", "wires", "told", "wire"]
theorem scComing : FnScope nComing ["gate", "wires", "told"] (defScope sComing) := ⟨rfl, rfl, rfl, by decide +kernel, rfl, by decide +kernel, by decide +kernel⟩
abbrev DComing (P : Program) (w : World) (K : PySem.W.Frag) (mg : Str → Option Value) (base : Heap) := Df P w K mg base 2 "coming_to" ["gate", "wires", "told"] (spComing K)
theorem cmg_take {ws : List Wr} {ts : List Int} {g i : Nat} {x : Wr} (h : ws[i]? = some x) : cmg (ws.take (i + 1)) ts g = if x.2.1 = g then cmg (ws.take i) ts g ++ [wv ts x] else cmg (ws.take i) ts g := by
  unfold cmg
  rw [List.take_add_one, h]
  show ((ws.take i ++ [x]).filter _).map _ = _
  rw [List.filter_append, List.filter_cons]
  by_cases e : x.2.1 = g
  · rw [if_pos e, if_pos (by simpa using e), List.map_append]
    rfl
  · rw [if_neg e, if_neg (by simpa using e), List.filter_nil, List.append_nil]
theorem cmg_len (ws : List Wr) (ts : List Int) (g : Nat) : (cmg ws ts g).length ≤ ws.length := by
  unfold cmg
  rw [List.length_map]
  exact List.length_filter_le _ _
theorem ok_coming {f fW : Addr} {fd fdW : FuncData} (F : Fun K "coming_to" "coming_to" sComing f fd) (hm : mg "coming_to" = some (.ref f)) (DW : DWireWorth P w K mg base fW fdW) : DComing P w K mg base f fd := by
  refine ⟨?_, hm, F.kp, F.binds fun _ _ _ _ _ _ us hl => match us, hl with | [_, _, _], _ => rfl⟩
  refine F.ok scComing (fun vs H Q E h => ?_) (fun cdv A outer s H vs Q E hr h => ?_)
  · obtain ⟨g, lw, lt, ws, ts, rfl, _⟩ := h
    rfl
  · obtain ⟨g, lw, lt, ws, ts, rfl, ⟨vw, sw, wa⟩, st, hx, hl, q⟩ := h
    have nd := scComing.nd
    refine ⟨_, pss_one <| ps_ret <| pe_lc (own := [("wire", 3)]) (g := gName 3) (tt := tTest (tOp rEq (tOp (rIxT K) (tVar 3) (tC (.int 1))) (tVar 0))) (te := tCall (spWireWorth K) [] E0 (tCons (tVar 3) (tCons (tVar 2) tNil))) rfl nd
      (pi_list (pv 1)) (blkOk_by (N := nComing) (sc := defScope sComing) (own := [("wire", 3)]) (by decide +kernel)) (fun _ _ _ _ _ => pg_name (i := 3) nd rfl (.inl rfl))
      (fun _ _ _ _ _ => pts_one (pt_cmpR op_eq (pe_ix ix_tup (pv 3) pe_int (fun _ _ => rfl)) (pv 0) (nomark _))) (fun _ _ _ _ _ => pe_call DW.ok hr (by rfl) DW.mg DW.kp DW.bd .nil pass0 (pa_cons (pv 3) (pa_cons (pv 2) pa_nil))), ?_⟩
    have hlw : vw.length = ws.length := wa.1
    refine ⟨_, rfl, lw, rfl, ⟨_, sw⟩, fun D hD => ?_⟩
    refine lc_list (K := K) (a := lw) (xs := vw) (fun i Hc => Hc D = some (.lst ((cmg (ws.take i) ts g).map V.int)) ∧ Same H Hc) ⟨upd_same, same_new hD⟩ (fun i Hc _ ⟨_, sm⟩ => sm.seq sw) ?_ ?_
    · rintro i v Hc hv ⟨hc, sm⟩
      obtain ⟨x, hxi, wx⟩ := wa.get hv
      have hwx := wx
      obtain ⟨a, b, rfl, sq1, sq2⟩ := wx
      have hlen : ((cmg (ws.take i) ts g).map V.int).length ≤ 1000 := by
        rw [List.length_map]
        have := cmg_len (ws.take i) ts g
        rw [List.length_take] at this
        omega
      refine ⟨rfl, ?_⟩
      refine ⟨_, rfl, a, _, 1, _, rfl, rfl, (TK.same sm).seq sq1, atI_nat (j := 1) rfl, _, rfl, rfl, _, rfl, ite2 (fun e => ?_) (fun e => ?_)⟩
      · have hg : x.2.1 = g := by
          have := V.int.inj (of_decide_eq_true e)
          omega
        refine ⟨_, rfl, _, rfl, _, x, lt, ts, rfl, hwx.tk (TK.same sm), sm.seq st, hx x (List.mem_of_getElem? hxi), _, hc, Nat.lt_of_le_of_lt hlen (small1000 (Nat.le_refl _)), ?_, same_mut sm hD⟩
        rw [upd_same, cmg_take hxi, if_pos hg, List.map_append]
        rfl
      · have hg : ¬ x.2.1 = g := fun z => e (decide_eq_true (by rw [z]))
        refine ⟨?_, sm⟩
        rw [cmg_take hxi, if_neg hg]
        exact hc
    · rintro Hc ⟨hc, sm⟩
      rw [hlw, List.take_length] at hc
      exact q D Hc hD sm hc
end
end Lag

set_option maxRecDepth 100000
set_option maxHeartbeats 8000000
namespace Lag
open PySem PySem.Spec PyProof.Rows L2
/-- a call of the def that a slot holds, told with it -/
theorem pe_callD {X : Cx} {k i : Nat} {x : Str} {p pos : Pos} {e : Expr} {es : List Expr} {t : TA} (hr : Room k X.A) (hN : X.N[i]? = some x) (hv : Vis X.env.scope x) (ha : PA X (e :: es) t)
    (hdb : (x == ("__debug__" : Str)) = false := by decide) (hcd : (x == ("__classdict__" : Str)) = false := by decide)
    (he : starEach (e :: es) X.env = (false, eval e X.env) :: starEach es X.env := by rfl) (hpl : (backTo pos (starEach es X.env)).any (·.1) = false := by rfl) :
    PE X (.Call (.Name x p) (e :: es) [] pos) (fun σ H Q => ∃ f fd ps sp, FnOk X.prog X.w X.K X.mg X.base CX0 k f fd ps sp ∧ PySem.W.keepIn X.K (.ref f) = true ∧ Binds X.K fd ps [] ∧ tCallL i f sp [] E0 t σ H Q) := by
  refine ⟨fun pins s σ H Q I h => ?_⟩
  obtain ⟨f, fd, ps, sp, F, hk, hb, h⟩ := h
  exact (pe_callL F hr hN hv hk hb .nil pass0 ha hdb hcd he hpl).run pins s σ H Q I h
/-- the rules by their kinds -/
structure Rl (P : Program) (w : World) (K : PySem.W.Frag) (mg : Str → Option Value) (base : Heap) (aR : Addr) : Prop where
  mR : mg "RULES" = some (.ref aR)
  kd : ∀ k ∈ kinds, k ≠ "in" → ∃ f fd, KDct K w aR k (.ref f) ∧ FnOk P w K mg base CX0 1 f fd ["coming"] (spR K k) ∧ PySem.W.keepIn K (.ref f) = true ∧ Binds K fd ["coming"] []
theorem rs_all {K : PySem.W.Frag} {H : Hp} (b : Bool) : True := trivial
section
variable {P : Program} {w : World} {K : PySem.W.Frag} {mg : Str → Option Value} {base : Heap}
/-! ### check_row -/
abbrev nChkRow : List Str := ["net", "row", "worth"]
theorem scChkRow : FnScope nChkRow ["net", "row"] (defScope sChkRow) := ⟨rfl, rfl, rfl, by decide +kernel, rfl, by decide +kernel, by decide +kernel⟩
abbrev DChkRow (P : Program) (w : World) (K : PySem.W.Frag) (mg : Str → Option Value) (base : Heap) (C : Addr) := Df P w K mg base 4 "check_row" ["net", "row"] (spChkRow K C)
theorem ok_chkRow {f fW fN C : Addr} {fd fdW fdN : FuncData} (F : Fun K "check_row" "check_row" sChkRow f fd) (hm : mg "check_row" = some (.ref f)) (B : Bt mg) (T : NT K mg C) (DW : DWorth P w K mg base fW fdW) (ins : FnOk P w K mg base CX0 2 fN fdN ["self"] (spPorts K C "in")) (mN : Meth K C "ins" fN) (bN : Binds K fdN ["self"] []) : DChkRow P w K mg base C f fd := by
  refine ⟨?_, hm, F.kp, F.binds fun _ _ _ _ _ _ us hl => match us, hl with | [_, _], _ => rfl⟩
  refine F.ok scChkRow (fun vs H Q E h => ?_) (fun cdv A outer s H vs Q E hr h => ?_)
  · obtain ⟨p, ng, nw, lr, gs, ws, rs, rfl, _⟩ := h
    rfl
  · obtain ⟨p, ng, nw, lr, gs, ws, rs, rfl, N, hgl, sr, hl, hw, q⟩ := h
    have nd := scChkRow.nd
    have hr2 : Room 2 _ := hr.mono (by decide)
    refine ⟨_, pss_cons (ps_if (PW.pt (pw_or (pt_not (pt_val (pe_callB call_isi (by rfl) B.isi (by decide +kernel) (pa_cons (pv 1) (pa_cons (pe_bltn (v := .ty "list") (by rfl) B.list (by decide +kernel) rfl) pa_nil)))))
          (pw_or1 (pt_cmpR op_ne (pe_callB call_len_seq (by rfl) B.len PySem.boot_len (pa_cons (pv 1) pa_nil)) (pe_callB call_len_seq (by rfl) B.len PySem.boot_len (pa_cons (pe_meth0 (pv 0) T.cl mN ins hr2 bN .nil pass0) pa_nil)) (nomark _))))) (pss_one ps_never) pss_nil) <|
      pss_one <| ps_if (pt_not (pt_val (pe_callB (cr_all rfl) (by rfl) B.all (by decide +kernel) <| (pa_cons · pa_nil) <| pe_lc (own := [("worth", 2)]) (g := gName 2) (tt := tYes) (te := tCall spWorth [] E0 (tCons (tVar 2) tNil)) rfl nd (pi_list (pv 1)) (blkOk_by (N := nChkRow) (sc := defScope sChkRow) (own := [("worth", 2)]) (by decide +kernel))
          (fun _ _ _ _ _ => pg_name (i := 2) nd rfl (.inl rfl)) (fun _ _ _ _ _ => pts_nil) (fun _ _ _ _ _ => pe_call DW.ok hr (by rfl) DW.mg DW.kp DW.bd .nil pass0 (pa_cons (pv 2) pa_nil))))) (pss_one ps_never) pss_nil, ?_⟩
    obtain ⟨dx, ob⟩ := N.ob
    have hpl := plc_len gs "in" gs.length
    refine ⟨_, rfl, _, _, _, _, true, rfl, .ty "list", ty_lst sr, kit_ty (by decide +kernel), true, rfl, iteF ?_⟩
    refine ⟨_, rfl, lr, _, rfl, .inl sr, _, rfl, p, dx, _, rfl, ob, nf_no _ _ (by decide +kernel) (by decide +kernel), p, ng, nw, gs, ws, rfl, N, hgl, fun l1 H1 hl1 sm1 el1 => ?_⟩
    refine ⟨l1, _, rfl, .inl (SqL.of el1), rfl, false, ?_, iteF ?_⟩
    · show V.bl (!decide (V.int (((rs.map V.int).length : Nat) : Int) = V.int ((((plc gs "in" gs.length).map fun i => V.int (i : Nat)).length : Nat) : Int))) = V.bl false
      rw [List.length_map, List.length_map, hl, decide_eq_true rfl]
      rfl
    refine ⟨_, rfl, lr, rfl, ⟨_, sm1.seq sr⟩, fun D hD => ?_⟩
    refine lc_list (K := K) (a := lr) (xs := rs.map V.int) (fun i Hc => Hc D = some (.lst ((List.replicate i true).map V.bl)) ∧ Same H1 Hc) ⟨upd_same, same_new hD⟩ (fun i Hc _ ⟨_, sm⟩ => (sm1.trans sm).seq sr) ?_ ?_
    · rintro i y Hc hy ⟨hc, sm⟩
      obtain ⟨z, ez, rfl⟩ := int_at hy
      have hz := hw z (List.mem_of_getElem? ez)
      have hi : i < rs.length := (List.getElem?_eq_some_iff.mp ez).1
      refine ⟨rfl, tyes ?_⟩
      refine ⟨_, rfl, z, rfl, _, hc, by rw [List.length_map, List.length_replicate]; exact small1000 (by omega), ?_, same_mut sm hD⟩
      rw [upd_same, decide_eq_true hz.1, decide_eq_true hz.2, List.replicate_succ', List.map_append]
      rfl
    · rintro Hc ⟨hc, sm⟩
      refine ⟨D, _, rfl, SqL.of hc, true, ?_, iteF (q Hc (sm1.trans sm))⟩
      have e : (List.replicate (rs.map V.int).length true).all id = true := by
        rw [List.all_eq_true]
        intro y hy
        rw [List.mem_replicate] at hy
        rw [hy.2]
        rfl
      rw [e]
/-! ### worths -/
theorem scWorths : FnScope ["net", "row", "told", "gate", "put", "kind", "rule"] ["net", "row"] (defScope sWorths) := ⟨rfl, rfl, rfl, by decide +kernel, rfl, by decide +kernel, by decide +kernel⟩
abbrev DWorths (P : Program) (w : World) (K : PySem.W.Frag) (mg : Str → Option Value) (base : Heap) (C : Addr) := Df P w K mg base 5 "worths" ["net", "row"] (spWorths K C)
theorem set_int {ts : List Int} {g : Nat} {z : Int} : (ts.map V.int).set g (V.int z) = (ts.set g z).map V.int := by simp [List.map_set]
theorem wok_set {ts : List Int} {g : Nat} {z : Int} (h : WOk1 ts) (hz : 0 ≤ z ∧ z ≤ 96) : WOk1 (ts.set g z) := by
  intro y hy
  rcases List.mem_or_eq_of_mem_set hy with hy | hy
  · exact h y hy
  · rw [hy]
    exact hz
theorem zeros (n : Nat) : (List.replicate n [V.int 0]).flatten = (List.replicate n (0 : Int)).map V.int := by
  induction n with
  | zero => rfl
  | succ n ih =>
    rw [List.replicate_succ, List.flatten_cons, ih, List.replicate_succ]
    rfl
theorem plc_nodup (gs : List Gt) (k : Str) (n : Nat) : (plc gs k n).Nodup := List.nodup_range.sublist List.filter_sublist

/-- the list at l may be changed -/
theorem But.put {l : Addr} {H H' : Hp} {o : HO} (b : But l H H') : But l H (L2.upd H' l o) := fun c u n e => by
  rw [upd_ne n]
  exact b c u n e
theorem But.net {K : PySem.W.Frag} {C l p ng nw : Addr} {H H' : Hp} {gs : List Gt} {ws : List Wr} {xs : List V} (b : But l H H') (hl : H l = some (.lst xs)) (n : NetAt K C H p ng nw gs ws) (h1 : ng ≠ l) (h2 : nw ≠ l) : NetAt K C H' p ng nw gs ws := by
  obtain ⟨dx, ob⟩ := n.ob
  obtain ⟨gv, hg, ga⟩ := n.g
  obtain ⟨wv, hw, wa⟩ := n.w
  have t : TK H H' := fun c u t e => b c u (fun z => by
    rw [z, hl] at e
    cases e
    exact t) e
  exact ⟨⟨dx, b _ _ (ne_of ob hl (by intro z; cases z)) ob⟩, ⟨gv, b _ _ h1 hg, ga.imp fun _ _ r => r.tk t⟩, ⟨wv, b _ _ h2 hw, wa.imp fun _ _ r => r.tk t⟩, n.ne⟩
theorem ok_worths {f fR fO fC fN C aR : Addr} {fd fdR fdO fdC fdN : FuncData} (F : Fun K "worths" "worths" sWorths f fd) (hm : mg "worths" = some (.ref f)) (B : Bt mg) (T : NT K mg C) (RL : Rl P w K mg base aR) (DR : DChkRow P w K mg base C fR fdR) (DO : DOrder P w K mg base fO fdO) (DC : DComing P w K mg base fC fdC)
    (ins : FnOk P w K mg base CX0 2 fN fdN ["self"] (spPorts K C "in")) (mN : Meth K C "ins" fN) (bN : Binds K fdN ["self"] []) : DWorths P w K mg base C f fd := by
  refine ⟨?_, hm, F.kp, F.binds fun _ _ _ _ _ _ us hl => match us, hl with | [_, _], _ => rfl⟩
  refine F.ok scWorths (fun vs H Q E h => ?_) (fun cdv A outer s H vs Q E hr h => ?_)
  · obtain ⟨p, ng, nw, lr, gs, ws, rs, rfl, _⟩ := h
    rfl
  · obtain ⟨p, ng, nw, lr, gs, ws, rs, rfl, NA, N, sr, hl, hw, q⟩ := h
    have nd := scWorths.nd
    have hr1 : Room 1 _ := hr.mono (by decide)
    have hr2 : Room 2 _ := hr.mono (by decide)
    refine ⟨_, pss_cons (ps_expr (pe_call DR.ok hr (by rfl) DR.mg DR.kp DR.bd .nil pass0 (pa_cons (pv 0) (pa_cons (pv 1) pa_nil)))) <|
      pss_cons (ps_set (i := 2) nd rfl (.inl rfl) (pe_op op_rep (pe_lst (pa_cons pe_int pa_nil)) (pe_callB call_len_seq (by rfl) B.len PySem.boot_len (pa_cons (pe_fld (pv 0) rfl) pa_nil)))) <|
      pss_cons (ps_for PassesOwn.never rfl (pi_zip (by rfl) B.zip (pa_cons (pe_meth0 (pv 0) T.cl mN ins hr2 bN .nil pass0) (pa_cons (pv 1) pa_nil))) (pg_tup rfl (pgs_cons (pg_name (i := 3) nd rfl (.inl rfl)) (pgs_cons (pg_name (i := 4) nd rfl (.inl rfl)) pgs_nil))) <|
        pss_one <| ps_asg (pv 4) (pg_sub (pv 2) (pv 3) set_list)) <|
      pss_cons (ps_for PassesOwn.never rfl (pi_list (pe_call DO.ok hr2 (by rfl) DO.mg DO.kp DO.bd .nil pass0 (pa_cons (pe_callB call_len_seq (by rfl) B.len PySem.boot_len (pa_cons (pe_fld (pv 0) rfl) pa_nil)) (pa_cons (pe_fld (pv 0) rfl) pa_nil)))) (pg_name (i := 3) nd rfl (.inl rfl)) <|
        pss_cons (ps_set (i := 5) nd rfl (.inl rfl) (pe_ix ix_tup (pe_ix ix_list (pe_fld (pv 0) rfl) (pv 3) (fun _ _ => rfl)) pe_int (fun _ _ => rfl))) <|
        pss_one <| ps_if (pt_cmpR op_ne (pv 5) pe_str (nomark _))
          (pss_cons (ps_set (i := 6) nd rfl (.inl rfl) (pe_ix ix_kdict (pe_glob (v := .ref aR) (by rfl) RL.mR rfl) (pv 5) (fun _ _ => rfl))) <|
            pss_one <| ps_asg (pe_callD (i := 6) hr1 rfl (.inl rfl) (pa_cons (pe_call DC.ok hr2 (by rfl) DC.mg DC.kp DC.bd .nil pass0 (pa_cons (pv 3) (pa_cons (pe_fld (pv 0) rfl) (pa_cons (pv 2) pa_nil)))) pa_nil)) (pg_sub (pv 2) (pv 3) set_list)) pss_nil) <|
      pss_one <| ps_ret (pv 2), ?_⟩
    obtain ⟨dx, ob⟩ := NA.ob
    have hgl := N.gl
    obtain ⟨gv, hgv, ga⟩ := id NA.g
    have hlg : gv.length = gs.length := ga.1
    have hgl' : gs.length ≤ 1000 := by omega
    refine ⟨_, rfl, _, rfl, p, ng, nw, lr, gs, ws, rs, rfl, NA, hgl', sr, hl, hw, fun H1 sm1 => ?_⟩
    -- told = [0] * len(net.gates)
    refine ⟨(by show 1 ≤ sizeLine; decide), fun l0 hl0 => ?_⟩
    have sm2 := sm1.trans (same_new (o := .lst [.int 0]) hl0)
    refine ⟨_, rfl, p, C, dx, _, _, rfl, sm2 _ _ ob, T.cl, T.nG, nf_gates _ _, ng, gv, rfl, .inl (SqL.of (sm2 _ _ hgv)), l0, _, _, rfl, rfl, upd_same, by omega, by omega, ?_, fun lt hlt => ?_⟩
    · show 1 * _ ≤ sizeLine
      have : 1 * ((gv.length : Int)).toNat ≤ 1000 := by omega
      exact Nat.le_of_lt (small1000 this)
    rw [Int.toNat_natCast, zeros, hlg]
    have hltH : H lt = none := sm2.free hlt
    have sm3 := sm2.trans (same_new (o := .lst ((List.replicate gs.length (0 : Int)).map V.int)) hlt)
    have elt : (upd (upd H1 l0 (.lst [.int 0])) lt (.lst ((List.replicate gs.length (0 : Int)).map V.int))) lt = some (.lst ((List.replicate gs.length (0 : Int)).map V.int)) := upd_same
    generalize upd (upd H1 l0 (.lst [.int 0])) lt (.lst ((List.replicate gs.length (0 : Int)).map V.int)) = H3 at sm3 elt
    have nglt : ng ≠ lt := ne_of_none hgv hltH
    have nwlt : nw ≠ lt := by
      obtain ⟨wv0, hwv0, _⟩ := NA.w
      exact ne_of_none hwv0 hltH
    have nlr : ∀ {H' : Hp}, But lt H H' → SqL K H' lr (rs.map V.int) := fun {H'} b => by
      refine Same.seq (fun c o e => b c o (ne_of_none e hltH) e) sr
    -- for gate, put in zip(net.ins(), row)
    refine ⟨_, rfl, p, dx, _, rfl, sm3 _ _ ob, nf_no _ _ (by decide +kernel) (by decide +kernel), p, ng, nw, gs, ws, rfl, NA.same sm3, hgl', fun li H4 hli sm4 eli => ?_⟩
    have sm14 := sm3.trans sm4
    have elt4 := sm4 _ _ elt
    have nlilt : li ≠ lt := fun z => by
      rw [z, elt] at hli
      cases hli
    have hpl := plc_len gs "in" gs.length
    refine ⟨_, rfl, li, lr, _, _, rfl, SqL.of eli, sm14.seq sr, RZ.for_zipL (K := K) (a := li) (b := lr) (xs := (plc gs "in" gs.length).map fun i => V.int (i : Nat)) (ys := rs.map V.int) (by rw [List.length_map, List.length_map, hl])
      (fun i σ H' => ∃ (s3 s4 : Option V) (ts : List Int), σ = [some (.ref p), some (.ref lr), some (.ref lt), s3, s4, none, none] ∧ H' lt = some (.lst (ts.map V.int)) ∧ But lt H4 H' ∧ ts.length = gs.length ∧ WOk1 ts ∧ ∀ (j g : Nat) (r : Int), j < i → (plc gs "in" gs.length)[j]? = some g → rs[j]? = some r → ts.getD g 0 = r)
      ⟨_, _, List.replicate gs.length 0, rfl, elt4, But.refl _ _, List.length_replicate, ?_, fun j g r h => by omega⟩ (fun i σ H' ⟨_, _, _, _, _, b, _⟩ => ⟨SqL.of (b _ _ nlilt eli), nlr ((But.same sm14).trans b)⟩) ?_ ?_⟩
    · intro y hy
      rw [List.mem_replicate] at hy
      rw [hy.2]
      decide
    · rintro i x y T' σ H' hx hy ⟨s3', s4', ts, rfl, et, bt, htl, hwt, hput⟩ hT
      rw [List.getElem?_map] at hx
      cases eg : (plc gs "in" gs.length)[i]? with
      | none =>
        rw [eg] at hx
        cases hx
      | some g =>
      rw [eg] at hx
      cases hx
      obtain ⟨r, er, rfl⟩ := int_at hy
      have hg := mem_plc.mp (List.mem_of_getElem? eg)
      have hr0 := hw r (List.mem_of_getElem? er)
      have sT : Same H' (upd H' T' (.tup [.int (g : Nat), .int r])) := same_new hT
      refine ⟨T', _, rfl, .inl (.inl upd_same), rfl, _, _, rfl, _, _, rfl, rfl, ?_⟩
      refine ⟨_, rfl, _, rfl, _, rfl, lt, _, _, g, rfl, rfl, sT _ _ et, Evl.ixN_nat (by rw [List.length_map, htl]; exact hg.1), ?_⟩
      rw [set_int]
      refine ⟨_, _, ts.set g r, rfl, upd_same, (bt.trans (But.same sT)).put, by rw [List.length_set]; exact htl, wok_set hwt hr0, fun j g' r' hj e1 e2 => ?_⟩
      rw [getD_set (by rw [htl]; exact hg.1)]
      by_cases hji : j = i
      · subst hji
        rw [eg] at e1
        cases e1
        rw [er] at e2
        cases e2
        rw [if_pos rfl]
      · rw [if_neg (fun z => hji (nd_ix (plc_nodup gs "in" gs.length) e1 (by rw [z]; exact eg)))]
        exact hput j g' r' (by omega) e1 e2
    · rintro σ H' ⟨s3', s4', ts0, rfl, et0, bt0, htl0, hwt0, hput0⟩
      have hpl2 : ((plc gs "in" gs.length).map fun i => V.int (i : Nat)).length = (plc gs "in" gs.length).length := List.length_map ..
      rw [hpl2] at hput0
      have b5 : But lt H H' := (But.same sm14).trans bt0
      have NA5 : NetAt K C H' p ng nw gs ws := bt0.net elt4 (NA.same sm14) nglt nwlt
      obtain ⟨dx5, ob5⟩ := NA5.ob
      obtain ⟨gv5, hgv5, ga5⟩ := NA5.g
      have hlg5 : gv5.length = gs.length := ga5.1
      -- for gate in bare_order(..)
      refine ⟨_, rfl, p, C, dx5, _, _, rfl, ob5, T.cl, T.nG, nf_gates _ _, ng, gv5, rfl, .inl (SqL.of hgv5), _, rfl, p, C, dx5, _, _, rfl, ob5, T.cl, T.nW, nf_wires _ _, gv5.length, nw, ws, rfl, NA5.w.rw, fun x hx => ?_, by omega, N.wl, fun ord lo H6 ho sm6 hlo elo => ?_⟩
      · rw [hlg5]
        exact ⟨(N.wok x hx).s, (N.wok x hx).e⟩
      rw [hlg5] at ho
      have et6 := sm6 _ _ et0
      have nlolt : lo ≠ lt := fun z => by
        rw [z, et0] at hlo
        cases hlo
      have NA6 := NA5.same sm6
      have hperm := ho.full (fun x hx => ⟨(N.wok x hx).s, (N.wok x hx).e⟩) N.rank
      refine ⟨lo, rfl, ⟨_, SqL.of elo⟩, for_list (K := K) (a := lo) (xs := ord.map fun i => V.int (i : Nat)) (fun i σ H' => ∃ (s3 s4 s5 s6 : Option V) (ts : List Int), σ = [some (.ref p), some (.ref lr), some (.ref lt), s3, s4, s5, s6] ∧ H' lt = some (.lst (ts.map V.int)) ∧ But lt H6 H' ∧ ts.length = gs.length ∧ WOk1 ts ∧
          (∀ (j g : Nat) (r : Int), (plc gs "in" gs.length)[j]? = some g → rs[j]? = some r → ts.getD g 0 = r) ∧ ∀ g, g ∈ ord.take i → kindAt gs g ≠ "in" → ts.getD g 0 = kindVal (kindAt gs g) (cmg ws ts g))
        ⟨_, _, _, _, ts0, rfl, et6, But.refl _ _, htl0, hwt0, fun j g r e1 e2 => hput0 j g r (List.getElem?_eq_some_iff.mp e1).1 e1 e2, by simp⟩ (fun i σ H' _ ⟨_, _, _, _, _, _, _, b, _⟩ => SqL.of (b _ _ nlolt elo)) ?_ ?_⟩
      · rintro i x σ H7 hx ⟨t3, t4, t5, t6, ts, rfl, et, bt, htl, hwt, hput, heq⟩
        rw [List.getElem?_map] at hx
        cases eg : ord[i]? with
        | none =>
          rw [eg] at hx
          cases hx
        | some g =>
        rw [eg] at hx
        cases hx
        have hg : g < gs.length := ho.lt g (List.mem_of_getElem? eg)
        have NA7 : NetAt K C H7 p ng nw gs ws := bt.net et6 NA6 nglt nwlt
        obtain ⟨dx7, ob7⟩ := NA7.ob
        obtain ⟨gv7, hgv7, ga7⟩ := NA7.g
        have hggs : gs[g]? = some gs[g] := List.getElem?_eq_getElem hg
        obtain ⟨y, hy, a, rfl, sq⟩ := ga7.getR hggs
        have hk : kindAt gs g = gs[g].1 := kindAt_get hggs
        have etk : ord.take (i + 1) = ord.take i ++ [g] := take_add eg
        have ngt : g ∉ ord.take i := nodup_take ho.nd eg
        refine ⟨_, rfl, p, C, dx7, _, _, rfl, ob7, T.cl, T.nG, nf_gates _ _, _, rfl, ng, gv7, _, _, rfl, rfl, SqL.of hgv7, atI_nat hy, a, _, 0, _, rfl, rfl, sq, atI_nat (j := 0) rfl, ?_⟩
        refine ⟨_, rfl, rfl, _, rfl, ite2 (fun e => ?_) (fun e => ?_)⟩
        · have hkn : kindAt gs g ≠ "in" := fun z => by
            rw [hk] at z
            rw [z] at e
            simp at e
          obtain ⟨fk, fdk, kd, Fk, kpk, bk⟩ := RL.kd gs[g].1 (N.gok _ (List.getElem_mem hg)).1 (by rw [← hk]; exact hkn)
          refine ⟨_, rfl, aR, gs[g].1, .ref fk, rfl, rfl, kd, ?_⟩
          refine ⟨fk, fdk, ["coming"], spR K gs[g].1, Fk, kpk, bk, rfl, _, rfl, _, rfl, p, C, dx7, _, _, rfl, ob7, T.cl, T.nW, nf_wires _ _, _, rfl, g, nw, lt, ws, ts, rfl, NA7.w.rw, SqL.of et, fun x hx => by rw [htl]; exact (N.wok x hx).s, N.wl, fun lc H8 hlc sm8 elc => ?_⟩
          refine ⟨lc, _, rfl, SqL.of elc, cmg_bound N hwt g, fun z => cmg_ne N hg (by rw [hk]; exact z), ?_⟩
          refine ⟨_, rfl, _, rfl, lt, _, _, g, rfl, rfl, sm8 _ _ et, Evl.ixN_nat (by rw [List.length_map, htl]; exact hg), ?_⟩
          rw [set_int]
          have hcg : ∀ e', (∀ x ∈ ws, x.2.1 = e' → x.2.2 = [] → x.1 ≠ g) → cmg ws (ts.set g (kindVal gs[g].1 (cmg ws ts g))) e' = cmg ws ts e' := fun e' he' => by
            unfold cmg
            refine List.map_congr_left fun x hx => ?_
            rw [List.mem_filter] at hx
            refine wv_congr fun hb => ?_
            rw [getD_set (by rw [htl]; exact hg), if_neg (he' x hx.1 (by simpa using hx.2) hb)]
          have hbare : ∀ j e', ord[j]? = some e' → j ≤ i → ∀ x ∈ ws, x.2.1 = e' → x.2.2 = [] → x.1 ≠ g := fun j e' hj hji x hx hxe hxr z => by
            have hb : (x.1, x.2.1) ∈ bare ws := List.mem_map.mpr ⟨x, List.mem_filter.mpr ⟨hx, by rw [hxr]; rfl⟩, rfl⟩
            have := ho.top j e' hj _ hb hxe
            rw [show ((x.1, x.2.1) : Nat × Nat).1 = x.1 from rfl, z] at this
            exact ngt (List.take_subset_take_left ord hji this)
          refine ⟨_, _, _, _, _, rfl, upd_same, (bt.trans (But.same sm8)).put, by rw [List.length_set]; exact htl, wok_set hwt (kv_bound _ (cmg_bound N hwt g)), fun j g' r' e1 e2 => ?_, fun g' hg' hk' => ?_⟩
          · rw [getD_set (by rw [htl]; exact hg), if_neg (fun z => hkn (by rw [← z]; exact (mem_plc.mp (List.mem_of_getElem? e1)).2))]
            exact hput j g' r' e1 e2
          · rw [etk] at hg'
            rcases List.mem_append.mp hg' with hg' | hg'
            · obtain ⟨j, hj⟩ := List.getElem?_of_mem hg'
              have hji : j < i := by
                have := (List.getElem?_eq_some_iff.mp hj).1
                rw [List.length_take] at this
                omega
              rw [List.getElem?_take_of_lt hji] at hj
              rw [getD_set (by rw [htl]; exact hg), if_neg (fun z => ngt (by rw [← z]; exact hg')), hcg g' (hbare j g' hj (by omega))]
              exact heq g' hg' hk'
            · simp at hg'
              subst hg'
              rw [getD_set (by rw [htl]; exact hg), if_pos rfl, hcg _ (hbare i _ eg (Nat.le_refl _)), hk]
        · have hki : kindAt gs g = "in" := by
            rw [hk]
            refine Classical.byContradiction fun z => e ?_
            show (!decide (V.str gs[g].1 = V.str "in")) = true
            rw [decide_eq_false (fun y => z (V.str.inj y))]
            rfl
          refine ⟨_, _, _, _, ts, rfl, et, bt, htl, hwt, hput, fun g' hg' hk' => ?_⟩
          rw [etk] at hg'
          rcases List.mem_append.mp hg' with hg' | hg'
          · exact heq g' hg' hk'
          · simp at hg'
            subst hg'
            exact absurd hki hk'
      · rintro σ H7 ⟨t3, t4, t5, t6, ts, rfl, et, bt, htl, hwt, hput, heq⟩
        rw [List.length_map, List.take_length] at heq
        refine ⟨_, rfl, q lt H7 ts hltH (fun b o e => (b5.trans ((But.same sm6).trans bt)) b o (ne_of_none e hltH) e) ⟨htl, hput, fun g hg hk => heq g (hperm.mem_iff.mpr (List.mem_range.mpr hg)) hk⟩ hwt et⟩
end
end Lag

set_option maxRecDepth 100000
set_option maxHeartbeats 8000000
namespace Lag
open PySem PySem.Spec PyProof.Rows L2
abbrev sNetBehind : Stmt := topS 44 -- @net_behind
abbrev sBeat : Stmt := topS 43
abbrev sBehind : Stmt := topS 45
section
variable {K : PySem.W.Frag} {C : Addr} {H : Hp}
/-- Net(gates, wires), behind its arguments -/
theorem net_in {Q : Addr → Hp → Prop} {lg lw : Addr} {gs : List Gt} {ws : List Wr} (R : RG K H lg gs) (R2 : RW K H lw ws) (N : NetOk gs ws)
    (q : ∀ p ng nw H', NetAt K C H' p ng nw gs ws → Same H H' → H p = none → H ng = none → H nw = none → Q p H') :
    ∀ x dx, H x = none → H dx = none → dx ≠ x → spInit K C (.ref x :: ([.ref lg, .ref lw] ++ [])) (upd (upd H dx (.own x)) x (.ins C dx [])) (fun v H' => v = .non ∧ Q x H') E0 := by
  intro x dx hx hdx ne
  have s0 : Same H (upd (upd H dx (.own x)) x (.ins C dx [])) := fun b o e => by
    rw [upd_ne (ne_of_none e hx), upd_ne (ne_of_none e hdx)]
    exact e
  refine ⟨x, dx, lg, lw, gs, ws, rfl, upd_same, R.same s0, R2.same s0, N, fun H' ng nw A h1 h2 k => ⟨rfl, ?_⟩⟩
  exact q x ng nw H' A (Same.made hx hdx k) hx (s0.free h1) (s0.free h2)
end
/-! ### a wire behind a beat -/
def bh (ts : List Int) (x : Wr) : Wr := match x.2.2 with
  | [] => x
  | _ :: l => (x.1, x.2.1, l ++ [ts.getD x.1 0])
theorem bh_ends (ts : List Int) (x : Wr) : (bh ts x).1 = x.1 ∧ (bh ts x).2.1 = x.2.1 ∧ (bh ts x).2.2.length = x.2.2.length := by
  unfold bh
  cases e : x.2.2 with
  | nil => simp [e]
  | cons r l => simp
theorem bh_bare {ts : List Int} {x : Wr} (h : (bh ts x).2.2 = []) : x.2.2 = [] := by
  have := (bh_ends ts x).2.2
  rw [h] at this
  exact List.length_eq_zero_iff.mp this.symm
theorem NetOk.behind {gs : List Gt} {ws : List Wr} {ts : List Int} (N : NetOk gs ws) (ht : WOk1 ts) : NetOk gs (ws.map (bh ts)) := by
  obtain ⟨ρ, hρ⟩ := N.rank
  have c : ∀ e, cnt (ws.map (bh ts)) e = cnt ws e := fun e => by
    unfold cnt
    rw [List.countP_map]
    refine List.countP_congr fun x _ => ?_
    simp only [Function.comp, (bh_ends ts x).2.1]
  refine ⟨N.ne, N.gl, by rw [List.length_map]; exact N.wl, N.gok, fun y hy => ?_, fun e he hk => by rw [c]; exact N.one e he hk, fun e he hk => by rw [c]; exact N.some e he hk, ρ, fun y hy h => ?_⟩
  · obtain ⟨x, hx, rfl⟩ := List.mem_map.mp hy
    have W := N.wok x hx
    obtain ⟨e1, e2, e3⟩ := bh_ends ts x
    refine ⟨by rw [e1]; exact W.s, by rw [e2]; exact W.e, by rw [e1]; exact W.ks, by rw [e2]; exact W.ke, ?_, by rw [e3]; exact W.rl⟩
    unfold bh
    cases e : x.2.2 with
    | nil =>
      show ROk x.2.2
      exact W.r
    | cons r l =>
      intro y hy
      rcases List.mem_append.mp hy with hy | hy
      · exact W.r y (by rw [e]; exact List.mem_cons_of_mem _ hy)
      · simp only [List.mem_singleton] at hy
        rw [hy]
        exact wok_getD ht x.1
  · obtain ⟨x, hx, rfl⟩ := List.mem_map.mp hy
    obtain ⟨e1, e2, _⟩ := bh_ends ts x
    rw [e1, e2]
    exact hρ x hx (bh_bare h)
def spBehind (K : PySem.W.Frag) : Sp := fun vs H Q _ => ∃ (v : V) (x : Wr) (lt : Addr) (ts : List Int), vs = [v, .ref lt] ∧ WireV K H v x ∧ SqL K H lt (ts.map V.int) ∧ x.1 < ts.length ∧ x.2.2.length ≤ 200 ∧ ∀ v' H', Same H H' → WireV K H' v' (bh ts x) → Q v' H'
def spBeat (K : PySem.W.Frag) (C : Addr) : Sp := fun vs H Q _ => ∃ (p ng nw lr : Addr) (gs : List Gt) (ws : List Wr) (rs : List Int), vs = [.ref p, .ref lr] ∧ NetAt K C H p ng nw gs ws ∧ NetOk gs ws ∧ SqL K H lr (rs.map V.int) ∧ rs.length = (plc gs "in" gs.length).length ∧ WOk1 rs ∧
  ∀ t p' ng' nw' lo H' ts, Same H H' → IsW gs ws rs ts → WOk1 ts → NetAt K C H' p' ng' nw' gs (ws.map (bh ts)) → H' lo = some (.lst ((plc gs "out" gs.length).map fun g => V.int (ts.getD g 0))) → H' t = some (.tup [.ref p', .ref lo]) → H p' = none → H ng' = none → H nw' = none → H lo = none → Q (.ref t) H'
section
variable {P : Program} {w : World} {K : PySem.W.Frag} {mg : Str → Option Value} {base : Heap}
theorem scBehind : FnScope ["wire", "told", "start", "end", "held"] ["wire", "told"] (defScope sBehind) := ⟨rfl, rfl, rfl, by decide +kernel, rfl, by decide +kernel, by decide +kernel⟩
abbrev DBehind (P : Program) (w : World) (K : PySem.W.Frag) (mg : Str → Option Value) (base : Heap) := Df P w K mg base 1 "wire_behind" ["wire", "told"] (spBehind K)
theorem ok_behind {f : Addr} {fd : FuncData} (F : Fun K "wire_behind" "wire_behind" sBehind f fd) (hm : mg "wire_behind" = some (.ref f)) (B : Bt mg) : DBehind P w K mg base f fd := by
  refine ⟨?_, hm, F.kp, F.binds fun _ _ _ _ _ _ us hl => match us, hl with | [_, _], _ => rfl⟩
  refine F.ok scBehind (fun vs H Q E h => ?_) (fun cdv A outer s H vs Q E hr h => ?_)
  · obtain ⟨v, x, lt, ts, rfl, _⟩ := h
    rfl
  · obtain ⟨v, x, lt, ts, rfl, hwv, st, hx, hxl, q⟩ := h
    have hwv0 := hwv
    obtain ⟨a, b, rfl, sq1, sq2⟩ := hwv
    have nd := scBehind.nd
    refine ⟨_, pss_cons (ps_asg (pv 0) (pg_tup (by rfl) (pgs_cons (pg_name (i := 2) nd rfl (.inl rfl)) (pgs_cons (pg_name (i := 3) nd rfl (.inl rfl)) (pgs_cons (pg_name (i := 4) nd rfl (.inl rfl)) pgs_nil))))) <|
      pss_one <| ps_ret <| pe_ifExp (pt_cmpR op_gt (pe_callB call_len_seq (by rfl) B.len PySem.boot_len (pa_cons (pv 4) pa_nil)) pe_int (nomark _))
        (pe_tup (pa_cons (pv 2) (pa_cons (pv 3) (pa_cons (pe_op op_catA (pe_slice sl_tupA (pv 4) (po_some pe_int) po_none) (pe_tup (pa_cons (pe_ix ix_list (pv 1) (pv 2) (fun _ _ => rfl)) pa_nil))) pa_nil)))) (pv 0), ?_⟩
    refine ⟨_, rfl, a, _, rfl, sq1, rfl, _, _, rfl, _, _, rfl, _, _, rfl, rfl, ?_⟩
    refine ⟨_, rfl, b, _, rfl, .inr sq2, _, _, rfl, rfl, _, rfl, ite2 (fun e => ?_) (fun e => ?_)⟩
    · obtain ⟨x1, x2, xr⟩ := x
      cases xr with
      | nil => exact absurd (of_decide_eq_true e) (by simp)
      | cons r l =>
      have eb : bh ts (x1, x2, r :: l) = (x1, x2, l ++ [ts.getD x1 0]) := rfl
      have hll : l.length ≤ 200 := by
        have h2 : l.length + 1 ≤ 200 := hxl
        omega
      have ef : cutV ((r :: l).map V.int) (some 1) none = l.map V.int := (cut_from (xs := (r :: l).map V.int) 1).trans rfl
      refine ⟨_, rfl, _, rfl, _, rfl, 1, rfl, b, _, rfl, sq2, fun z => ?_, fun _ s1 hs1 => ?_⟩
      · exfalso
        have z1 : min 1 ((r :: l).map V.int).length = 0 := (HT.sIx_nat _ 0 1).symm.trans z.1
        rw [List.map_cons, List.length_cons] at z1
        omega
      rw [ef]
      have sm1 : Same H (upd H s1 (.tup (l.map V.int))) := same_new hs1
      have egd : ts.getD x1 0 = ts[x1]'hx := by
        rw [List.getD_eq_getElem?_getD, List.getElem?_eq_getElem hx]
        rfl
      refine ⟨_, rfl, _, rfl, lt, _, _, .int (ts.getD x1 0), rfl, rfl, sm1.seq st, atI_nat (by rw [List.getElem?_map, List.getElem?_eq_getElem hx, egd]; rfl), (by show 1 ≤ sizeLine; decide), fun t1 ht1 => ?_⟩
      have sm2 := sm1.trans (same_new (o := .tup [.int (ts.getD x1 0)]) ht1)
      have es1 : SqT K (upd (upd H s1 (.tup (l.map V.int))) t1 (.tup [.int (ts.getD x1 0)])) s1 (l.map V.int) := (TK.new ht1).seq (.inl (.inl upd_same))
      refine ⟨s1, t1, l.map V.int, [.int (ts.getD x1 0)], rfl, rfl, es1, .inl (.inl upd_same), ?_, fun z => ?_, (fun _ z => by cases z), fun _ _ c hc => ?_⟩
      · rw [List.length_map]
        show _ + 1 ≤ sizeLine
        exact Nat.le_of_lt (small1000 (by omega))
      · refine ⟨(by show 3 ≤ sizeLine; decide), fun t2 ht2 => ?_⟩
        have ez : l = [] := List.map_eq_nil_iff.mp z
        refine q _ _ (sm2.trans (same_new ht2)) ?_
        rw [eb]
        have e5 : (l ++ [ts.getD x1 0]).map V.int = [.int (ts.getD x1 0)] := by
          rw [ez]
          rfl
        refine ⟨t2, t1, rfl, .inl (.inl upd_same), (TK.new ht2).seq ?_⟩
        show SqT K _ t1 ((l ++ [ts.getD x1 0]).map V.int)
        rw [e5]
        exact .inl (.inl upd_same)
      · refine ⟨(by show 3 ≤ sizeLine; decide), fun t2 ht2 => ?_⟩
        have sm3 := sm2.trans (same_new (o := .tup (l.map V.int ++ [.int (ts.getD x1 0)])) hc)
        refine q _ _ (sm3.trans (same_new ht2)) ?_
        rw [eb]
        refine ⟨t2, c, rfl, .inl (.inl upd_same), (TK.new ht2).seq ?_⟩
        rw [List.map_append]
        exact .inl (.inl upd_same)
    · have er : x.2.2 = [] := by
        cases er : x.2.2 with
        | nil => rfl
        | cons r l =>
          rw [er] at e
          exfalso
          apply e
          refine decide_eq_true ?_
          rw [List.length_map, List.length_cons]
          omega
      have eb : bh ts x = x := by unfold bh; rw [er]
      rw [eb] at q
      exact ⟨_, rfl, q _ H (Same.refl H) hwv0⟩
def spNetBehind (K : PySem.W.Frag) (C : Addr) : Sp := fun vs H Q _ => ∃ (p ng nw lt : Addr) (gs : List Gt) (ws : List Wr) (ts : List Int), vs = [.ref p, .ref lt] ∧ NetAt K C H p ng nw gs ws ∧ NetOk gs ws ∧ H lt = some (.lst (ts.map V.int)) ∧ ts.length = gs.length ∧ WOk1 ts ∧
  ∀ p' ng' nw' H', Same H H' → NetAt K C H' p' ng' nw' gs (ws.map (bh ts)) → H p' = none → H ng' = none → H nw' = none → Q (.ref p') H'
abbrev nNetB : List Str := ["net", "told", "wire"]
theorem scNetB : FnScope nNetB ["net", "told"] (defScope sNetBehind) := ⟨rfl, rfl, rfl, by decide +kernel, rfl, by decide +kernel, by decide +kernel⟩
abbrev DNetB (P : Program) (w : World) (K : PySem.W.Frag) (mg : Str → Option Value) (base : Heap) (C : Addr) := Df P w K mg base 8 "net_behind" ["net", "told"] (spNetBehind K C)
theorem ok_netBehind {f fB fI C : Addr} {fd fdB fdI : FuncData} (F : Fun K "net_behind" "net_behind" sNetBehind f fd) (hm : mg "net_behind" = some (.ref f)) (T : NT K mg C) (DB : DBehind P w K mg base fB fdB)
    (MK : Mk K C fI) (init : FnOk P w K mg base CX0 6 fI fdI ["self", "gates", "wires"] (spInit K C)) (bI : Binds K fdI ["self", "gates", "wires"] []) : DNetB P w K mg base C f fd := by
  refine ⟨?_, hm, F.kp, F.binds fun _ _ _ _ _ _ us hl => match us, hl with | [_, _], _ => rfl⟩
  refine F.ok scNetB (fun vs H Q E h => ?_) (fun cdv A outer s H vs Q E hr h => ?_)
  · obtain ⟨p, ng, nw, lt, gs, ws, ts, rfl, _⟩ := h
    rfl
  · obtain ⟨p, ng, nw, lt, gs, ws, ts, rfl, NA1, N, elt, hlt, wt, q⟩ := h
    have nd := scNetB.nd
    have hr1 : Room 1 _ := hr.mono (by decide)
    refine ⟨_, pss_one <| ps_ret (pe_make MK init hr (by rfl) T.mg bI .nil pass0 (pa_cons (pe_fld (pv 0) rfl) (pa_cons
        (pe_lc (own := [("wire", 2)]) (g := gName 2) (tt := tYes) (te := tCall (spBehind K) [] E0 (tCons (tVar 2) (tCons (tVar 1) tNil))) rfl nd (pi_list (pe_fld (pv 0) rfl)) (blkOk_by (N := nNetB) (sc := defScope sNetBehind) (own := [("wire", 2)]) (by decide +kernel)) (fun _ _ _ _ _ => pg_name (i := 2) nd rfl (.inl rfl)) (fun _ _ _ _ _ => pts_nil)
          (fun _ _ _ _ _ => pe_call DB.ok hr1 (by rfl) DB.mg DB.kp DB.bd .nil pass0 (pa_cons (pv 2) (pa_cons (pv 1) pa_nil)))) pa_nil))), ?_⟩
    have hgl := N.gl
    have hwl := N.wl
    obtain ⟨dx, ob⟩ := NA1.ob
    obtain ⟨vw, hvw, wa⟩ := NA1.w
    have hlw : vw.length = ws.length := wa.1
    refine ⟨_, rfl, p, C, dx, _, _, rfl, ob, T.cl, T.nG, nf_gates _ _, _, rfl, p, C, dx, _, _, rfl, ob, T.cl, T.nW, nf_wires _ _, nw, rfl, ⟨_, SqL.of hvw⟩, fun D hD => ?_⟩
    refine lc_list (K := K) (a := nw) (xs := vw) (fun i Hc => ∃ acc, Hc D = some (.lst acc) ∧ acc.length = i ∧ All2 (WireV K Hc) acc ((ws.take i).map (bh ts)) ∧ Same H Hc) ⟨[], upd_same, rfl, by simpa using All2.nil, same_new hD⟩ (fun i Hc _ ⟨_, _, _, _, sm⟩ => SqL.of (sm _ _ hvw)) ?_ ?_
    · rintro i v Hc hv ⟨acc, hacc, hal, haa, sm⟩
      obtain ⟨x, hx, wx⟩ := wa.get hv
      have hi : i < ws.length := (List.getElem?_eq_some_iff.mp hx).1
      have W := N.wok x (List.mem_of_getElem? hx)
      refine ⟨rfl, tyes ?_⟩
      refine ⟨_, rfl, _, rfl, v, x, lt, ts, rfl, wx.tk (TK.same sm), SqL.of (sm _ _ elt), by rw [hlt]; exact W.s, W.rl, fun v' H2 sm2 wx' => ?_⟩
      have hacc2 := sm2 _ _ hacc
      refine ⟨acc, hacc2, small1000 (by omega), acc ++ [v'], upd_same, by simp [hal], ?_, same_mut (sm.trans sm2) hD⟩
      have t2 : TK Hc (upd H2 D (.lst (acc ++ [v']))) := (TK.same sm2).trans (TK.lst hacc2)
      rw [List.take_add_one, hx, List.map_append]
      exact (haa.imp fun _ _ r => r.tk t2).snoc (wx'.tk (TK.lst hacc2))
    · rintro H2 ⟨acc, hacc, hal, haa, sm2⟩
      rw [hlw, List.take_length] at haa
      exact net_in (NA1.g.same sm2).rg ⟨acc, SqL.of hacc, haa⟩ (N.behind wt) fun p' ng' nw' H3 NA3 s3 hp' hng' hnw' => q p' ng' nw' H3 (sm2.trans s3) NA3 (sm2.free hp') (sm2.free hng') (sm2.free hnw')
abbrev nBeat : List Str := ["net", "row", "told", "gate"]
theorem scBeat : FnScope nBeat ["net", "row"] (defScope sBeat) := ⟨rfl, rfl, rfl, by decide +kernel, rfl, by decide +kernel, by decide +kernel⟩
abbrev DBeat (P : Program) (w : World) (K : PySem.W.Frag) (mg : Str → Option Value) (base : Heap) (C : Addr) := Df P w K mg base 9 "beat" ["net", "row"] (spBeat K C)
theorem ok_beat {f fW fB fO C : Addr} {fd fdW fdB fdO : FuncData} (F : Fun K "beat" "beat" sBeat f fd) (hm : mg "beat" = some (.ref f)) (T : NT K mg C) (DW : DWorths P w K mg base C fW fdW) (DB : DNetB P w K mg base C fB fdB) (outs : FnOk P w K mg base CX0 2 fO fdO ["self"] (spPorts K C "out")) (mO : Meth K C "outs" fO) (bO : Binds K fdO ["self"] []) : DBeat P w K mg base C f fd := by
  refine ⟨?_, hm, F.kp, F.binds fun _ _ _ _ _ _ us hl => match us, hl with | [_, _], _ => rfl⟩
  refine F.ok scBeat (fun vs H Q E h => ?_) (fun cdv A outer s H vs Q E hr h => ?_)
  · obtain ⟨p, ng, nw, lr, gs, ws, rs, rfl, _⟩ := h
    rfl
  · obtain ⟨p, ng, nw, lr, gs, ws, rs, rfl, NA, N, sr, hl, hw, q⟩ := h
    have nd := scBeat.nd
    have hr5 : Room 5 _ := hr.mono (by decide)
    have hr2 : Room 2 _ := hr.mono (by decide)
    refine ⟨_, pss_cons (ps_set (i := 2) nd rfl (Or.inr rfl) (pe_call DW.ok hr5 (by rfl) DW.mg DW.kp DW.bd .nil pass0 (pa_cons (pv 0) (pa_cons (pv 1) pa_nil)))) <|
      pss_one <| ps_ret <| pe_tup <| pa_cons (pe_call DB.ok hr (by rfl) DB.mg DB.kp DB.bd .nil pass0 (pa_cons (pv 0) (pa_cons (pv 2) pa_nil))) <| (pa_cons · pa_nil) <| pe_lc (own := [("gate", 3)]) (g := gName 3) (tt := tYes) (te := tOp (rIxL K) (tVar 2) (tVar 3)) rfl nd (pi_list (pe_meth0 (pv 0) T.cl mO outs hr2 bO .nil pass0)) (blkOk_by (N := nBeat) (sc := defScope sBeat) (own := [("gate", 3)]) (by decide +kernel)) (fun _ _ _ _ _ => pg_name (i := 3) nd rfl (.inl rfl)) (fun _ _ _ _ _ => pts_nil)
          (fun _ _ _ _ _ => pe_ix ix_list (pv 2) (pv 3) (fun _ _ => rfl)), ?_⟩
    have hgl := N.gl
    have hwl := N.wl
    refine ⟨_, rfl, _, rfl, p, ng, nw, lr, gs, ws, rs, rfl, NA, N, sr, hl, hw, fun lt H1 ts hlt sm1 iw wt elt => ?_⟩
    have NA1 := NA.same sm1
    refine ⟨_, rfl, _, rfl, p, ng, nw, lt, gs, ws, ts, rfl, NA1, N, elt, iw.len, wt, fun p' ng' nw' H3 s3 NA3 hp' hng' hnw' => ?_⟩
    · have s13 := sm1.trans s3
      have NAo := NA.same s13
      obtain ⟨dx3, ob3⟩ := NAo.ob
      have elt3 := s3 _ _ elt
      refine ⟨_, rfl, p, dx3, _, rfl, ob3, nf_no _ _ (by decide +kernel) (by decide +kernel), p, ng, nw, gs, ws, rfl, NAo, by omega, fun lo0 H4 hlo0 s4 elo0 => ?_⟩
      refine ⟨lo0, rfl, ⟨_, SqL.of elo0⟩, fun D2 hD2 => ?_⟩
      have hpl := plc_len gs "out" gs.length
      refine lc_list (K := K) (a := lo0) (xs := (plc gs "out" gs.length).map fun i => V.int (i : Nat)) (fun i Hc => Hc D2 = some (.lst (((plc gs "out" gs.length).take i).map fun g => V.int (ts.getD g 0))) ∧ Same H4 Hc) ⟨upd_same, same_new hD2⟩ (fun i Hc _ ⟨_, sm⟩ => SqL.of (sm _ _ elo0)) ?_ ?_
      · rintro i v Hc hv ⟨hc, sm⟩
        rw [List.getElem?_map] at hv
        cases eg : (plc gs "out" gs.length)[i]? with
        | none =>
          rw [eg] at hv
          cases hv
        | some g =>
        rw [eg] at hv
        cases hv
        have hg := (mem_plc.mp (List.mem_of_getElem? eg)).1
        have hgt : g < ts.length := by rw [iw.len]; exact hg
        have egd : ts.getD g 0 = ts[g]'hgt := by
          rw [List.getD_eq_getElem?_getD, List.getElem?_eq_getElem hgt]
          rfl
        have hi : i < (plc gs "out" gs.length).length := (List.getElem?_eq_some_iff.mp eg).1
        refine ⟨rfl, tyes ?_⟩
        refine ⟨_, rfl, _, rfl, lt, _, _, .int (ts.getD g 0), rfl, rfl, SqL.of (sm _ _ (s4 _ _ elt3)), atI_nat (by rw [List.getElem?_map, List.getElem?_eq_getElem hgt, egd]; rfl), _, hc, ?_, ?_, same_mut sm hD2⟩
        · rw [List.length_map, List.length_take]
          exact small1000 (by omega)
        · rw [upd_same, List.take_add_one, eg, List.map_append]
          rfl
      · rintro H5 ⟨hc, sm5⟩
        rw [List.length_map, List.take_length] at hc
        refine ⟨(by show 2 ≤ sizeLine; decide), fun t ht => ?_⟩
        have s6 : Same H5 (upd H5 t (.tup [.ref p', .ref D2])) := same_new ht
        have s36 := (s4.trans sm5).trans s6
        exact q t p' ng' nw' D2 _ ts (s13.trans s36) iw wt (NA3.same s36) (s6 _ _ hc) upd_same (sm1.free hp') (sm1.free hng') (sm1.free hnw') (s13.free (s4.free hD2))
end
end Lag

set_option maxRecDepth 100000
set_option maxHeartbeats 8000000
namespace Lag
open PySem PySem.Spec PyProof.Rows L2
abbrev sRun : Stmt := topS 46
/-! ### several beats: the mathematics -/
def outsOf (gs : List Gt) (ts : List Int) : List Int := (plc gs "out" gs.length).map fun g => ts.getD g 0
/-- the gates' worths tss, beat by beat, and the wires behind all of them -/
def Run (gs : List Gt) : List Wr → List (List Int) → List (List Int) → List Wr → Prop
  | ws, [], tss, we => tss = [] ∧ we = ws
  | ws, rs :: rss, tss, we => ∃ ts tl, tss = ts :: tl ∧ IsW gs ws rs ts ∧ WOk1 ts ∧ Run gs (ws.map (bh ts)) rss tl we
/-- a row of this net -/
def RowOk (gs : List Gt) (rs : List Int) : Prop := rs.length = (plc gs "in" gs.length).length ∧ WOk1 rs
theorem Run.snoc {gs : List Gt} : ∀ {rss : List (List Int)} {ws wm : List Wr} {tss : List (List Int)} {rs ts : List Int}, Run gs ws rss tss wm → IsW gs wm rs ts → WOk1 ts → Run gs ws (rss ++ [rs]) (tss ++ [ts]) (wm.map (bh ts))
  | [], ws, wm, tss, rs, ts, h, i, w => by
    obtain ⟨h1, h2⟩ := h
    subst h1 h2
    exact ⟨ts, [], rfl, i, w, rfl, rfl⟩
  | r :: rss, ws, wm, tss, rs, ts, h, i, w => by
    obtain ⟨t, tl, h1, h2, h3, h4⟩ := h
    subst h1
    exact ⟨t, tl ++ [ts], rfl, h2, h3, Run.snoc h4 i w⟩
theorem Run.len {gs : List Gt} : ∀ {rss : List (List Int)} {ws we : List Wr} {tss : List (List Int)}, Run gs ws rss tss we → tss.length = rss.length
  | [], _, _, _, h => by rw [h.1]
  | r :: rss, _, _, _, h => by
    obtain ⟨t, tl, h1, _, _, h4⟩ := h
    rw [h1, List.length_cons, List.length_cons, Run.len h4]
theorem Run.ok {gs : List Gt} : ∀ {rss : List (List Int)} {ws we : List Wr} {tss : List (List Int)}, NetOk gs ws → Run gs ws rss tss we → NetOk gs we
  | [], _, _, _, N, h => by rw [h.2]; exact N
  | r :: rss, _, _, _, N, h => by
    obtain ⟨t, tl, _, _, h3, h4⟩ := h
    exact Run.ok (N.behind h3) h4
theorem Run.unique {gs : List Gt} : ∀ {rss : List (List Int)} {ws we we' : List Wr} {tss tss' : List (List Int)}, NetOk gs ws → (∀ rs ∈ rss, RowOk gs rs) → Run gs ws rss tss we → Run gs ws rss tss' we' → tss = tss' ∧ we = we'
  | [], _, _, _, _, _, N, _, h, h' => by rw [h.1, h.2, h'.1, h'.2]; exact ⟨rfl, rfl⟩
  | r :: rss, ws, we, we', tss, tss', N, hr, h, h' => by
    obtain ⟨t, tl, h1, h2, h3, h4⟩ := h
    obtain ⟨t', tl', h1', h2', h3', h4'⟩ := h'
    have e := h2.unique N (hr r (List.mem_cons_self ..)).1 h2'
    subst e
    obtain ⟨e1, e2⟩ := Run.unique (N.behind h3) (fun rs h => hr rs (List.mem_cons_of_mem _ h)) h4 h4'
    rw [h1, h1', e1, e2]
    exact ⟨rfl, rfl⟩
/-- cut in two -/
theorem Run.cut {gs : List Gt} : ∀ {r1 r2 : List (List Int)} {ws we : List Wr} {tss : List (List Int)}, Run gs ws (r1 ++ r2) tss we → ∃ t1 t2 wm, tss = t1 ++ t2 ∧ Run gs ws r1 t1 wm ∧ Run gs wm r2 t2 we
  | [], r2, ws, we, tss, h => ⟨[], tss, ws, rfl, ⟨rfl, rfl⟩, h⟩
  | r :: r1, r2, ws, we, tss, h => by
    obtain ⟨t, tl, h1, h2, h3, h4⟩ := h
    obtain ⟨t1, t2, wm, e, a, b⟩ := Run.cut h4
    exact ⟨t :: t1, t2, wm, by rw [h1, e]; rfl, ⟨t, t1, rfl, h2, h3, a⟩, b⟩
theorem LG.dr {K : PySem.W.Frag} {wl l : Addr} {H H' : Hp} {gs : List Gt} (h : LG K H l gs) (n : l ≠ wl) (W : WellAt wl H) (d : Dr wl H H') : LG K H' l gs := by
  obtain ⟨vs, q, a⟩ := h
  exact ⟨vs, d.but _ _ n q, a.imp fun _ _ r => r.tk (TK.dr W d.but)⟩
theorem LW.dr {K : PySem.W.Frag} {wl l : Addr} {H H' : Hp} {ws : List Wr} (h : LW K H l ws) (n : l ≠ wl) (W : WellAt wl H) (d : Dr wl H H') : LW K H' l ws := by
  obtain ⟨vs, q, a⟩ := h
  exact ⟨vs, d.but _ _ n q, a.imp fun _ _ r => r.tk (TK.dr W d.but)⟩
/-- what stands while a net is asked -/
structure RS (K : PySem.W.Frag) (C wl : Addr) (H : Hp) (lg lw p ng nw : Addr) (gs : List Gt) (ws : List Wr) : Prop where
  W : WellAt wl H
  g : LG K H lg gs
  w : LW K H lw ws
  n : NetAt K C H p ng nw gs ws
  n1 : lg ≠ wl
  n2 : lw ≠ wl
  n3 : p ≠ wl
  n4 : ng ≠ wl
  n5 : nw ≠ wl
theorem NetAt.dr {K : PySem.W.Frag} {C wl p ng nw : Addr} {H H' : Hp} {gs : List Gt} {ws : List Wr} (n : NetAt K C H p ng nw gs ws) (W : WellAt wl H) (n3 : p ≠ wl) (n4 : ng ≠ wl) (n5 : nw ≠ wl) (d : Dr wl H H') : NetAt K C H' p ng nw gs ws := by
  obtain ⟨dx, h⟩ := n.ob
  exact ⟨⟨dx, d.but _ _ n3 h⟩, n.g.dr n4 W d, n.w.dr n5 W d, n.ne⟩
theorem RS.dr {K : PySem.W.Frag} {C wl lg lw p ng nw : Addr} {H H' : Hp} {gs : List Gt} {ws : List Wr} (r : RS K C wl H lg lw p ng nw gs ws) (d : Dr wl H H') : RS K C wl H' lg lw p ng nw gs ws :=
  ⟨d.well, r.g.dr r.n1 r.W d, r.w.dr r.n2 r.W d, r.n.dr r.W r.n3 r.n4 r.n5 d, r.n1, r.n2, r.n3, r.n4, r.n5⟩
theorem RS.same {K : PySem.W.Frag} {C wl lg lw p ng nw : Addr} {H H' : Hp} {gs : List Gt} {ws : List Wr} (r : RS K C wl H lg lw p ng nw gs ws) (s : Same H H') : RS K C wl H' lg lw p ng nw gs ws := r.dr ⟨But.same s, r.W.same s⟩
theorem LG.mut {K : PySem.W.Frag} {l a : Addr} {H : Hp} {gs : List Gt} {xs : List V} {o : HO} (h : LG K H l gs) (e : H a = some (.lst xs)) (n : l ≠ a) : LG K (upd H a o) l gs := by
  obtain ⟨vs, q, al⟩ := h
  exact ⟨vs, by rw [upd_ne n]; exact q, al.imp fun _ _ r => r.tk (TK.lst e)⟩
theorem LW.mut {K : PySem.W.Frag} {l a : Addr} {H : Hp} {ws : List Wr} {xs : List V} {o : HO} (h : LW K H l ws) (e : H a = some (.lst xs)) (n : l ≠ a) : LW K (upd H a o) l ws := by
  obtain ⟨vs, q, al⟩ := h
  exact ⟨vs, by rw [upd_ne n]; exact q, al.imp fun _ _ r => r.tk (TK.lst e)⟩
theorem NetAt.mut {K : PySem.W.Frag} {C p ng nw a : Addr} {H : Hp} {gs : List Gt} {ws : List Wr} {xs : List V} {o : HO} (n : NetAt K C H p ng nw gs ws) (e : H a = some (.lst xs)) (h1 : ng ≠ a) (h2 : nw ≠ a) : NetAt K C (upd H a o) p ng nw gs ws := by
  obtain ⟨dx, h⟩ := n.ob
  exact ⟨⟨dx, by rw [upd_ne (ne_of h e (by intro z; cases z))]; exact h⟩, n.g.mut e h1, n.w.mut e h2, n.ne⟩
theorem RS.mut {K : PySem.W.Frag} {C wl lg lw p ng nw a : Addr} {H : Hp} {gs : List Gt} {ws : List Wr} {xs : List V} {o : HO} (r : RS K C wl H lg lw p ng nw gs ws) (e : H a = some (.lst xs)) (h0 : a ≠ wl) (h1 : lg ≠ a) (h2 : lw ≠ a) (h3 : ng ≠ a) (h4 : nw ≠ a) : RS K C wl (upd H a o) lg lw p ng nw gs ws := by
  obtain ⟨x, y, z, hw⟩ := r.W
  exact ⟨⟨x, y, z, by rw [upd_ne h0.symm]; exact hw⟩, r.g.mut e h1, r.w.mut e h2, r.n.mut e h3 h4, r.n1, r.n2, r.n3, r.n4, r.n5⟩
theorem All2.imp' {α β : Type} {R S : α → β → Prop} {xs : List α} {ys : List β} (h : All2 R xs ys) (f : ∀ x y, x ∈ xs → R x y → S x y) : All2 S xs ys := ⟨h.1, fun i x y a b => f x y (List.mem_of_getElem? a) (h.2 i x y a b)⟩
/-! ### lists of lists of whole numbers -/
def RowV (K : PySem.W.Frag) (H : Hp) (v : V) (rs : List Int) : Prop := ∃ a, v = .ref a ∧ SqL K H a (rs.map V.int)
def RR (K : PySem.W.Frag) (H : Hp) (l : Addr) (rss : List (List Int)) : Prop := ∃ vs, SqL K H l vs ∧ All2 (RowV K H) vs rss
theorem RowV.same {K : PySem.W.Frag} {H H' : Hp} {v : V} {rs : List Int} (h : RowV K H v rs) (s : Same H H') : RowV K H' v rs := by
  obtain ⟨a, e, q⟩ := h
  exact ⟨a, e, s.seq q⟩
theorem RR.same {K : PySem.W.Frag} {H H' : Hp} {l : Addr} {rss : List (List Int)} (h : RR K H l rss) (s : Same H H') : RR K H' l rss := by
  obtain ⟨vs, q, a⟩ := h
  exact ⟨vs, s.seq q, a.imp fun _ _ r => r.same s⟩
/-- lists that were laid since H0, in a list that was -/
structure LL (H0 H : Hp) (l : Addr) (xss : List (List Int)) (as : List Addr) : Prop where
  at_ : H l = some (.lst (as.map V.ref))
  al : All2 (fun a xs => H a = some (.lst (xs.map V.int))) as xss
  new : ∀ a ∈ as, H0 a = none
  nd : as.Nodup
  nl : l ∉ as
  ln : H0 l = none
theorem LL.same {H0 H H' : Hp} {l : Addr} {xss : List (List Int)} {as : List Addr} (h : LL H0 H l xss as) (s : Same H H') : LL H0 H' l xss as :=
  ⟨s _ _ h.at_, h.al.imp fun _ _ r => s _ _ r, h.new, h.nd, h.nl, h.ln⟩
theorem LL.rr {K : PySem.W.Frag} {H0 H : Hp} {l : Addr} {xss : List (List Int)} {as : List Addr} (h : LL H0 H l xss as) : RR K H l xss := by
  refine ⟨_, SqL.of h.at_, by rw [List.length_map]; exact h.al.1, fun i v xs hv hx => ?_⟩
  rw [List.getElem?_map] at hv
  cases e : as[i]? with
  | none =>
    rw [e] at hv
    cases hv
  | some a =>
    rw [e] at hv
    cases hv
    exact ⟨a, rfl, SqL.of (h.al.2 i a xs e hx)⟩
def spRun (K : PySem.W.Frag) (C : Addr) : Sp := fun vs H Q _ => ∃ (p ng nw lr : Addr) (gs : List Gt) (ws : List Wr) (rss : List (List Int)), vs = [.ref p, .ref lr] ∧ NetAt K C H p ng nw gs ws ∧ NetOk gs ws ∧ RR K H lr rss ∧ (∀ rs ∈ rss, RowOk gs rs) ∧ rss.length ≤ 1000 ∧
  ∀ t p' ng' nw' lo H' tss we as, Same H H' → Run gs ws rss tss we → NetAt K C H' p' ng' nw' gs we → LL H H' lo (tss.map (outsOf gs)) as → H' t = some (.tup [.ref p', .ref lo]) → H p' = none → H ng' = none → H nw' = none → Q (.ref t) H'
section
variable {P : Program} {w : World} {K : PySem.W.Frag} {mg : Str → Option Value} {base : Heap}
abbrev nRun : List Str := ["net", "rows", "now", "told", "row", "outs"]
theorem scRun : FnScope nRun ["net", "rows"] (defScope sRun) := ⟨rfl, rfl, rfl, by decide +kernel, rfl, by decide +kernel, by decide +kernel⟩
abbrev DRun (P : Program) (w : World) (K : PySem.W.Frag) (mg : Str → Option Value) (base : Heap) (C : Addr) := Df P w K mg base 10 "run" ["net", "rows"] (spRun K C)
theorem ok_run {f fB fI C : Addr} {fd fdB fdI : FuncData} (F : Fun K "run" "run" sRun f fd) (hm : mg "run" = some (.ref f)) (B : Bt mg) (T : NT K mg C) (DB : DBeat P w K mg base C fB fdB) (MK : Mk K C fI) (init : FnOk P w K mg base CX0 6 fI fdI ["self", "gates", "wires"] (spInit K C)) (bI : Binds K fdI ["self", "gates", "wires"] []) : DRun P w K mg base C f fd := by
  refine ⟨?_, hm, F.kp, F.binds fun _ _ _ _ _ _ us hl => match us, hl with | [_, _], _ => rfl⟩
  refine F.ok scRun (fun vs H Q E h => ?_) (fun cdv A outer s H vs Q E hr h => ?_)
  · obtain ⟨p, ng, nw, lr, gs, ws, rss, rfl, _⟩ := h
    rfl
  · obtain ⟨p, ng, nw, lr, gs, ws, rss, rfl, NA, N, ⟨rv, sr, ra⟩, hro, hrl, q⟩ := h
    have nd := scRun.nd
    have hr7 : Room 7 _ := hr.mono (by decide)
    refine ⟨_, pss_cons (ps_if (pt_not (pt_val (pe_callB call_isi (by rfl) B.isi (by decide +kernel) (pa_cons (pv 1) (pa_cons (pe_bltn (v := .ty "list") (by rfl) B.list (by decide +kernel) rfl) pa_nil))))) (pss_one ps_never) pss_nil) <|
      pss_cons (ps_set (i := 2) nd rfl (.inl rfl) (pe_make MK init hr7 (by rfl) T.mg bI .nil pass0 (pa_cons (pe_fld (pv 0) rfl) (pa_cons (pe_fld (pv 0) rfl) pa_nil)))) <|
      pss_cons (ps_set (i := 3) nd rfl (.inl rfl) (pe_lst pa_nil)) <|
      pss_cons (ps_for PassesOwn.never rfl (pi_list (pv 1)) (pg_name (i := 4) nd rfl (.inl rfl)) <|
        pss_cons (ps_asg (pe_call DB.ok hr (by rfl) DB.mg DB.kp DB.bd .nil pass0 (pa_cons (pv 2) (pa_cons (pv 4) pa_nil))) (pg_tup (by rfl) (pgs_cons (pg_name (i := 2) nd rfl (.inl rfl)) (pgs_cons (pg_name (i := 5) nd rfl (.inl rfl)) pgs_nil)))) <|
        pss_one <| ps_expr (pe_bm PySem.F.plainAttrs_list PySem.F.slot_list_append PySem.F.type_list_append mt_append (pv 3) (pa_cons (pv 5) pa_nil))) <|
      pss_one <| ps_ret <| pe_tup <| pa_cons (pv 2) <| pa_cons (pv 3) pa_nil, ?_⟩
    obtain ⟨dx, ob⟩ := NA.ob
    have hlr : rv.length = rss.length := ra.1
    refine ⟨_, rfl, _, _, _, _, true, rfl, .ty "list", ty_lst sr, kit_ty (by decide +kernel), true, rfl, iteF ?_⟩
    refine ⟨_, rfl, p, C, dx, _, _, rfl, ob, T.cl, T.nG, nf_gates _ _, _, rfl, p, C, dx, _, _, rfl, ob, T.cl, T.nW, nf_wires _ _, ?_⟩
    refine net_in NA.g.rg NA.w.rw N fun p1 ng1 nw1 H1 NA1 s1 hp1 hng1 hnw1 => ?_
    refine ⟨Nat.zero_le _, fun D hD => ?_⟩
    have hD0 : H D = none := s1.free hD
    have s2 := s1.trans (same_new (o := .lst []) hD)
    have NA2 := NA1.same (same_new (o := .lst []) hD)
    obtain ⟨g1, hg1, _⟩ := id NA1.g
    obtain ⟨w1, hw1, _⟩ := id NA1.w
    refine ⟨_, rfl, lr, rfl, ⟨_, s2.seq sr⟩, for_list (K := K) (a := lr) (xs := rv) (fun i σ H' => ∃ (s4 s5 : Option V) (pn gn wn : Addr) (wm : List Wr) (tss : List (List Int)) (as : List Addr), σ = [some (.ref p), some (.ref lr), some (.ref pn), some (.ref D), s4, s5] ∧
        NetAt K C H' pn gn wn gs wm ∧ Run gs ws (rss.take i) tss wm ∧ Same H H' ∧ LL H H' D (tss.map (outsOf gs)) as ∧ as.length = i ∧ H pn = none ∧ H gn = none ∧ H wn = none ∧ gn ≠ D ∧ wn ≠ D)
      ⟨_, _, p1, ng1, nw1, ws, [], [], rfl, NA2, ⟨rfl, rfl⟩, s2, ⟨upd_same, All2.nil, by simp, List.nodup_nil, by simp, hD0⟩, rfl, hp1, hng1, hnw1, ne_of_none hg1 hD, ne_of_none hw1 hD⟩ (fun i σ H' _ ⟨_, _, _, _, _, _, _, _, _, _, _, sm, _⟩ => sm.seq sr) ?_ ?_⟩
    · rintro i v σ H' hv ⟨s4, s5, pn, gn, wn, wm, tss, as, rfl, NAn, hrun, sm, ll, hal, hpn, hgn, hwn, ngD, nwD⟩
      obtain ⟨rs, hrs, a, rfl, sq⟩ := ra.get hv
      have hi : i < rss.length := (List.getElem?_eq_some_iff.mp hrs).1
      have hro' := hro rs (List.mem_of_getElem? hrs)
      have Nm := hrun.ok N
      refine ⟨_, rfl, _, rfl, pn, gn, wn, a, gs, wm, rs, rfl, NAn, Nm, sm.seq sq, hro'.1, hro'.2, fun t p' ng' nw' lo H2 ts s3 iw wt NA' elo et hp' hng' hnw' hlo => ?_⟩
      refine ⟨t, _, rfl, .inl (.inl et), rfl, _, _, rfl, _, _, rfl, rfl, ?_⟩
      have llD := s3 _ _ ll.at_
      have nloD : lo ≠ D := fun z => by
        rw [z, ll.at_] at hlo
        cases hlo
      have ng'D : ng' ≠ D := fun z => by
        rw [z, ll.at_] at hng'
        cases hng'
      have nw'D : nw' ≠ D := fun z => by
        rw [z, ll.at_] at hnw'
        cases hnw'
      refine ⟨_, rfl, .inl ⟨rfl, _, SqL.of llD⟩, _, rfl, D, _, _, rfl, rfl, llD, by rw [List.length_map]; exact small1000 (by omega), ?_⟩
      refine ⟨_, _, p', ng', nw', wm.map (bh ts), tss ++ [ts], as ++ [lo], rfl, NA'.mut llD ng'D nw'D, ?_, same_mut (sm.trans s3) hD0, ⟨?_, ?_, ?_, ?_, ?_, hD0⟩, by simp [hal], sm.free hp', sm.free hng', sm.free hnw', ng'D, nw'D⟩
      · rw [List.take_add_one, hrs]
        exact hrun.snoc iw wt
      · rw [upd_same, List.map_append]
        rfl
      · rw [List.map_append]
        refine All2.snoc (ll.al.imp' fun a xs ha r => ?_) ?_
        · rw [upd_ne (show a ≠ D from fun z => ll.nl (by rw [← z]; exact ha))]
          exact s3 _ _ r
        · rw [upd_ne nloD, elo]
          unfold outsOf
          rw [List.map_map]
          rfl
      · intro b hb
        rcases List.mem_append.mp hb with hb | hb
        · exact ll.new b hb
        · simp at hb
          rw [hb]
          exact sm.free hlo
      · rw [List.nodup_append]
        refine ⟨ll.nd, by simp, fun x hx y hy => ?_⟩
        simp at hy
        subst hy
        intro z
        subst z
        obtain ⟨k, hk⟩ := List.getElem?_of_mem hx
        obtain ⟨xs, _, r⟩ := ll.al.get hk
        rw [r] at hlo
        cases hlo
      · intro z
        rcases List.mem_append.mp z with z | z
        · exact ll.nl z
        · simp at z
          exact nloD z.symm
    · rintro σ H' ⟨s4, s5, pn, gn, wn, wm, tss, as, rfl, NAn, hrun, sm, ll, hal, hpn, hgn, hwn, ngD, nwD⟩
      rw [hlr, List.take_length] at hrun
      refine ⟨_, rfl, _, rfl, (by show 2 ≤ sizeLine; decide), fun t ht => ?_⟩
      have st : Same H' (upd H' t (.tup [.ref pn, .ref D])) := same_new ht
      exact q t pn gn wn D _ tss wm as (sm.trans st) hrun (NAn.same st) (ll.same st) upd_same hpn hgn hwn
end
end Lag

set_option maxRecDepth 100000
set_option maxHeartbeats 8000000
namespace Lag
open PySem PySem.Spec PyProof.Rows L2
theorem LL.push {H0 H H2 : Hp} {l R : Addr} {xss : List (List Int)} {xs : List Int} {as : List Addr} (h : LL H0 H l xss as) (k : ∀ a o, a = l ∨ a ∈ as → H a = some o → H2 a = some o) (hR : H R = none) (hR0 : H0 R = none) (eR : H2 R = some (.lst (xs.map V.int))) :
    LL H0 (upd H2 l (.lst (as.map V.ref ++ [.ref R]))) l (xss ++ [xs]) (as ++ [R]) := by
  have nRl : R ≠ l := fun z => by
    rw [z, h.at_] at hR
    cases hR
  refine ⟨by rw [upd_same, List.map_append]; rfl, ?_, ?_, ?_, ?_, h.ln⟩
  · refine All2.snoc (h.al.imp' fun a xs ha r => ?_) ?_
    · rw [upd_ne (show a ≠ l from fun z => h.nl (by rw [← z]; exact ha))]
      exact k a _ (.inr ha) r
    · rw [upd_ne nRl]
      exact eR
  · intro b hb
    rcases List.mem_append.mp hb with hb | hb
    · exact h.new b hb
    · simp at hb
      rw [hb]
      exact hR0
  · rw [List.nodup_append]
    refine ⟨h.nd, by simp, fun x hx y hy => ?_⟩
    simp at hy
    subst hy
    intro z
    subst z
    obtain ⟨j, hj⟩ := List.getElem?_of_mem hx
    obtain ⟨xs, _, r⟩ := h.al.get hj
    rw [r] at hR
    cases hR
  · intro z
    rcases List.mem_append.mp z with z | z
    · exact h.nl z
    · simp at z
      exact nRl z.symm
theorem LL.dr {H0 H H' : Hp} {wl l : Addr} {xss : List (List Int)} {as : List Addr} (h : LL H0 H l xss as) (W0 : WellAt wl H0) (d : Dr wl H H') : LL H0 H' l xss as :=
  ⟨d.but _ _ (W0.ne h.ln).symm h.at_, h.al.imp' fun a _ ha r => d.but _ _ (W0.ne (h.new a ha)).symm r, h.new, h.nd, h.nl, h.ln⟩
def spRows (K : PySem.W.Frag) : Sp := fun vs H Q _ => ∃ (wl lg : Addr) (m : Nat) (gs : List Gt), vs = [.ref wl, .ref lg, .int (m : Nat)] ∧ WellAt wl H ∧ lg ≠ wl ∧ LG K H lg gs ∧ gs.length ≤ 100 ∧ m ≤ 50 ∧
  ∀ rss l H' as, Dr wl H H' → (∀ rs ∈ rss, RowOk gs rs) → rss.length ≤ m → LL H H' l rss as → Q (.ref l) H'
section
variable {P : Program} {w : World} {K : PySem.W.Frag} {mg : Str → Option Value} {base : Heap}
abbrev nRows : List Str := ["_law_well_here", "_law_gates", "_law_most", "_law_many", "_law_rows_here", "_law_k", "_law_gate_here", "_law_j"]
abbrev DRows (P : Program) (w : World) (K : PySem.W.Frag) (mg : Str → Option Value) (base : Heap) := Df P w K mg base 3 "_law_rows" ["_law_well_here", "_law_gates", "_law_most"] (spRows K)
end
end Lag

set_option maxRecDepth 100000
set_option maxHeartbeats 8000000
namespace Lag
open PySem PySem.Spec PyProof.Rows L2
/-! ### a wire's row of worths -/
def colOf (tss : List (List Int)) (g : Nat) : List Int := tss.map fun ts => ts.getD g 0
def rowOf (x : Wr) (tss : List (List Int)) : List Int := x.2.2 ++ colOf tss x.1
theorem rowOf_cons (x : Wr) (t : List Int) (tl : List (List Int)) : rowOf x (t :: tl) = wv t x :: rowOf (bh t x) tl := by
  obtain ⟨a, b, r⟩ := x
  cases r with
  | nil => rfl
  | cons r l =>
    show (r :: l) ++ (t.getD a 0 :: colOf tl a) = r :: ((l ++ [t.getD a 0]) ++ colOf tl a)
    rw [List.append_assoc]
    rfl
theorem Run.wire {gs : List Gt} : ∀ {rss : List (List Int)} {ws we : List Wr} {tss : List (List Int)}, Run gs ws rss tss we → we = ws.map fun x => (x.1, x.2.1, (rowOf x tss).drop tss.length)
  | [], ws, we, tss, h => by
    obtain ⟨h1, h2⟩ := h
    subst h1 h2
    refine (List.map_id'' (fun x => ?_) we).symm
    obtain ⟨a, b, r⟩ := x
    show (a, b, (r ++ []).drop 0) = (a, b, r)
    rw [List.append_nil, List.drop_zero]
  | r :: rss, ws, we, tss, h => by
    obtain ⟨t, tl, h1, _, _, h4⟩ := h
    subst h1
    rw [Run.wire h4, List.map_map]
    refine List.map_congr_left fun x _ => ?_
    obtain ⟨e1, e2, _⟩ := bh_ends t x
    show ((bh t x).1, (bh t x).2.1, (rowOf (bh t x) tl).drop tl.length) = (x.1, x.2.1, (rowOf x (t :: tl)).drop (tl.length + 1))
    rw [e1, e2, rowOf_cons, List.drop_succ_cons]
theorem one_in {gs : List Gt} {ws : List Wr} (N : NetOk gs ws) {x : Wr} (hx : x ∈ ws) (hk : kindAt gs x.2.1 = "out") (ts : List Int) : cmg ws ts x.2.1 = [wv ts x] := by
  have h1 := N.one x.2.1 (N.wok x hx).e hk
  unfold cnt at h1
  rw [List.countP_eq_length_filter] at h1
  have hm : x ∈ ws.filter fun y => y.2.1 == x.2.1 := List.mem_filter.mpr ⟨hx, by simp⟩
  unfold cmg
  obtain ⟨y, hy⟩ := List.length_eq_one_iff.mp h1
  rw [hy] at hm ⊢
  simp at hm
  rw [hm]
  rfl
theorem Run.out {gs : List Gt} : ∀ {rss : List (List Int)} {ws we : List Wr} {tss : List (List Int)} {x : Wr}, NetOk gs ws → Run gs ws rss tss we → x ∈ ws → kindAt gs x.2.1 = "out" → colOf tss x.2.1 = (rowOf x tss).take tss.length
  | [], ws, we, tss, x, N, h, _, _ => by
    rw [h.1]
    rfl
  | r :: rss, ws, we, tss, x, N, h, hx, hk => by
    obtain ⟨t, tl, h1, h2, h3, h4⟩ := h
    subst h1
    obtain ⟨e1, e2, _⟩ := bh_ends t x
    have ih := Run.out (x := bh t x) (N.behind h3) h4 (List.mem_map_of_mem hx) (by rw [e2]; exact hk)
    rw [e2] at ih
    rw [rowOf_cons]
    show t.getD x.2.1 0 :: colOf tl x.2.1 = (wv t x :: rowOf (bh t x) tl).take (tl.length + 1)
    rw [List.take_succ_cons, ← ih, h2.eq x.2.1 (N.wok x hx).e (by rw [hk]; decide +kernel), hk, one_in N hx hk, kv_out]
    rfl
theorem Run.row_len {x : Wr} {tss : List (List Int)} : (rowOf x tss).length = x.2.2.length + tss.length := by
  unfold rowOf colOf
  rw [List.length_append, List.length_map]
/-- alike as far as the rows are -/
theorem Run.same {gs : List Gt} {r1 r2 r2' : List (List Int)} {ws we we' : List Wr} {tss tss' : List (List Int)} (N : NetOk gs ws) (hr : ∀ rs ∈ r1, RowOk gs rs) (h : Run gs ws (r1 ++ r2) tss we) (h' : Run gs ws (r1 ++ r2') tss' we') : tss.take r1.length = tss'.take r1.length := by
  obtain ⟨t1, t2, wm, e, a, _⟩ := h.cut
  obtain ⟨t1', t2', wm', e', a', _⟩ := h'.cut
  obtain ⟨z, _⟩ := a.unique N hr a'
  rw [e, e', ← z, ← a.len, List.take_left, List.take_left]
end Lag

set_option maxRecDepth 100000
set_option maxHeartbeats 8000000
namespace Lag
open PySem PySem.Spec PyProof.Rows L2
/-- whole numbers, as data -/
def numsD (l : List Int) : PyData := .list (l.map PyData.int)
theorem numsD_eq (a b : List Int) : PyData.eqv (numsD a) (numsD b) = decide (a = b) := eqvAll_map (fun x y => intD_eq x y) a b
theorem sh_nums (l : List Int) : Sh 1 (numsD l) := by
  refine sh_list fun d hd => ?_
  obtain ⟨i, _, rfl⟩ := List.mem_map.mp hd
  exact sh_int _
theorem dp_nums {K : PySem.W.Frag} {H : Hp} {l : Addr} {xs : List Int} (h : SqL K H l (xs.map V.int)) : Dp K H (.ref l) (numsD xs) := .lst h (ints_dp xs)
def tupD (l : List Int) : PyData := .tuple (l.map PyData.int)
theorem tupD_eq (a b : List Int) : PyData.eqv (tupD a) (tupD b) = decide (a = b) := eqvAll_map (fun x y => intD_eq x y) a b
theorem sh_tup (l : List Int) : Sh 1 (tupD l) := by
  refine sh_tuple fun d hd => ?_
  obtain ⟨i, _, rfl⟩ := List.mem_map.mp hd
  exact sh_int _
theorem dp_tup {K : PySem.W.Frag} {H : Hp} {l : Addr} {xs : List Int} (h : SqT K H l (xs.map V.int)) : Dp K H (.ref l) (tupD xs) := .tup h (ints_dp xs)
def rowsD (l : List (List Int)) : PyData := .list (l.map numsD)
theorem rowsD_eq (a b : List (List Int)) : PyData.eqv (rowsD a) (rowsD b) = decide (a = b) := eqvAll_map numsD_eq a b
theorem sh_rows (l : List (List Int)) : Sh 2 (rowsD l) := by
  refine sh_list fun d hd => ?_
  obtain ⟨i, _, rfl⟩ := List.mem_map.mp hd
  exact sh_nums i
theorem RowV.dp {K : PySem.W.Frag} {H : Hp} {v : V} {rs : List Int} (h : RowV K H v rs) : Dp K H v (numsD rs) := by
  obtain ⟨a, rfl, q⟩ := h
  exact dp_nums q
theorem RR.dp {K : PySem.W.Frag} {H : Hp} {l : Addr} {xss : List (List Int)} (h : RR K H l xss) : Dp K H (.ref l) (rowsD xss) := by
  obtain ⟨vs, q, a⟩ := h
  exact .lst q (dp_all (fun _ _ r => r.dp) a)
theorem slA {K : PySem.W.Frag} {H : Hp} {a : Addr} {xs : List V} {lo hi : Option Int} {Q : VK} (sq : SqT K H a xs) (q : ∀ b H', Same H H' → SqT K H' b (cutV xs lo hi) → Q (.ref b) H') : rSlA K (.ref a) lo hi H Q := by
  refine ⟨a, xs, rfl, sq, fun z => q a H (Same.refl _) ?_, fun _ p hp => q p _ (same_new hp) (.inl (.inl upd_same))⟩
  unfold cutV
  rw [z.1, z.2, List.drop_zero, Nat.sub_zero, List.take_length]
  exact sq
theorem slN {K : PySem.W.Frag} {σ : L2.St} {H : Hp} {a : Addr} {xs : List V} {lo : Option Int} {Q : VK} (sq : SqT K H a xs) (q : ∀ b H', Same H H' → SqT K H' b (cutV xs lo none) → Q (.ref b) H') : tNoPart σ H (fun u H3 => rSlA K (.ref a) lo u H3 Q) := slA sq q
theorem LL.rv {K : PySem.W.Frag} {H0 H : Hp} {l : Addr} {xss : List (List Int)} {as : List Addr} (h : LL H0 H l xss as) : All2 (RowV K H) (as.map V.ref) xss := by
  refine ⟨by rw [List.length_map]; exact h.al.1, fun i v xs hv hx => ?_⟩
  rw [List.getElem?_map] at hv
  cases e : as[i]? with
  | none =>
    rw [e] at hv
    cases hv
  | some a =>
    rw [e] at hv
    cases hv
    exact ⟨a, rfl, SqL.of (h.al.2 i a xs e hx)⟩
theorem catA {K : PySem.W.Frag} {H : Hp} {a b : Addr} {xs ys : List V} {Q : VK} (sa : SqT K H a xs) (sb : SqT K H b ys) (hl : xs.length + ys.length ≤ sizeLine) (q : ∀ c H', Same H H' → SqT K H' c (xs ++ ys) → Q (.ref c) H') : rCatA K (.ref a) (.ref b) H Q := by
  refine ⟨a, b, xs, ys, rfl, rfl, sa, sb, hl, fun z => q b H (Same.refl _) ?_, fun _ z => q a H (Same.refl _) ?_, fun _ _ p hp => q p _ (same_new hp) (.inl (.inl upd_same))⟩
  · rw [z]
    exact sb
  · rw [z, List.append_nil]
    exact sa
theorem Run.lens {gs : List Gt} : ∀ {rss : List (List Int)} {ws we : List Wr} {tss : List (List Int)}, Run gs ws rss tss we → ∀ ts ∈ tss, ts.length = gs.length
  | [], _, _, _, h, ts, hts => by
    rw [h.1] at hts
    cases hts
  | r :: rss, _, _, _, h, ts, hts => by
    obtain ⟨t, tl, h1, h2, _, h4⟩ := h
    rw [h1] at hts
    rcases List.mem_cons.mp hts with e | hts
    · rw [e]
      exact h2.len
    · exact Run.lens h4 ts hts
theorem getD_at {ts : List Int} {g : Nat} (h : g < ts.length) : (ts.map V.int)[g]? = some (.int (ts.getD g 0)) := by
  rw [List.getElem?_map, List.getElem?_eq_getElem h, List.getD_eq_getElem?_getD, List.getElem?_eq_getElem h]
  rfl
def spRight : Sp := fun vs H Q _ => ∃ wl : Addr, vs = [.ref wl] ∧ WellAt wl H ∧ ∀ H', Dr wl H H' → Q (.bl true) H'
theorem first_self {K : PySem.W.Frag} (C : Addr) : PySem.W.notFirst K C (.ref C) = true := by simp [PySem.W.notFirst]
structure NC (P : Program) (w : World) (K : PySem.W.Frag) (mg : Str → Option Value) (base : Heap) (C fI fE fO : Addr) (fdI fdE fdO : FuncData) : Prop where
  T : NT K mg C
  Y : NTy K C
  mk0 : Mk K C fI
  init : FnOk P w K mg base CX0 6 fI fdI ["self", "gates", "wires"] (spInit K C)
  bI : Binds K fdI ["self", "gates", "wires"] []
  eq : FnOk P w K mg base CX0 1 fE fdE ["self", "other"] (spEqN K C)
  sE : PySem.W.findIn K (.ref C) "__eq__" = some (some (.ref fE))
  fnE : PySem.W.isFn K (.ref fE) = true
  bE : Binds K fdE ["self", "other"] []
  outs : FnOk P w K mg base CX0 2 fO fdO ["self"] (spPorts K C "out")
  mO : Meth K C "outs" fO
  bO : Binds K fdO ["self"] []
def spLaw (K : PySem.W.Frag) : Sp := fun vs H Q _ => ∃ (a : Addr) (ns : List Int), vs = [.ref a] ∧ SqL K H a (ns.map V.int) ∧ ns.length ≤ 63 ∧ ∀ H', Q (.bl true) H'
theorem mem_cut {xs : List V} {lo hi : Option Int} {v : V} (h : v ∈ cutV xs lo hi) : v ∈ xs := by
  unfold cutV at h
  exact List.mem_of_mem_drop (List.mem_of_mem_take h)
end Lag

set_option maxRecDepth 100000
set_option maxHeartbeats 8000000
namespace Lag
open PySem PySem.Spec PyProof.Rows L2
/-- what is made behind: the list grows by one -/
theorem All2.pushT {α : Type} {R : Hp → V → α → Prop} {H H2 : Hp} {D : Addr} {acc : List V} {l : List α} {v : V} {x : α} {o : HO} (mono : ∀ {H H' : Hp} {v : V} {x : α}, TK H H' → R H v x → R H' v x) (h : All2 (R H) acc l) (hD : H2 D = some (.lst acc)) (t : TK H H2) (r : R H2 v x) : All2 (R (upd H2 D o)) (acc ++ [v]) (l ++ [x]) :=
  (h.imp fun _ _ r => mono (t.trans (TK.lst hD)) r).snoc (mono (TK.lst hD) r)
def rTupOf (K : PySem.W.Frag) : List V → Hp → VK → Prop := fun xs H Q => ∃ p ys, xs = [.ref p] ∧ ((SqL K H p ys ∧ ∀ l, H l = none → Q (.ref l) (upd H l (.tup ys))) ∨ (SqT K H p ys ∧ Q (.ref p) H))
theorem pi_or {X : Cx} {tg l : Expr} {w1 w2 : TI} (h1 : PI X tg l w1) (h2 : PI X tg l w2) : PI X tg l (fun σ H R => w1 σ H R ∨ w2 σ H R) := ⟨fun pins s σ H R I h => h.elim (h1.run pins s σ H R I) (h2.run pins s σ H R I)⟩
theorem walk_zipT {K : PySem.W.Frag} {a b : Addr} {xs ys : List V} {n : Nat} (hn : n = min xs.length ys.length) : Walk (RZ.ItzT K a b) n (fun H => SqT K H a xs ∧ SqT K H b ys) (YPair (fun i => xs[i]?) (fun i => ys[i]?)) := by
  subst hn
  refine ⟨fun i _ hi q => ?_, fun _ q => ⟨xs, ys, q.1, q.2, by omega⟩, fun i H v H' _ q y => ?_⟩
  · have h1 : i < xs.length := by omega
    have h2 : i < ys.length := by omega
    exact ⟨xs, ys, xs[i], ys[i], q.1, q.2, by simp [h1], by simp [h2]⟩
  · obtain ⟨T, x, z, h1, h2, h3, h4, h5⟩ := y
    exact ⟨T, x, z, h1, h2, h3, h4 xs q.1, h5 ys q.2⟩
/-- the slots, written out -/
theorem st_norm {f : L2.St → Hp → Prop} {σ σ' : L2.St} {H : Hp} (e : σ = σ') (h : f σ' H) : f σ H := e ▸ h
/-- wires alike but for the worths in their registers -/
def LikeW (x y : Wr) : Prop := x.1 = y.1 ∧ x.2.1 = y.2.1 ∧ x.2.2.length = y.2.2.length
theorem cnt_like : ∀ {ws us : List Wr} (e : Nat), All2 LikeW ws us → cnt us e = cnt ws e
  | [], [], _, _ => rfl
  | [], _ :: _, _, a => by cases a.1
  | _ :: _, [], _, a => by cases a.1
  | x :: ws, y :: us, e, a => by
    have ih := cnt_like e a.tail
    unfold cnt at ih ⊢
    rw [List.countP_cons, List.countP_cons, ih, a.head.2.1]
theorem NetOk.like {gs : List Gt} {ws us : List Wr} (N : NetOk gs ws) (a : All2 LikeW ws us) (h : ∀ x ∈ us, ROk x.2.2) : NetOk gs us := by
  obtain ⟨ρ, hρ⟩ := N.rank
  have back : ∀ y ∈ us, ∃ x ∈ ws, LikeW x y := fun y hy => by
    obtain ⟨i, hi⟩ := List.getElem?_of_mem hy
    obtain ⟨x, hx, r⟩ := a.getR hi
    exact ⟨x, List.mem_of_getElem? hx, r⟩
  refine ⟨N.ne, N.gl, by rw [← a.1]; exact N.wl, N.gok, fun y hy => ?_, fun e he hk => by rw [cnt_like e a]; exact N.one e he hk, fun e he hk => by rw [cnt_like e a]; exact N.some e he hk, ρ, fun y hy h0 => ?_⟩
  · obtain ⟨x, hx, h1, h2, h3⟩ := back y hy
    have W := N.wok x hx
    exact ⟨by rw [← h1]; exact W.s, by rw [← h2]; exact W.e, by rw [← h1]; exact W.ks, by rw [← h2]; exact W.ke, h y hy, by rw [← h3]; exact W.rl⟩
  · obtain ⟨x, hx, h1, h2, h3⟩ := back y hy
    rw [← h1, ← h2]
    refine hρ x hx ?_
    rw [h0] at h3
    exact List.length_eq_zero_iff.mp h3
theorem kindAt_map {gs : List Gt} {f : Gt → Gt} {i : Nat} (h : i < gs.length) : kindAt (gs.map f) i = (f gs[i]).1 := by
  unfold kindAt
  rw [List.getD_eq_getElem?_getD, List.getElem?_map, List.getElem?_eq_getElem h]
  rfl
theorem kindAt_i {gs : List Gt} {i : Nat} (h : i < gs.length) : kindAt gs i = gs[i].1 := by
  unfold kindAt
  rw [List.getD_eq_getElem?_getD, List.getElem?_eq_getElem h]
  rfl
theorem like_bh (ts : List Int) (ws : List Wr) : All2 LikeW ws (ws.map (bh ts)) := by
  refine ⟨by rw [List.length_map], fun i x y hx hy => ?_⟩
  rw [List.getElem?_map, hx] at hy
  cases hy
  obtain ⟨h1, h2, h3⟩ := bh_ends ts x
  exact ⟨h1.symm, h2.symm, h3.symm⟩
theorem like_trans {ws us vs : List Wr} (a : All2 LikeW ws us) (b : All2 LikeW us vs) : All2 LikeW ws vs := by
  refine ⟨a.1.trans b.1, fun i x z hx hz => ?_⟩
  obtain ⟨y, hy, r⟩ := a.get hx
  have r2 := b.2 i y z hy hz
  exact ⟨r.1.trans r2.1, r.2.1.trans r2.2.1, r.2.2.trans r2.2.2⟩
theorem like_refl (ws : List Wr) : All2 LikeW ws ws := ⟨rfl, fun i x y hx hy => by
  rw [hx] at hy
  cases hy
  exact ⟨rfl, rfl, rfl⟩⟩
theorem Run.like {gs : List Gt} : ∀ {rss : List (List Int)} {ws we : List Wr} {tss : List (List Int)}, Run gs ws rss tss we → All2 LikeW ws we
  | [], ws, we, tss, h => by rw [h.2]; exact like_refl _
  | r :: rss, ws, we, tss, h => by
    obtain ⟨t, tl, _, _, _, h4⟩ := h
    exact like_trans (like_bh t ws) (Run.like h4)
/-- [_law_draw(_law_well_here, 97) for _law_worth in <a row>], in a tuple or a list -/
def drawsT (i : TI) (k : Nat) : TE := tLc i (gName k) tYes (tCall spDraw [] E0 (tCons (tVar 0) (tCons (tC (.int 97)) tNil))) [k]
theorem draws_in {J : It} {n : Nat} {G : Hp → Prop} {Y : Nat → Hp → V → Hp → Prop} (W : Walk J n G Y) (hY : ∀ i H x H', Y i H x H' → H' = H) {wl D : Addr} {k : Nat} {σ : L2.St} {H : Hp} {Q : Hp → Prop} (hk : k ≠ 0) (h0 : σ[0]? = some (some (.ref wl))) (hw : WellAt wl H) (hD : H D = none) (hn : n ≤ 1000)
    (hG : ∀ H', Dr wl H H' → G H') (q : ∀ H' rs, Dr wl H H' → rs.length = n → WOk1 rs → H' D = some (.lst (rs.map V.int)) → Q H') :
    ∃ W : Nat → Nat → Hp → Prop, (∃ m, W 0 m (upd H D (.lst []))) ∧ ∀ i m H, W i m H →
      (J.stop i H ∧ Q H) ∨ (J.go i H ∧ ∃ Nx : Hp → Prop, (∀ H', Nx H' → ∃ m', m' < m ∧ W (i + 1) m' H') ∧ ∀ x H', J.yld i H x H' → gName k x (wipe σ [k]) H' fun σ2 H2 => wipe σ2 [k] = wipe σ [k] ∧ tYes σ2 H2 fun b H3 =>
        if b = true then (tCall spDraw [] E0 (tCons (tVar 0) (tCons (tC (.int 97)) tNil))) σ2 H3 fun y H4 => ∃ acc, H4 D = some (.lst acc) ∧ acc.length < sizeLine ∧ Nx (upd H4 D (.lst (acc ++ [y]))) else Nx H3) := by
  have nDw : D ≠ wl := (hw.ne hD).symm
  have s0 : ∀ x, (((wipe σ [k]).set k x))[0]? = some (some (.ref wl)) := fun x => by
    show (((σ.set k none).set k x))[0]? = _
    rw [List.getElem?_set_ne hk, List.getElem?_set_ne hk]
    exact h0
  refine lc_it W (fun i Hc => ∃ rs : List Int, rs.length = i ∧ WOk1 rs ∧ Hc D = some (.lst (rs.map V.int)) ∧ Dr wl H Hc) ⟨[], rfl, by simp [WOk1], upd_same, Dr.new hw hD⟩ (fun i Hc _ ⟨_, _, _, _, d⟩ => hG Hc d) ?_ ?_
  · rintro i x Hc Hc' hi ⟨rs, hl, hr, hc, d⟩ y
    have := hY _ _ _ _ y
    subst this
    refine ⟨?_, tyes ?_⟩
    · show ((σ.set k none).set k _).set k none = σ.set k none
      simp
    refine ⟨_, s0 _, wl, 97, rfl, by decide, by decide, d.well, fun z H2 z0 z1 E => ?_⟩
    refine ⟨_, E.but _ _ nDw hc, by rw [List.length_map]; exact small1000 (by omega), rs ++ [z], by simp [hl], ?_, ?_, set_well (d.trans E) hD nDw⟩
    · intro y hy
      rcases List.mem_append.mp hy with hy | hy
      · exact hr y hy
      · simp at hy
        subst hy
        exact ⟨z0, by omega⟩
    · rw [upd_same, List.map_append]
      rfl
  · rintro Hc ⟨rs, hl, hr, hc, d⟩
    exact q Hc rs d hl hr hc
def TupV (K : PySem.W.Frag) (H : Hp) (v : V) (rs : List Int) : Prop := ∃ a, v = .ref a ∧ SqT K H a (rs.map V.int)
theorem TupV.tk {K : PySem.W.Frag} {H H' : Hp} {v : V} {rs : List Int} (t : TK H H') (h : TupV K H v rs) : TupV K H' v rs := by
  obtain ⟨a, e, s⟩ := h
  exact ⟨a, e, t.seq s⟩
def RTs (K : PySem.W.Frag) (H : Hp) (l : Addr) (xss : List (List Int)) : Prop := ∃ vs, SqL K H l vs ∧ All2 (TupV K H) vs xss
end Lag

set_option maxRecDepth 100000
set_option maxHeartbeats 8000000
namespace Lag
open PySem PySem.Spec PyProof.Rows L2
theorem gn_norm {i : Nat} {x : V} {σ σ' : L2.St} {H : Hp} {N : L2.St → Hp → Prop} (e : σ.set i (some x) = σ') (h : N σ' H) : gName i x σ H N := by
  subst e
  exact h
/-! ### the texts of nets -/
abbrev numT (n : Int) : Str := Str.ofString (toString n)
def natT (n : Nat) : Str := numT (n : Int)
theorem natT_tl (n : Nat) : TL.tl (natT n) = TL.numL n := TL.tl_num n
theorem natT_free {n s : Nat} (h : s < 48 ∨ 57 < s) : s ∉ TL.tl (natT n) := by
  rw [natT_tl]
  exact TL.numL_free h
theorem natT_len {n : Nat} (h : n < 1000) : (natT n).length ≤ 3 := by
  rw [TL.len_tl, natT_tl]
  exact TL.numL_len (by decide) h
theorem natT_int {n : Nat} (h : n < 1000) : intText? (natT n) = some (n : Int) := by
  refine TL.int_num ?_
  have := TL.numL_len (k := 3) (by decide) h
  omega
theorem natT_digits (n : Nat) : ∀ c ∈ TL.tl (natT n), 48 ≤ c ∧ c ≤ 57 := fun c hc => by
  by_cases h : c < 48 ∨ 57 < c
  · exact absurd hc (natT_free h)
  · omega
theorem natT_pos (n : Nat) : 0 < (natT n).length := by
  rw [TL.len_tl, natT_tl]
  exact List.length_pos_iff.mpr (TL.numL_ne n)
theorem isDigit_at : ∀ c, c < 58 → 48 ≤ c → Unicode.isDigit c = true := by decide +kernel
theorem natT_isdigit (n : Nat) : Txt.isdigit (natT n) = true := by
  unfold Txt.isdigit
  rw [Bool.and_eq_true, decide_eq_true_iff, ← Array.all_toList, List.all_eq_true]
  refine ⟨natT_pos n, fun c hc => ?_⟩
  have := natT_digits n c hc
  exact isDigit_at c (by omega) this.1
theorem natT_isascii (n : Nat) : Txt.isascii (natT n) = true := by
  unfold Txt.isascii
  rw [← Array.all_toList, List.all_eq_true]
  intro c hc
  have := natT_digits n c hc
  exact decide_eq_true (by omega)
theorem natT_starts (n : Nat) : Txt.startswith (natT n) "-" = false := by
  unfold Txt.startswith
  rw [Bool.and_eq_false_iff]
  refine .inr ?_
  rw [Bool.eq_false_iff]
  intro h
  rw [StrLaws.subAt_eq] at h
  have e := eq_of_beq h
  have hm : 45 ∈ (("-" : Str)).cps.toList := by decide +kernel
  rw [← e] at hm
  exact natT_free (n := n) (s := 45) (.inl (by decide)) (List.mem_of_mem_drop (List.mem_of_mem_take hm))
def gateT (g : Gt) : Str := "gate " ++ g.1 ++ " " ++ numT g.2
def wireN (x : Wr) : List Int := ((x.1 : Nat) : Int) :: ((x.2.1 : Nat) : Int) :: x.2.2
def wireT (x : Wr) : Str := "wire " ++ Txt.join " " ((wireN x).map numT)
def rowsT (gs : List Gt) (ws : List Wr) : List Str := gs.map gateT ++ ws.map wireT
def netT (gs : List Gt) (ws : List Wr) : Str := Txt.join "\n" (rowsT gs ws)
theorem tl_blank : TL.tl (" " : Str) = [32] := by decide +kernel
theorem tl_feed : TL.tl ("\n" : Str) = [10] := by decide +kernel
theorem blank_all : ((" " : Str)).cps.all (· < 256) = true := by decide +kernel
theorem feed_all : (("\n" : Str)).cps.all (· < 256) = true := by decide +kernel
theorem kinds_free : ∀ k ∈ kinds, (32 ∉ TL.tl k ∧ 10 ∉ TL.tl k) ∧ k.length ≤ 5 := by decide +kernel
theorem nat_of {i : Int} (h : 0 ≤ i) : numT i = natT i.toNat := by
  unfold natT
  rw [Int.toNat_of_nonneg h]
theorem num_free {i : Int} {s : Nat} (h0 : 0 ≤ i) (h : s < 48 ∨ 57 < s) : s ∉ TL.tl (numT i) := by
  rw [nat_of h0]
  exact natT_free h
theorem join_two (y a b : Str) (r : List Str) : Txt.join y (a :: b :: r) = a ++ y ++ Txt.join y (b :: r) := by
  rw [TL.join_eq, TL.join_eq]
  rfl
theorem join_one (y a : Str) : Txt.join y [a] = a := by
  rw [TL.join_eq]
  rfl
theorem str_assoc (a b c : Str) : a ++ b ++ c = a ++ (b ++ c) := TL.ext_tl (by simp only [TL.tl_append, List.append_assoc])
theorem gateT_join (g : Gt) : gateT g = Txt.join " " ["gate", g.1, numT g.2] := by
  rw [join_two, join_two, join_one]
  unfold gateT
  refine TL.ext_tl ?_
  simp only [TL.tl_append, List.append_assoc]
  have : TL.tl ("gate " : Str) = TL.tl ("gate" : Str) ++ TL.tl (" " : Str) := by decide +kernel
  rw [this, List.append_assoc]
theorem wireT_join (x : Wr) : wireT x = Txt.join " " ("wire" :: (wireN x).map numT) := by
  unfold wireT wireN
  rw [List.map_cons, join_two]
  congr 1
  all_goals exact TL.ext_tl (by rw [TL.tl_append]; decide +kernel)
theorem gateT_split {g : Gt} (h : GOk g) : Txt.split (gateT g) " " = [("gate" : Str), g.1, numT g.2] := by
  rw [gateT_join]
  refine TL.split_join tl_blank blank_all (by simp) fun p hp => ?_
  simp only [List.mem_cons, List.not_mem_nil, or_false] at hp
  rcases hp with rfl | rfl | rfl
  · decide +kernel
  · exact (kinds_free _ h.1).1.1
  · exact num_free h.2.1 (.inl (by decide))
theorem wireN_pos {x : Wr} (h : ROk x.2.2) : ∀ i ∈ wireN x, 0 ≤ i := fun i hi => by
  unfold wireN at hi
  rcases List.mem_cons.mp hi with e | hi
  · omega
  · rcases List.mem_cons.mp hi with e | hi
    · omega
    · exact (h i hi).1
theorem wireT_split {x : Wr} (h : ROk x.2.2) : Txt.split (wireT x) " " = ("wire" : Str) :: (wireN x).map numT := by
  rw [wireT_join]
  refine TL.split_join tl_blank blank_all (by simp) fun p hp => ?_
  rcases List.mem_cons.mp hp with rfl | hp
  · decide +kernel
  · obtain ⟨i, hi, rfl⟩ := List.mem_map.mp hp
    exact num_free (wireN_pos h i hi) (.inl (by decide))
theorem joinL_free {s : Nat} {S : List Nat} (hs : s ∉ S) : ∀ {l : List (List Nat)}, (∀ p ∈ l, s ∉ p) → s ∉ TL.joinL S l
  | [], _ => by simp [TL.joinL]
  | [p], h => by
    show s ∉ p
    exact h p (by simp)
  | p :: q :: r, h => by
    show s ∉ p ++ (S ++ TL.joinL S (q :: r))
    rw [List.mem_append, List.mem_append]
    rintro (z | z | z)
    · exact h p (by simp) z
    · exact hs z
    · exact joinL_free hs (fun a ha => h a (List.mem_cons_of_mem _ ha)) z
theorem join_free {s : Nat} {y : Str} (hs : s ∉ TL.tl y) {l : List Str} (h : ∀ p ∈ l, s ∉ TL.tl p) : s ∉ TL.tl (Txt.join y l) := by
  rw [TL.join_eq, TL.tl_join]
  refine joinL_free hs fun p hp => ?_
  obtain ⟨z, hz, rfl⟩ := List.mem_map.mp hp
  exact h z hz
theorem row_free {gs : List Gt} {ws : List Wr} (N : NetOk gs ws) : ∀ p ∈ rowsT gs ws, 10 ∉ TL.tl p := fun p hp => by
  rcases List.mem_append.mp hp with h | h
  · obtain ⟨g, hg, rfl⟩ := List.mem_map.mp h
    have G := N.gok g hg
    rw [gateT_join]
    refine join_free (by decide +kernel) fun q hq => ?_
    simp only [List.mem_cons, List.not_mem_nil, or_false] at hq
    rcases hq with rfl | rfl | rfl
    · decide +kernel
    · exact (kinds_free _ G.1).1.2
    · exact num_free G.2.1 (.inl (by decide))
  · obtain ⟨x, hx, rfl⟩ := List.mem_map.mp h
    have W := N.wok x hx
    rw [wireT_join]
    refine join_free (by decide +kernel) fun q hq => ?_
    rcases List.mem_cons.mp hq with rfl | hq
    · decide +kernel
    · obtain ⟨i, hi, rfl⟩ := List.mem_map.mp hq
      exact num_free (wireN_pos W.r i hi) (.inl (by decide))
theorem netT_split {gs : List Gt} {ws : List Wr} (N : NetOk gs ws) : Txt.split (netT gs ws) "\n" = rowsT gs ws := by
  refine TL.split_join tl_feed feed_all ?_ (row_free N)
  unfold rowsT
  intro h
  have := (List.append_eq_nil_iff.mp h).1
  exact N.ne (List.map_eq_nil_iff.mp this)
/-! lengths -/
theorem num_len {i : Int} (h0 : 0 ≤ i) (h : i < 1000) : (numT i).length ≤ 3 := by
  rw [nat_of h0]
  exact natT_len (by omega)
theorem gateT_len {g : Gt} (h : GOk g) : (gateT g).length ≤ 14 := by
  unfold gateT
  rw [Str.length_append, Str.length_append, Str.length_append]
  have h1 := (kinds_free _ h.1).2
  have h2 := num_len h.2.1 (by have := h.2.2.1; omega)
  have h3 : ("gate " : Str).length = 5 := by decide +kernel
  have h4 : (" " : Str).length = 1 := by decide +kernel
  omega
theorem sum_le {l : List Str} {b : Nat} (h : ∀ p ∈ l, p.length ≤ b) : (l.map (·.length)).sum ≤ l.length * b := by
  induction l with
  | nil => simp
  | cons a l ih =>
    rw [List.map_cons, List.sum_cons, List.length_cons, Nat.succ_mul]
    have h1 := h a (by simp)
    have h2 := ih fun p hp => h p (List.mem_cons_of_mem _ hp)
    omega
theorem wireN_bd {gs : List Gt} {ws : List Wr} (N : NetOk gs ws) {x : Wr} (hx : x ∈ ws) : ∀ i ∈ wireN x, 0 ≤ i ∧ i < 1000 := fun i hi => by
  have W := N.wok x hx
  have hg := N.gl
  have h1 := W.s
  have h2 := W.e
  refine ⟨wireN_pos W.r i hi, ?_⟩
  unfold wireN at hi
  rcases List.mem_cons.mp hi with e | hi
  · omega
  · rcases List.mem_cons.mp hi with e | hi
    · omega
    · have := (W.r i hi).2
      omega
theorem wireN_len (x : Wr) : (wireN x).length = x.2.2.length + 2 := rfl
theorem nums_sum {gs : List Gt} {ws : List Wr} (N : NetOk gs ws) {x : Wr} (hx : x ∈ ws) : (((wireN x).map numT).map (·.length)).sum ≤ 606 ∧ ((wireN x).map numT).length ≤ 202 := by
  have W := N.wok x hx
  have hl : ((wireN x).map numT).length ≤ 202 := by
    rw [List.length_map, wireN_len]
    have := W.rl
    omega
  refine ⟨?_, hl⟩
  have := sum_le (l := (wireN x).map numT) (b := 3) fun p hp => by
    obtain ⟨i, hi, rfl⟩ := List.mem_map.mp hp
    have := wireN_bd N hx i hi
    exact num_len this.1 this.2
  omega
theorem join_len (y : Str) (l : List Str) : (Txt.join y l).length ≤ (l.map (·.length)).sum + l.length * y.length := by
  rw [TL.join_eq]
  exact StrLaws.join_length_le y l
theorem blank_len : (" " : Str).length = 1 := by decide +kernel
theorem wireT_len {gs : List Gt} {ws : List Wr} (N : NetOk gs ws) {x : Wr} (hx : x ∈ ws) : (Txt.join " " ((wireN x).map numT)).length ≤ 808 ∧ (wireT x).length ≤ 813 := by
  have h1 := nums_sum N hx
  have h2 := join_len " " ((wireN x).map numT)
  rw [blank_len] at h2
  refine ⟨by omega, ?_⟩
  unfold wireT
  rw [Str.length_append]
  have h3 : ("wire " : Str).length = 5 := by decide +kernel
  omega
theorem rows_sum {gs : List Gt} {ws : List Wr} (N : NetOk gs ws) : ((rowsT gs ws).map (·.length)).sum ≤ 894300 ∧ (rowsT gs ws).length ≤ 1100 := by
  have hl : (rowsT gs ws).length ≤ 1100 := by
    unfold rowsT
    rw [List.length_append, List.length_map, List.length_map]
    have := N.gl
    have := N.wl
    omega
  refine ⟨?_, hl⟩
  have := sum_le (l := rowsT gs ws) (b := 813) fun p hp => by
    rcases List.mem_append.mp hp with h | h
    · obtain ⟨g, hg, rfl⟩ := List.mem_map.mp h
      have := gateT_len (N.gok g hg)
      omega
    · obtain ⟨x, hx, rfl⟩ := List.mem_map.mp h
      exact (wireT_len N hx).2
  omega
theorem netT_len {gs : List Gt} {ws : List Wr} (N : NetOk gs ws) : (netT gs ws).length ≤ 895400 := by
  have h1 := rows_sum N
  have h2 := join_len "\n" (rowsT gs ws)
  have h3 : ("\n" : Str).length = 1 := by decide +kernel
  rw [h3] at h2
  unfold netT
  omega
/-! a text tells its net -/
theorem numT_inj {i j : Int} (hi : 0 ≤ i) (hj : 0 ≤ j) (h : numT i = numT j) : i = j := by
  rw [nat_of hi, nat_of hj] at h
  have h1 : TL.numL i.toNat = TL.numL j.toNat := by rw [← natT_tl, ← natT_tl, h]
  have := TL.numL_inj h1
  omega
theorem nums_inj : ∀ {a b : List Int}, (∀ i ∈ a, 0 ≤ i) → (∀ i ∈ b, 0 ≤ i) → a.map numT = b.map numT → a = b
  | [], [], _, _, _ => rfl
  | [], _ :: _, _, _, h => by simp at h
  | _ :: _, [], _, _, h => by simp at h
  | i :: a, j :: b, ha, hb, h => by
    rw [List.map_cons, List.map_cons] at h
    injection h with h1 h2
    rw [numT_inj (ha i (by simp)) (hb j (by simp)) h1, nums_inj (fun i hi => ha i (List.mem_cons_of_mem _ hi)) (fun i hi => hb i (List.mem_cons_of_mem _ hi)) h2]
theorem gateT_inj {g g' : Gt} (h : GOk g) (h' : GOk g') (e : gateT g = gateT g') : g = g' := by
  have e1 := congrArg (fun z => Txt.split z " ") e
  simp only [gateT_split h, gateT_split h'] at e1
  injection e1 with _ e2
  injection e2 with e3 e4
  injection e4 with e5 _
  exact Prod.ext e3 (numT_inj h.2.1 h'.2.1 e5)
theorem wireT_inj {x x' : Wr} (h : ROk x.2.2) (h' : ROk x'.2.2) (e : wireT x = wireT x') : x = x' := by
  have e1 := congrArg (fun z => Txt.split z " ") e
  simp only [wireT_split h, wireT_split h'] at e1
  injection e1 with _ e2
  have e3 := nums_inj (wireN_pos h) (wireN_pos h') e2
  unfold wireN at e3
  injection e3 with a1 e4
  injection e4 with a2 a3
  exact Prod.ext (by omega) (Prod.ext (by omega) a3)
theorem gateT_ne_wireT {g : Gt} {x : Wr} (h : GOk g) (h' : ROk x.2.2) : gateT g ≠ wireT x := fun e => by
  have e1 := congrArg (fun z => Txt.split z " ") e
  simp only [gateT_split h, wireT_split h'] at e1
  injection e1 with e2 _
  exact absurd e2 (by decide +kernel)
theorem rowsT_inj : ∀ {gs gs' : List Gt} {ws ws' : List Wr}, (∀ g ∈ gs, GOk g) → (∀ g ∈ gs', GOk g) → (∀ x ∈ ws, ROk x.2.2) → (∀ x ∈ ws', ROk x.2.2) → rowsT gs ws = rowsT gs' ws' → gs = gs' ∧ ws = ws'
  | [], [], [], [], _, _, _, _, _ => ⟨rfl, rfl⟩
  | [], [], [], _ :: _, _, _, _, _, h => by simp [rowsT] at h
  | [], [], _ :: _, [], _, _, _, _, h => by simp [rowsT] at h
  | [], [], x :: ws, x' :: ws', h1, h2, h3, h4, h => by
    have h' : wireT x :: ws.map wireT = wireT x' :: ws'.map wireT := h
    injection h' with e1 e2
    have e3 := wireT_inj (h3 x (by simp)) (h4 x' (by simp)) e1
    have e4 := (rowsT_inj (gs := []) (gs' := []) h1 h2 (fun y hy => h3 y (List.mem_cons_of_mem _ hy)) (fun y hy => h4 y (List.mem_cons_of_mem _ hy)) e2).2
    rw [e3, e4]
    exact ⟨rfl, rfl⟩
  | g :: gs, g' :: gs', ws, ws', h1, h2, h3, h4, h => by
    have h' : gateT g :: rowsT gs ws = gateT g' :: rowsT gs' ws' := h
    injection h' with e1 e2
    have e3 := gateT_inj (h1 g (by simp)) (h2 g' (by simp)) e1
    have e4 := rowsT_inj (fun y hy => h1 y (List.mem_cons_of_mem _ hy)) (fun y hy => h2 y (List.mem_cons_of_mem _ hy)) h3 h4 e2
    rw [e3, e4.1, e4.2]
    exact ⟨rfl, rfl⟩
  | g :: gs, [], ws, ws', h1, h2, h3, h4, h => by
    have h' : gateT g :: rowsT gs ws = ws'.map wireT := h
    cases ws' with
    | nil => simp at h'
    | cons x' ws' =>
      rw [List.map_cons] at h'
      injection h' with e1 _
      exact absurd e1 (gateT_ne_wireT (h1 g (by simp)) (h4 x' (by simp)))
  | [], g' :: gs', ws, ws', h1, h2, h3, h4, h => by
    have h' : ws.map wireT = gateT g' :: rowsT gs' ws' := h
    cases ws with
    | nil => simp at h'
    | cons x ws =>
      rw [List.map_cons] at h'
      injection h' with e1 _
      exact absurd e1.symm (gateT_ne_wireT (h2 g' (by simp)) (h3 x (by simp)))
theorem netT_inj {gs gs' : List Gt} {ws ws' : List Wr} (N : NetOk gs ws) (N' : NetOk gs' ws') (h : netT gs ws = netT gs' ws') : gs = gs' ∧ ws = ws' := by
  have e := congrArg (fun z => Txt.split z "\n") h
  simp only [netT_split N, netT_split N'] at e
  exact rowsT_inj N.gok N'.gok (fun x hx => (N.wok x hx).r) (fun x hx => (N'.wok x hx).r) e
end Lag

set_option maxRecDepth 100000
set_option maxHeartbeats 8000000
namespace Lag
open PySem PySem.Spec PyProof.Rows L2
abbrev sNumsT : Stmt := topS 50 -- @numbers_text
abbrev sNetT : Stmt := topS 49 -- @net_text
abbrev sChkText : Stmt := topS 52 -- @check_text
abbrev sReadNum : Stmt := topS 55 -- @read_number
abbrev sReadGate : Stmt := topS 53 -- @read_gate
abbrev sReadWire : Stmt := topS 54 -- @read_wire
abbrev sReadNet : Stmt := topS 51 -- @read_net
/-- str of a number, within a comprehension -/
abbrev tStrI (i : Nat) : TE := tCB (fun xs H Q => ∃ i, xs = [.int i] ∧ i.natAbs.log2 < 1920 ∧ Q (.str (toString i)) H) (tCons (tVar i) tNil)
abbrev strV (l : List Str) : List V := l.map V.str
theorem str_take {l : List Str} {i : Nat} {x : Str} (h : l[i]? = some x) : strV (l.take (i + 1)) = strV (l.take i) ++ [.str x] := by
  show List.map _ _ = List.map _ _ ++ _
  rw [List.take_add_one, h, List.map_append]
  rfl
theorem log_small {i : Int} (h0 : 0 ≤ i) (h : i < 1000) : i.natAbs.log2 < 1920 := by
  have h1 : i.natAbs < 1000 := by omega
  have h2 : i.natAbs.log2 < 10 := by
    by_cases z : i.natAbs = 0
    · rw [z]
      decide
    · exact (Nat.log2_lt z).mpr (by omega)
  omega
def spNumsT (K : PySem.W.Frag) : Sp := fun vs H Q _ => ∃ (l : Addr) (ns : List Int), vs = [.ref l] ∧ SqL K H l (ns.map V.int) ∧ (∀ i ∈ ns, i.natAbs.log2 < 1920) ∧ ns.length ≤ 1000 ∧ ((ns.map numT).map (·.length)).sum + ns.length ≤ 16777216 ∧ ∀ H', Same H H' → Q (.str (Txt.join " " (ns.map numT))) H'
def spNetT (K : PySem.W.Frag) (C : Addr) : Sp := fun vs H Q _ => ∃ (p ng nw : Addr) (gs : List Gt) (ws : List Wr), vs = [.ref p] ∧ NetAt K C H p ng nw gs ws ∧ NetOk gs ws ∧ ∀ H', Same H H' → Q (.str (netT gs ws)) H'
def spChkText : Sp := fun vs H Q _ => ∃ t : Str, vs = [.str t] ∧ Q .non H
def spReadNum : Sp := fun vs H Q _ => ∃ n : Nat, vs = [.str (natT n)] ∧ n < 1000 ∧ Q (.int (n : Nat)) H
def spReadGate (K : PySem.W.Frag) : Sp := fun vs H Q _ => ∃ (l : Addr) (g : Gt), vs = [.ref l] ∧ SqL K H l [.str g.1, .str (numT g.2)] ∧ GOk g ∧ ∀ a H', Same H H' → GateV K H' (.ref a) g → Q (.ref a) H'
def spReadWire (K : PySem.W.Frag) : Sp := fun vs H Q _ => ∃ (l : Addr) (x : Wr), vs = [.ref l] ∧ SqL K H l (strV ((wireN x).map numT)) ∧ (∀ i ∈ wireN x, 0 ≤ i ∧ i < 1000) ∧ x.2.2.length ≤ 900 ∧ ∀ a H', Same H H' → WireV K H' (.ref a) x → Q (.ref a) H'
def spReadNet (K : PySem.W.Frag) (C : Addr) : Sp := fun vs H Q _ => ∃ (gs : List Gt) (ws : List Wr), vs = [.str (netT gs ws)] ∧ NetOk gs ws ∧ ∀ p ng nw H', Same H H' → NetAt K C H' p ng nw gs ws → H p = none → H ng = none → H nw = none → Q (.ref p) H'
section
variable {P : Program} {w : World} {K : PySem.W.Frag} {mg : Str → Option Value} {base : Heap}
abbrev nNumsT : List Str := ["numbers", "number"]
theorem scNumsT : FnScope nNumsT ["numbers"] (defScope sNumsT) := ⟨rfl, rfl, rfl, by decide +kernel, rfl, by decide +kernel, by decide +kernel⟩
abbrev DNumsT (P : Program) (w : World) (K : PySem.W.Frag) (mg : Str → Option Value) (base : Heap) := Df P w K mg base 1 "numbers_text" ["numbers"] (spNumsT K)
theorem ok_numsT {f : Addr} {fd : FuncData} (F : Fun K "numbers_text" "numbers_text" sNumsT f fd) (hm : mg "numbers_text" = some (.ref f)) (B : Bt mg) : DNumsT P w K mg base f fd := by
  refine ⟨?_, hm, F.kp, F.binds fun _ _ _ _ _ _ us hl => match us, hl with | [_], _ => rfl⟩
  refine F.ok scNumsT (fun vs H Q E h => ?_) (fun cdv A outer s H vs Q E hr h => ?_)
  · obtain ⟨l, ns, rfl, _⟩ := h
    rfl
  · obtain ⟨l, ns, rfl, sq, hlog, hlen, hsum, q⟩ := h
    have nd := scNumsT.nd
    refine ⟨_, pss_one <| ps_ret <| pe_join pe_str (pe_lc (own := [("number", 1)]) (g := gName 1) (tt := tYes) (te := tStrI 1) rfl nd (pi_list (pv 0)) (blkOk_by (N := nNumsT) (sc := defScope sNumsT) (own := [("number", 1)]) (by decide +kernel)) (fun _ _ _ _ _ => pg_name (i := 1) nd rfl (.inl rfl)) (fun _ _ _ _ _ => pts_nil) (fun _ _ _ _ _ => pe_callTy call_str_int (by rfl) B.str (by decide +kernel) (pa_cons (pv 1) pa_nil))), ?_⟩
    refine ⟨⟨_, rfl⟩, _, rfl, l, rfl, ⟨_, sq⟩, fun D hD => ?_⟩
    refine lc_list (K := K) (a := l) (xs := ns.map V.int) (fun i Hc => Hc D = some (.lst (strV ((ns.map numT).take i))) ∧ Same H Hc) ⟨upd_same, same_new hD⟩ (fun i Hc _ ⟨_, sm⟩ => sm.seq sq) ?_ ?_
    · rintro i v Hc hv ⟨hc, sm⟩
      obtain ⟨z, hz, rfl⟩ := int_at hv
      have hi : i < ns.length := (List.getElem?_eq_some_iff.mp hz).1
      refine ⟨rfl, tyes ?_⟩
      refine ⟨_, rfl, z, rfl, hlog z (List.mem_of_getElem? hz), _, hc, ?_, ?_, same_mut sm hD⟩
      · rw [List.length_map, List.length_take]
        exact small1000 (by omega)
      · rw [upd_same, str_take (x := numT z) (by rw [List.getElem?_map, hz]; rfl)]
    · rintro H2 ⟨hc, sm⟩
      rw [List.length_map, ← List.length_map (f := numT), List.take_length] at hc
      refine ⟨" ", D, ns.map numT, rfl, rfl, .inl (SqL.of hc), ?_, q H2 sm⟩
      rw [blank_len, List.length_map, Nat.mul_one]
      exact hsum
abbrev nNetT : List Str := ["net", "kind", "wait", "rows", "start", "end", "held"]
theorem scNetT : FnScope nNetT ["net"] (defScope sNetT) := ⟨rfl, rfl, rfl, by decide +kernel, rfl, by decide +kernel, by decide +kernel⟩
abbrev DNetT (P : Program) (w : World) (K : PySem.W.Frag) (mg : Str → Option Value) (base : Heap) (C : Addr) := Df P w K mg base 2 "net_text" ["net"] (spNetT K C)
abbrev tGateT : TE := fun σ H Q => tJs [tC (.str "gate "), tFmt (tVar 1), tC (.str " "), tFmt (tVar 2)] Str.empty σ H fun out H1 => Q (.str out) H1
theorem gateT_js (g : Gt) : Str.empty ++ "gate " ++ g.1 ++ " " ++ numT g.2 = gateT g := by
  unfold gateT
  congr 3
theorem rowsT_at1 {gs : List Gt} {ws : List Wr} {i : Nat} {g : Gt} (h : gs[i]? = some g) : (rowsT gs ws)[i]? = some (gateT g) := by
  unfold rowsT
  rw [List.getElem?_append_left (by rw [List.length_map]; exact (List.getElem?_eq_some_iff.mp h).1), List.getElem?_map, h]
  rfl
theorem rowsT_at2 {gs : List Gt} {ws : List Wr} {i : Nat} {x : Wr} (h : ws[i]? = some x) : (rowsT gs ws)[gs.length + i]? = some (wireT x) := by
  unfold rowsT
  rw [List.getElem?_append_right (by rw [List.length_map]; omega), List.length_map, Nat.add_sub_cancel_left, List.getElem?_map, h]
  rfl
theorem rowsT_length (gs : List Gt) (ws : List Wr) : (rowsT gs ws).length = gs.length + ws.length := by
  unfold rowsT
  rw [List.length_append, List.length_map, List.length_map]
theorem size24 {n : Nat} (h : n ≤ 16777216) : n ≤ sizeLine := h
theorem ok_netT {f fN C : Addr} {fd fdN : FuncData} (F : Fun K "net_text" "net_text" sNetT f fd) (hm : mg "net_text" = some (.ref f)) (B : Bt mg) (T : NT K mg C) (DN : DNumsT P w K mg base fN fdN) : DNetT P w K mg base C f fd := by
  refine ⟨?_, hm, F.kp, F.binds fun _ _ _ _ _ _ us hl => match us, hl with | [_], _ => rfl⟩
  refine F.ok scNetT (fun vs H Q E h => ?_) (fun cdv A outer s H vs Q E hr h => ?_)
  · obtain ⟨p, ng, nw, gs, ws, rfl, _⟩ := h
    rfl
  · obtain ⟨p, ng, nw, gs, ws, rfl, NA, N, q⟩ := h
    have nd := scNetT.nd
    refine ⟨_, pss_cons (ps_setLc (i := 3) (own := [("kind", 1), ("wait", 2)]) (g := gTup K 2 (gCons (gName 1) (gCons (gName 2) gNil))) (tt := tYes) (te := tGateT) rfl nd rfl rfl (sw_true rfl rfl rfl (by decide +kernel)) (pi_list (pe_fld (pv 0) rfl)) (blkOk_by (N := nNetT) (sc := defScope sNetT) (own := [("kind", 1), ("wait", 2)]) (by decide +kernel)) (fun _ _ _ _ _ => pg_tup rfl (pgs_cons (pg_name (i := 1) nd rfl (.inl rfl)) (pgs_cons (pg_name (i := 2) nd rfl (.inl rfl)) pgs_nil))) (fun _ _ _ _ _ => pts_nil)
          (fun _ _ _ _ _ => pe_joined (.cons pe_str (.cons (pe_fmt (pv 1)) (.cons pe_str (.cons (pe_fmt (pv 2)) .nil)))))) <|
      pss_cons (ps_for PassesOwn.never rfl (pi_list (pe_fld (pv 0) rfl)) (pg_tup rfl (pgs_cons (pg_name (i := 4) nd rfl (.inl rfl)) (pgs_cons (pg_name (i := 5) nd rfl (.inl rfl)) (pgs_cons (pg_name (i := 6) nd rfl (.inl rfl)) pgs_nil)))) <|
        pss_one <| ps_expr (pe_bm PySem.F.plainAttrs_list PySem.F.slot_list_append PySem.F.type_list_append mt_append (pv 3) (pa_cons (pe_op op_add_str pe_str (pe_call DN.ok hr (by rfl) DN.mg DN.kp DN.bd .nil pass0 (pa_cons (pe_op op_cat (pe_lst (pa_cons (pv 4) (pa_cons (pv 5) pa_nil))) (pe_callTy call_list_of (by rfl) B.list (by decide +kernel) (pa_cons (pv 6) pa_nil))) pa_nil))) pa_nil))) <|
      pss_one <| ps_ret <| pe_join pe_str (pv 3), ?_⟩
    have hgl := N.gl
    have hwl := N.wl
    obtain ⟨dx, ob⟩ := id NA.ob
    obtain ⟨gv, hgv, ga⟩ := id NA.g
    obtain ⟨wv, hwv, wa⟩ := id NA.w
    have hlg : gv.length = gs.length := ga.1
    have hlw : wv.length = ws.length := wa.1
    refine ⟨_, rfl, p, C, dx, _, _, rfl, ob, T.cl, T.nG, nf_gates _ _, ng, rfl, ⟨_, SqL.of hgv⟩, fun D hD => ?_⟩
    refine lc_list (K := K) (a := ng) (xs := gv) (fun i Hc => Hc D = some (.lst (strV ((rowsT gs ws).take i))) ∧ Same H Hc) ⟨upd_same, same_new hD⟩ (fun i Hc _ ⟨_, sm⟩ => SqL.of (sm _ _ hgv)) ?_ ?_
    · rintro i v Hc hv ⟨hc, sm⟩
      obtain ⟨g, hg, a, rfl, sq⟩ := ga.get hv
      have hi : i < gs.length := (List.getElem?_eq_some_iff.mp hg).1
      have G := N.gok g (List.mem_of_getElem? hg)
      have h1 := (kinds_free _ G.1).2
      have h2 := num_len G.2.1 (by have := G.2.2.1; omega)
      have h3 : (Str.empty ++ "gate " : Str).length = 5 := by decide +kernel
      have h4 : (" " : Str).length = 1 := by decide +kernel
      refine ⟨a, _, rfl, (TK.same sm).seq sq, rfl, _, _, rfl, _, _, rfl, rfl, rfl, tyes ?_⟩
      refine ⟨_, rfl, size24 (by omega), _, rfl, .inl ⟨_, rfl, size24 (by omega), _, rfl, size24 (by rw [Str.length_append]; omega), _, rfl, size24 (by rw [Str.length_append, Str.length_append]; omega), _, rfl, .inr ⟨_, rfl, log_small G.2.1 (by have := G.2.2.1; omega), _, rfl, size24 (by rw [Str.length_append, Str.length_append, Str.length_append]; show _ + (numT g.2).length ≤ _; omega), _, hc, ?_, ?_, same_mut sm hD⟩⟩⟩
      · rw [List.length_map, List.length_take]
        exact small1000 (by omega)
      · rw [upd_same, str_take (rowsT_at1 hg), ← gateT_js]
    rintro H1 ⟨hD1, sm1⟩
    rw [hlg] at hD1
    have hwv1 := sm1 _ _ hwv
    refine gn_norm (σ' := [some (.ref p), none, none, some (.ref D), none, none, none]) rfl ?_
    refine ⟨_, rfl, p, C, dx, _, _, rfl, sm1 _ _ ob, T.cl, T.nW, nf_wires _ _, nw, rfl, ⟨_, SqL.of hwv1⟩, ?_⟩
    refine for_list (K := K) (a := nw) (xs := wv) (fun i σ H2 => ∃ (s4 s5 s6 : Option V), σ = [some (.ref p), none, none, some (.ref D), s4, s5, s6] ∧ H2 D = some (.lst (strV ((rowsT gs ws).take (gs.length + i)))) ∧ Same H H2) ⟨_, _, _, rfl, hD1, sm1⟩ (fun i σ H2 _ ⟨_, _, _, _, _, sm⟩ => SqL.of (sm _ _ hwv)) ?_ ?_
    · rintro i v σ H2 hv ⟨s4, s5, s6, rfl, hc, sm⟩
      obtain ⟨x, hx, a, b, rfl, sq1, sq2⟩ := wa.get hv
      have hi : i < ws.length := (List.getElem?_eq_some_iff.mp hx).1
      have hxm := List.mem_of_getElem? hx
      have tk := TK.same sm
      refine ⟨a, _, rfl, tk.seq sq1, rfl, _, _, rfl, _, _, rfl, _, _, rfl, rfl, ?_⟩
      refine ⟨_, rfl, .inl ⟨rfl, _, SqL.of hc⟩, _, rfl, _, rfl, (by show 2 ≤ sizeLine; decide), fun l3 hl3 => ?_⟩
      have s3 : Same H2 (upd H2 l3 (.lst [.int x.1, .int x.2.1])) := same_new hl3
      have e3 : (upd H2 l3 (.lst [.int x.1, .int x.2.1])) l3 = some (.lst [.int x.1, .int x.2.1]) := upd_same
      generalize upd H2 l3 (.lst [.int x.1, .int x.2.1]) = H3 at s3 e3
      refine ⟨_, rfl, b, _, rfl, .inr ((TK.same s3).seq (tk.seq sq2)), fun l4 hl4 => ?_⟩
      have s4' : Same H3 (upd H3 l4 (.lst (x.2.2.map V.int))) := same_new hl4
      have e4 : (upd H3 l4 (.lst (x.2.2.map V.int))) l4 = some (.lst (x.2.2.map V.int)) := upd_same
      generalize upd H3 l4 (.lst (x.2.2.map V.int)) = H4 at s4' e4
      refine ⟨l3, l4, _, _, rfl, rfl, s4' _ _ e3, e4, ?_, fun l5 hl5 => ?_⟩
      · rw [List.length_map]
        have := (N.wok x hxm).rl
        exact Nat.le_of_lt (small1000 (by show 2 + _ ≤ 1000; omega))
      have s5' : Same H4 (upd H4 l5 (.lst ([.int x.1, .int x.2.1] ++ x.2.2.map V.int))) := same_new hl5
      have e5 : (upd H4 l5 (.lst ([.int x.1, .int x.2.1] ++ x.2.2.map V.int))) l5 = some (.lst ((wireN x).map V.int)) := upd_same
      generalize upd H4 l5 (.lst ([.int x.1, .int x.2.1] ++ x.2.2.map V.int)) = H5 at s5' e5
      have hns := nums_sum N hxm
      refine ⟨l5, wireN x, rfl, SqL.of e5, fun i hi => log_small (wireN_bd N hxm i hi).1 (wireN_bd N hxm i hi).2, ?_, ?_, fun H6 s6' => ?_⟩
      · have := hns.2
        rw [List.length_map] at this
        omega
      · have := hns.2
        rw [List.length_map] at this
        omega
      have hwt := wireT_len N hxm
      refine ⟨_, _, rfl, rfl, size24 (by have h5 : ("wire " : Str).length = 5 := by decide +kernel
                                         omega), ?_⟩
      have s26 := ((s3.trans s4').trans s5').trans s6'
      refine ⟨D, _, _, rfl, rfl, s26 _ _ hc, ?_, _, _, _, rfl, ?_, same_mut (sm.trans s26) hD⟩
      · rw [List.length_map, List.length_take, rowsT_length]
        exact Nat.lt_of_le_of_lt (Nat.min_le_right _ _) (by show _ < 2 ^ 24; omega)
      · rw [upd_same, ← Nat.add_assoc, str_take (rowsT_at2 hx)]
        rfl
    · rintro σ H2 ⟨s4, s5, s6, rfl, hc, sm⟩
      rw [hlw, ← rowsT_length, List.take_length] at hc
      have hrs := rows_sum N
      refine ⟨⟨_, rfl⟩, _, rfl, "\n", D, rowsT gs ws, rfl, rfl, .inl (SqL.of hc), ?_, q H2 sm⟩
      have h1 : ("\n" : Str).length = 1 := by decide +kernel
      rw [h1]
      omega
theorem scChkText : FnScope ["text"] ["text"] (defScope sChkText) := ⟨rfl, rfl, rfl, by decide +kernel, rfl, by decide +kernel, by decide +kernel⟩
abbrev DChkText (P : Program) (w : World) (K : PySem.W.Frag) (mg : Str → Option Value) (base : Heap) := Df P w K mg base 1 "check_text" ["text"] spChkText
theorem ok_chkText {f : Addr} {fd : FuncData} (F : Fun K "check_text" "check_text" sChkText f fd) (hm : mg "check_text" = some (.ref f)) (B : Bt mg) : DChkText P w K mg base f fd := by
  refine ⟨?_, hm, F.kp, F.binds fun _ _ _ _ _ _ us hl => match us, hl with | [_], _ => rfl⟩
  refine F.ok scChkText (fun vs H Q E h => ?_) (fun cdv A outer s H vs Q E hr h => ?_)
  · obtain ⟨t, rfl, _⟩ := h
    rfl
  · obtain ⟨t, rfl, q⟩ := h
    refine ⟨_, pss_one (ps_if (pt_not (pt_val (pe_callB call_isi (by rfl) B.isi (by decide +kernel) (pa_cons (pv 0) (pa_cons (pe_bltn (v := .ty "str") (by rfl) B.str (by decide +kernel) rfl) pa_nil))))) (pss_one ps_never) pss_nil), ?_⟩
    exact ⟨_, rfl, _, _, _, _, true, rfl, .ty "str", .base (.str t), kit_ty (by decide +kernel), true, rfl, iteF q⟩
theorem scReadNum : FnScope ["word", "figures"] ["word"] (defScope sReadNum) := ⟨rfl, rfl, rfl, by decide +kernel, rfl, by decide +kernel, by decide +kernel⟩
abbrev DReadNum (P : Program) (w : World) (K : PySem.W.Frag) (mg : Str → Option Value) (base : Heap) := Df P w K mg base 1 "read_number" ["word"] spReadNum
theorem ok_readNum {f : Addr} {fd : FuncData} (F : Fun K "read_number" "read_number" sReadNum f fd) (hm : mg "read_number" = some (.ref f)) (B : Bt mg) (hf : ∃ t, mg "MOST_FIGURES" = some (.int 60 t)) : DReadNum P w K mg base f fd := by
  obtain ⟨tf, hf⟩ := hf
  refine ⟨?_, hm, F.kp, F.binds fun _ _ _ _ _ _ us hl => match us, hl with | [_], _ => rfl⟩
  refine F.ok scReadNum (fun vs H Q E h => ?_) (fun cdv A outer s H vs Q E hr h => ?_)
  · obtain ⟨n, rfl, _⟩ := h
    rfl
  · obtain ⟨n, rfl, hn, q⟩ := h
    have nd := scReadNum.nd
    refine ⟨_, pss_cons (ps_set (i := 1) nd rfl (.inl rfl) (pe_ifExp (pt_val (pe_m1 PySem.F.slot_str_startswith PySem.F.type_str_startswith mt_startswith (pv 0) pe_str)) (pe_slice sl_str (pv 0) (po_some pe_int) po_none) (pv 0))) <|
      pss_cons (ps_if (PW.pt (pw_or (pt_not (pt_val (pe_m0 PySem.F.slot_str_isascii PySem.F.type_str_isascii mt_isascii (pv 1)))) (pw_or (pt_not (pt_val (pe_m0 PySem.F.slot_str_isdigit PySem.F.type_str_isdigit mt_isdigit (pv 1)))) (pw_or1 (pt_cmpR op_gt (pe_callB call_len_str (by rfl) B.len PySem.boot_len (pa_cons (pv 1) pa_nil)) (pe_glob (v := .int 60) (by rfl) hf ⟨_, rfl⟩) (nomark _)))))) (pss_one ps_never) pss_nil) <|
      pss_one <| ps_ret (pe_callTy call_int_str (by rfl) B.int (by decide +kernel) (pa_cons (pv 0) pa_nil)), ?_⟩
    have hl := natT_len hn
    refine ⟨_, rfl, ⟨_, rfl⟩, _, _, rfl, rfl, false, ?_, iteF ?_⟩
    · rw [natT_starts]
    refine ⟨_, rfl, ?_⟩
    refine ⟨_, rfl, ⟨_, rfl⟩, _, rfl, rfl, trivial, true, ?_, iteF ?_⟩
    · rw [natT_isascii]
    refine ⟨_, rfl, ⟨_, rfl⟩, _, rfl, rfl, trivial, true, ?_, iteF ?_⟩
    · rw [natT_isdigit]
    refine ⟨_, rfl, _, rfl, size24 (by omega), _, _, rfl, rfl, false, ?_, iteF ?_⟩
    · exact congrArg V.bl (decide_eq_false (by omega))
    exact ⟨_, rfl, _, _, rfl, natT_int hn, by omega, q⟩
end
end Lag

set_option maxRecDepth 100000
set_option maxHeartbeats 8000000
namespace Lag
open PySem PySem.Spec PyProof.Rows L2
section
variable {P : Program} {w : World} {K : PySem.W.Frag} {mg : Str → Option Value} {base : Heap}
theorem scReadGate : FnScope ["words"] ["words"] (defScope sReadGate) := ⟨rfl, rfl, rfl, by decide +kernel, rfl, by decide +kernel, by decide +kernel⟩
abbrev DReadGate (P : Program) (w : World) (K : PySem.W.Frag) (mg : Str → Option Value) (base : Heap) := Df P w K mg base 2 "read_gate" ["words"] (spReadGate K)
theorem ok_readGate {f fN : Addr} {fd fdN : FuncData} (F : Fun K "read_gate" "read_gate" sReadGate f fd) (hm : mg "read_gate" = some (.ref f)) (B : Bt mg) (DN : DReadNum P w K mg base fN fdN) : DReadGate P w K mg base f fd := by
  refine ⟨?_, hm, F.kp, F.binds fun _ _ _ _ _ _ us hl => match us, hl with | [_], _ => rfl⟩
  refine F.ok scReadGate (fun vs H Q E h => ?_) (fun cdv A outer s H vs Q E hr h => ?_)
  · obtain ⟨l, g, rfl, _⟩ := h
    rfl
  · obtain ⟨l, g, rfl, sq, G, q⟩ := h
    refine ⟨_, pss_cons (ps_if (pt_cmpR op_ne (pe_callB call_len_seq (by rfl) B.len PySem.boot_len (pa_cons (pv 0) pa_nil)) pe_int (nomark _)) (pss_one ps_never) pss_nil) <|
      pss_one <| ps_ret (pe_tup (pa_cons (pe_ix ix_list (pv 0) pe_int (fun _ _ => rfl)) (pa_cons (pe_call DN.ok hr (by rfl) DN.mg DN.kp DN.bd .nil pass0 (pa_cons (pe_ix ix_list (pv 0) pe_int (fun _ _ => rfl)) pa_nil)) pa_nil))), ?_⟩
    refine ⟨_, rfl, l, _, rfl, .inl sq, rfl, false, rfl, iteF ?_⟩
    have hb := G.2.2.1
    refine ⟨_, rfl, l, _, _, _, rfl, rfl, sq, atI_nat (j := 0) rfl, _, rfl, l, _, _, _, rfl, rfl, sq, atI_nat (j := 1) rfl, g.2.toNat, ?_, by omega, ?_⟩
    · rw [nat_of G.2.1]
      rfl
    rw [Int.toNat_of_nonneg G.2.1]
    exact ⟨(by show 2 ≤ sizeLine; decide), fun a ha => q a _ (same_new ha) ⟨a, rfl, .inl (.inl upd_same)⟩⟩
abbrev nReadWire : List Str := ["words", "word", "numbers"]
theorem scReadWire : FnScope nReadWire ["words"] (defScope sReadWire) := ⟨rfl, rfl, rfl, by decide +kernel, rfl, by decide +kernel, by decide +kernel⟩
abbrev DReadWire (P : Program) (w : World) (K : PySem.W.Frag) (mg : Str → Option Value) (base : Heap) := Df P w K mg base 2 "read_wire" ["words"] (spReadWire K)
theorem int_take {l : List Int} {i : Nat} {x : Int} (h : l[i]? = some x) : (l.take (i + 1)).map V.int = (l.take i).map V.int ++ [.int x] := by
  rw [List.take_add_one, h, List.map_append]
  rfl
theorem ok_readWire {f fN : Addr} {fd fdN : FuncData} (F : Fun K "read_wire" "read_wire" sReadWire f fd) (hm : mg "read_wire" = some (.ref f)) (B : Bt mg) (DN : DReadNum P w K mg base fN fdN) : DReadWire P w K mg base f fd := by
  refine ⟨?_, hm, F.kp, F.binds fun _ _ _ _ _ _ us hl => match us, hl with | [_], _ => rfl⟩
  refine F.ok scReadWire (fun vs H Q E h => ?_) (fun cdv A outer s H vs Q E hr h => ?_)
  · obtain ⟨l, x, rfl, _⟩ := h
    rfl
  · obtain ⟨l, x, rfl, sq, hbd, hrl, q⟩ := h
    have nd := scReadWire.nd
    refine ⟨_, pss_cons (ps_if (pt_cmpR op_lt (pe_callB call_len_seq (by rfl) B.len PySem.boot_len (pa_cons (pv 0) pa_nil)) pe_int (nomark _)) (pss_one ps_never) pss_nil) <|
      pss_cons (ps_setLc (i := 2) (own := [("word", 1)]) (g := gName 1) (tt := tYes) (te := tCall spReadNum [] E0 (tCons (tVar 1) tNil)) rfl nd rfl rfl (sw_true rfl rfl rfl (by decide +kernel)) (pi_list (pv 0)) (blkOk_by (N := nReadWire) (sc := defScope sReadWire) (own := [("word", 1)]) (by decide +kernel)) (fun _ _ _ _ _ => pg_name (i := 1) nd rfl (.inl rfl)) (fun _ _ _ _ _ => pts_nil) (fun _ _ _ _ _ => pe_call DN.ok hr (by rfl) DN.mg DN.kp DN.bd .nil pass0 (pa_cons (pv 1) pa_nil))) <|
      pss_one <| ps_ret (pe_tup (pa_cons (pe_ix ix_list (pv 2) pe_int (fun _ _ => rfl)) (pa_cons (pe_ix ix_list (pv 2) pe_int (fun _ _ => rfl)) (pa_cons (pe_callTy call_tuple_of (by rfl) B.tuple (by decide +kernel) (pa_cons (pe_slice sl_list (pv 2) (po_some pe_int) po_none) pa_nil)) pa_nil)))), ?_⟩
    have hwn : (wireN x).length = x.2.2.length + 2 := rfl
    refine ⟨_, rfl, l, _, rfl, .inl sq, _, _, rfl, rfl, false, ?_, iteF ?_⟩
    · refine congrArg V.bl (decide_eq_false ?_)
      rw [List.length_map, List.length_map, hwn]
      omega
    refine ⟨_, rfl, l, rfl, ⟨_, sq⟩, fun D hD => ?_⟩
    refine lc_list (K := K) (a := l) (xs := strV ((wireN x).map numT)) (fun i Hc => Hc D = some (.lst (((wireN x).take i).map V.int)) ∧ Same H Hc) ⟨upd_same, same_new hD⟩ (fun i Hc _ ⟨_, sm⟩ => sm.seq sq) ?_ ?_
    · rintro i v Hc hv ⟨hc, sm⟩
      obtain ⟨z, hz, rfl⟩ : ∃ z, (wireN x)[i]? = some z ∧ v = .str (numT z) := by
        rw [List.getElem?_map, List.getElem?_map] at hv
        cases e : (wireN x)[i]? with
        | none => rw [e] at hv; cases hv
        | some z => rw [e] at hv; cases hv; exact ⟨z, rfl, rfl⟩
      have hi : i < (wireN x).length := (List.getElem?_eq_some_iff.mp hz).1
      have hb := hbd z (List.mem_of_getElem? hz)
      refine ⟨rfl, tyes ?_⟩
      refine ⟨_, rfl, z.toNat, ?_, by omega, _, hc, ?_, ?_, same_mut sm hD⟩
      · rw [nat_of hb.1]
        rfl
      · rw [List.length_map, List.length_take]
        exact small1000 (by omega)
      · rw [upd_same, int_take hz, Int.toNat_of_nonneg hb.1]
    rintro H1 ⟨hc, sm⟩
    rw [List.length_map, List.length_map, List.take_length] at hc
    refine gn_norm (σ' := [some (.ref l), none, some (.ref D)]) rfl ?_
    refine ⟨_, rfl, D, _, _, _, rfl, rfl, SqL.of hc, atI_nat (j := 0) rfl, _, rfl, D, _, _, _, rfl, rfl, SqL.of hc, atI_nat (j := 1) rfl, _, rfl, _, rfl, D, _, rfl, SqL.of hc, fun l2 hl2 => ?_⟩
    have ec : cutV ((wireN x).map V.int) (some 2) none = x.2.2.map V.int := (cut_from (xs := (wireN x).map V.int) 2).trans rfl
    rw [ec]
    have s2 : Same H1 (upd H1 l2 (.lst (x.2.2.map V.int))) := same_new hl2
    have e2 : (upd H1 l2 (.lst (x.2.2.map V.int))) l2 = some (.lst (x.2.2.map V.int)) := upd_same
    generalize upd H1 l2 (.lst (x.2.2.map V.int)) = H2 at s2 e2
    refine ⟨l2, _, rfl, .inl ⟨SqL.of e2, fun l3 hl3 => ?_⟩⟩
    have s3 : Same H2 (upd H2 l3 (.tup (x.2.2.map V.int))) := same_new hl3
    have e3 : (upd H2 l3 (.tup (x.2.2.map V.int))) l3 = some (.tup (x.2.2.map V.int)) := upd_same
    generalize upd H2 l3 (.tup (x.2.2.map V.int)) = H3 at s3 e3
    refine ⟨(by show 3 ≤ sizeLine; decide), fun a ha => ?_⟩
    have s4 := same_new (o := .tup [.int x.1, .int x.2.1, .ref l3]) ha
    exact q a _ (((sm.trans s2).trans s3).trans s4) ⟨a, l3, rfl, .inl (.inl upd_same), .inl (.inl (s4 _ _ e3))⟩
abbrev nReadNet : List Str := ["text", "row", "rows", "words", "gates", "wires", "net"]
theorem scReadNet : FnScope nReadNet ["text"] (defScope sReadNet) := ⟨rfl, rfl, rfl, by decide +kernel, rfl, by decide +kernel, by decide +kernel⟩
abbrev DReadNet (P : Program) (w : World) (K : PySem.W.Frag) (mg : Str → Option Value) (base : Heap) (C : Addr) := Df P w K mg base 8 "read_net" ["text"] (spReadNet K C)
abbrev tSplitB (i : Nat) : TE := tM1 (fun x xs H Q => ∃ a b, x = .str a ∧ xs = [.str b] ∧ (b.length == 0) = false ∧ a.length + 2 ≤ sizeLine ∧ rNewStrs (Txt.split a b) H Q) (tVar i) (tC (.str " "))
/-- words of a row -/
def WordV (D : Addr) (H : Hp) (v : V) (t : Str) : Prop := ∃ a, v = .ref a ∧ a ≠ D ∧ H a = some (.lst (strV (Txt.split t " ")))
theorem WordV.same {D : Addr} {H H' : Hp} {v : V} {t : Str} (s : Same H H') (h : WordV D H v t) : WordV D H' v t := by
  obtain ⟨a, e, n, h⟩ := h
  exact ⟨a, e, n, s _ _ h⟩
theorem WordV.upd {D : Addr} {H : Hp} {o : HO} {v : V} {t : Str} (h : WordV D H v t) : WordV D (upd H D o) v t := by
  obtain ⟨a, e, n, h⟩ := h
  exact ⟨a, e, n, by rw [upd_ne n]; exact h⟩
theorem row_kind {gs : List Gt} {ws : List Wr} {i : Nat} {t : Str} (h : (rowsT gs ws)[i]? = some t) : (∃ g, gs[i]? = some g ∧ t = gateT g) ∨ (gs.length ≤ i ∧ ∃ x, ws[i - gs.length]? = some x ∧ t = wireT x) := by
  unfold rowsT at h
  by_cases hi : i < gs.length
  · rw [List.getElem?_append_left (by rw [List.length_map]; exact hi), List.getElem?_map] at h
    rw [List.getElem?_eq_getElem hi] at h ⊢
    exact .inl ⟨_, rfl, (Option.some.inj h).symm⟩
  · rw [List.getElem?_append_right (by rw [List.length_map]; omega), List.length_map, List.getElem?_map] at h
    refine .inr ⟨by omega, ?_⟩
    cases e : ws[i - gs.length]? with
    | none =>
      rw [e] at h
      cases h
    | some x =>
      rw [e] at h
      exact ⟨x, rfl, (Option.some.inj h).symm⟩
theorem cut1 {v : V} {l : List V} : cutV (v :: l) (some 1) none = l := (cut_from (xs := v :: l) 1).trans rfl
theorem ok_readNet {f fT fG fW fN fI C : Addr} {fd fdT fdG fdW fdN fdI : FuncData} (F : Fun K "read_net" "read_net" sReadNet f fd) (hm : mg "read_net" = some (.ref f)) (B : Bt mg) (T : NT K mg C) (DT : DChkText P w K mg base fT fdT) (DG : DReadGate P w K mg base fG fdG) (DW : DReadWire P w K mg base fW fdW) (DN : DNetT P w K mg base C fN fdN)
    (MK : Mk K C fI) (init : FnOk P w K mg base CX0 6 fI fdI ["self", "gates", "wires"] (spInit K C)) (bI : Binds K fdI ["self", "gates", "wires"] []) : DReadNet P w K mg base C f fd := by
  refine ⟨?_, hm, F.kp, F.binds fun _ _ _ _ _ _ us hl => match us, hl with | [_], _ => rfl⟩
  refine F.ok scReadNet (fun vs H Q E h => ?_) (fun cdv A outer s H vs Q E hr h => ?_)
  · obtain ⟨gs, ws, rfl, _⟩ := h
    rfl
  · obtain ⟨gs, ws, rfl, N, q⟩ := h
    have nd := scReadNet.nd
    have hr2 : Room 2 _ := hr.mono (by decide)
    have hr1 : Room 1 _ := hr.mono (by decide)
    refine ⟨_, pss_cons (ps_expr (pe_call DT.ok hr1 (by rfl) DT.mg DT.kp DT.bd .nil pass0 (pa_cons (pv 0) pa_nil))) <|
      pss_cons (ps_setLc (i := 2) (own := [("row", 1)]) (g := gName 1) (tt := tYes) (te := tSplitB 1) rfl nd rfl rfl (sw_true rfl rfl rfl (by decide +kernel)) (pi_list (pe_split (pv 0) pe_str)) (blkOk_by (N := nReadNet) (sc := defScope sReadNet) (own := [("row", 1)]) (by decide +kernel)) (fun _ _ _ _ _ => pg_name (i := 1) nd rfl (.inl rfl)) (fun _ _ _ _ _ => pts_nil) (fun _ _ _ _ _ => pe_split (pv 1) pe_str)) <|
      pss_cons (ps_setLc (i := 4) (own := [("words", 3)]) (g := gName 3) (tt := tTest (tOp rEq (tOp (rIxL K) (tVar 3) (tC (.int 0))) (tC (.str "gate")))) (te := tCall (spReadGate K) [] E0 (tCons (tSl (rSlL K) (tVar 3) (tPart (tC (.int 1))) tNoPart) tNil)) rfl nd rfl rfl (sw_true rfl rfl rfl (by decide +kernel)) (pi_list (pv 2)) (blkOk_by (N := nReadNet) (sc := defScope sReadNet) (own := [("words", 3)]) (by decide +kernel)) (fun _ _ _ _ _ => pg_name (i := 3) nd rfl (.inl rfl)) (fun _ _ _ _ _ => pts_one (pt_cmpR op_eq (pe_ix ix_list (pv 3) pe_int (fun _ _ => rfl)) pe_str (nomark _))) (fun _ _ _ _ _ => pe_call DG.ok hr2 (by rfl) DG.mg DG.kp DG.bd .nil pass0 (pa_cons (pe_slice sl_list (pv 3) (po_some pe_int) po_none) pa_nil))) <|
      pss_cons (ps_setLc (i := 5) (own := [("words", 3)]) (g := gName 3) (tt := tTest (tOp rEq (tOp (rIxL K) (tVar 3) (tC (.int 0))) (tC (.str "wire")))) (te := tCall (spReadWire K) [] E0 (tCons (tSl (rSlL K) (tVar 3) (tPart (tC (.int 1))) tNoPart) tNil)) rfl nd rfl rfl (sw_true rfl rfl rfl (by decide +kernel)) (pi_list (pv 2)) (blkOk_by (N := nReadNet) (sc := defScope sReadNet) (own := [("words", 3)]) (by decide +kernel)) (fun _ _ _ _ _ => pg_name (i := 3) nd rfl (.inl rfl)) (fun _ _ _ _ _ => pts_one (pt_cmpR op_eq (pe_ix ix_list (pv 3) pe_int (fun _ _ => rfl)) pe_str (nomark _))) (fun _ _ _ _ _ => pe_call DW.ok hr2 (by rfl) DW.mg DW.kp DW.bd .nil pass0 (pa_cons (pe_slice sl_list (pv 3) (po_some pe_int) po_none) pa_nil))) <|
      pss_cons (ps_try_thru0 (pss_one (ps_set (i := 6) nd rfl (.inl rfl) (pe_make MK init hr (by rfl) T.mg bI .nil pass0 (pa_cons (pv 4) (pa_cons (pv 5) pa_nil)))))) <|
      pss_cons (ps_if (pt_cmpR op_ne (pe_call DN.ok hr2 (by rfl) DN.mg DN.kp DN.bd .nil pass0 (pa_cons (pv 6) pa_nil)) (pv 0) (nomark _)) (pss_one ps_never) pss_nil) <|
      pss_one <| ps_ret (pv 6), ?_⟩
    have hgl := N.gl
    have hwl := N.wl
    have hrl := rowsT_length gs ws
    refine ⟨_, rfl, _, rfl, ?_⟩
    -- rows
    refine ⟨_, rfl, ⟨_, rfl⟩, _, _, rfl, rfl, (by decide +kernel), size24 (by have := netT_len N; omega), fun l0 hl0 => ?_⟩
    rw [netT_split N]
    have s0 : Same H (upd H l0 (.lst (strV (rowsT gs ws)))) := same_new hl0
    have e0 : (upd H l0 (.lst (strV (rowsT gs ws)))) l0 = some (.lst (strV (rowsT gs ws))) := upd_same
    generalize upd H l0 (.lst (strV (rowsT gs ws))) = H0 at s0 e0
    refine ⟨l0, rfl, ⟨_, SqL.of e0⟩, fun D hD => ?_⟩
    refine lc_list (K := K) (a := l0) (xs := strV (rowsT gs ws)) (fun i Hc => ∃ acc, Hc D = some (.lst acc) ∧ acc.length = i ∧ All2 (WordV D Hc) acc ((rowsT gs ws).take i) ∧ Same H0 Hc) ⟨[], upd_same, rfl, All2.nil, same_new hD⟩ (fun i Hc _ ⟨_, _, _, _, sm⟩ => SqL.of (sm _ _ e0)) ?_ ?_
    · rintro i v Hc hv ⟨acc, hc, hal, aa, sm⟩
      obtain ⟨t, ht, rfl⟩ : ∃ t, (rowsT gs ws)[i]? = some t ∧ v = .str t := by
        rw [List.getElem?_map] at hv
        cases e : (rowsT gs ws)[i]? with
        | none => rw [e] at hv; cases hv
        | some t => rw [e] at hv; cases hv; exact ⟨t, rfl, rfl⟩
      have hi : i < (rowsT gs ws).length := (List.getElem?_eq_some_iff.mp ht).1
      have htl : t.length ≤ 813 := by
        rcases row_kind ht with ⟨g, hg, rfl⟩ | ⟨_, x, hx, rfl⟩
        · have := gateT_len (N.gok g (List.mem_of_getElem? hg))
          omega
        · exact (wireT_len N (List.mem_of_getElem? hx)).2
      refine ⟨rfl, tyes ?_⟩
      refine ⟨_, rfl, ⟨_, rfl⟩, _, _, rfl, rfl, (by decide +kernel), size24 (by omega), fun l1 hl1 => ?_⟩
      have s1 : Same Hc (upd Hc l1 (.lst (strV (Txt.split t " ")))) := same_new hl1
      have n1 : l1 ≠ D := fun z => by rw [z, hc] at hl1; cases hl1
      have w1 : WordV D (upd Hc l1 (.lst (strV (Txt.split t " ")))) (.ref l1) t := ⟨l1, rfl, n1, upd_same⟩
      refine ⟨acc, s1 _ _ hc, by rw [hal]; exact Nat.lt_of_lt_of_le hi (by show _ ≤ 2 ^ 24; omega), acc ++ [.ref l1], upd_same, by rw [List.length_append, hal]; rfl, ?_, same_mut (sm.trans s1) hD⟩
      rw [List.take_add_one, ht]
      exact (aa.imp fun _ _ z => (z.same s1).upd).snoc w1.upd
    rintro H1 ⟨rv, hrv, hrvl, ra, sm1⟩
    rw [List.length_map, List.take_length] at ra
    rw [List.length_map] at hrvl
    have sH1 := s0.trans sm1
    refine gn_norm (σ' := [some (.str (netT gs ws)), none, some (.ref D), none, none, none, none]) rfl ?_
    -- gates
    refine ⟨_, rfl, D, rfl, ⟨_, SqL.of hrv⟩, fun G hG => ?_⟩
    refine lc_list (K := K) (a := D) (xs := rv) (fun i Hc => ∃ acc, Hc G = some (.lst acc) ∧ acc.length ≤ i ∧ All2 (GateV K Hc) acc (gs.take i) ∧ Same H1 Hc) ⟨[], upd_same, Nat.zero_le _, All2.nil, same_new hG⟩ (fun i Hc _ ⟨_, _, _, _, sm⟩ => SqL.of (sm _ _ hrv)) ?_ ?_
    · rintro i v Hc hv ⟨acc, hc, hal, aa, sm⟩
      obtain ⟨t, ht, a, rfl, _, ha⟩ := ra.get hv
      have hi : i < (rowsT gs ws).length := (List.getElem?_eq_some_iff.mp ht).1
      rcases row_kind ht with ⟨g, hg, rfl⟩ | ⟨hge, x, hx, rfl⟩
      · have Gk := N.gok g (List.mem_of_getElem? hg)
        rw [gateT_split Gk] at ha
        refine ⟨rfl, ?_⟩
        refine ⟨_, rfl, a, _, 0, _, rfl, rfl, SqL.of (sm _ _ ha), atI_nat (j := 0) rfl, rfl, _, rfl, ite2 (fun _ => ?_) (fun e => absurd (decide_eq_true rfl) e)⟩
        refine ⟨_, rfl, _, rfl, a, _, rfl, SqL.of (sm _ _ ha), fun l1 hl1 => ?_⟩
        have ec : cutV (strV ["gate", g.1, numT g.2]) (some 1) none = [.str g.1, .str (numT g.2)] := cut1
        rw [ec]
        have s1 : Same Hc (upd Hc l1 (.lst [.str g.1, .str (numT g.2)])) := same_new hl1
        have e1 : (upd Hc l1 (.lst [.str g.1, .str (numT g.2)])) l1 = some (.lst [.str g.1, .str (numT g.2)]) := upd_same
        generalize upd Hc l1 (.lst [.str g.1, .str (numT g.2)]) = Hd at s1 e1
        refine ⟨l1, g, rfl, SqL.of e1, Gk, fun b He s2 gv2 => ?_⟩
        have hcE := s2 _ _ (s1 _ _ hc)
        have t' := TK.lst (o := .lst (acc ++ [.ref b])) hcE
        refine ⟨acc, hcE, Nat.lt_of_le_of_lt hal (Nat.lt_of_lt_of_le hi (by show _ ≤ 2 ^ 24; omega)), acc ++ [.ref b], upd_same, by rw [List.length_append]; show _ + 1 ≤ _; omega, ?_, same_mut ((sm.trans s1).trans s2) hG⟩
        rw [List.take_add_one, hg]
        exact (aa.imp fun _ _ z => z.tk (((TK.same s1).trans (TK.same s2)).trans t')).snoc (gv2.tk t')
      · have W := N.wok x (List.mem_of_getElem? hx)
        rw [wireT_split W.r] at ha
        refine ⟨rfl, ?_⟩
        refine ⟨_, rfl, a, _, 0, _, rfl, rfl, SqL.of (sm _ _ ha), atI_nat (j := 0) rfl, rfl, _, rfl, ite2 (fun e => absurd (V.str.inj (of_decide_eq_true e)) (by decide +kernel)) (fun _ => ?_)⟩
        refine ⟨acc, hc, by omega, ?_, sm⟩
        rw [List.take_of_length_le (by omega), ← List.take_of_length_le hge]
        exact aa
    rintro H2 ⟨gv, hgv, _, ga, sm2⟩
    rw [hrvl, List.take_of_length_le (by omega)] at ga
    refine gn_norm (σ' := [some (.str (netT gs ws)), none, some (.ref D), none, some (.ref G), none, none]) rfl ?_
    -- wires
    have hrv2 := sm2 _ _ hrv
    refine ⟨_, rfl, D, rfl, ⟨_, SqL.of hrv2⟩, fun L hL => ?_⟩
    refine lc_list (K := K) (a := D) (xs := rv) (fun i Hc => ∃ acc, Hc L = some (.lst acc) ∧ acc.length ≤ i ∧ All2 (WireV K Hc) acc (ws.take (i - gs.length)) ∧ Same H2 Hc) ⟨[], upd_same, Nat.zero_le _, by rw [Nat.zero_sub]; exact All2.nil, same_new hL⟩ (fun i Hc _ ⟨_, _, _, _, sm⟩ => SqL.of (sm _ _ hrv2)) ?_ ?_
    · rintro i v Hc hv ⟨acc, hc, hal, aa, sm⟩
      obtain ⟨t, ht, a, rfl, _, ha⟩ := ra.get hv
      have hi : i < (rowsT gs ws).length := (List.getElem?_eq_some_iff.mp ht).1
      have smA := sm2.trans sm
      rcases row_kind ht with ⟨g, hg, rfl⟩ | ⟨hge, x, hx, rfl⟩
      · have Gk := N.gok g (List.mem_of_getElem? hg)
        have hgi : i < gs.length := (List.getElem?_eq_some_iff.mp hg).1
        rw [gateT_split Gk] at ha
        refine ⟨rfl, ?_⟩
        refine ⟨_, rfl, a, _, 0, _, rfl, rfl, SqL.of (smA _ _ ha), atI_nat (j := 0) rfl, rfl, _, rfl, ite2 (fun e => absurd (V.str.inj (of_decide_eq_true e)) (by decide +kernel)) (fun _ => ?_)⟩
        refine ⟨acc, hc, by omega, ?_, sm⟩
        rw [show i + 1 - gs.length = i - gs.length by omega]
        exact aa
      · have hxm := List.mem_of_getElem? hx
        have W := N.wok x hxm
        rw [wireT_split W.r] at ha
        refine ⟨rfl, ?_⟩
        refine ⟨_, rfl, a, _, 0, _, rfl, rfl, SqL.of (smA _ _ ha), atI_nat (j := 0) rfl, rfl, _, rfl, ite2 (fun _ => ?_) (fun e => absurd (decide_eq_true rfl) e)⟩
        refine ⟨_, rfl, _, rfl, a, _, rfl, SqL.of (smA _ _ ha), fun l1 hl1 => ?_⟩
        have ec : cutV (strV ("wire" :: (wireN x).map numT)) (some 1) none = strV ((wireN x).map numT) := cut1
        rw [ec]
        have s1 : Same Hc (upd Hc l1 (.lst (strV ((wireN x).map numT)))) := same_new hl1
        have e1 : (upd Hc l1 (.lst (strV ((wireN x).map numT)))) l1 = some (.lst (strV ((wireN x).map numT))) := upd_same
        generalize upd Hc l1 (.lst (strV ((wireN x).map numT))) = Hd at s1 e1
        refine ⟨l1, x, rfl, SqL.of e1, wireN_bd N hxm, by have := W.rl; omega, fun b He s2 wv2 => ?_⟩
        have hcE := s2 _ _ (s1 _ _ hc)
        have t' := TK.lst (o := .lst (acc ++ [.ref b])) hcE
        refine ⟨acc, hcE, Nat.lt_of_le_of_lt hal (Nat.lt_of_lt_of_le hi (by show _ ≤ 2 ^ 24; omega)), acc ++ [.ref b], upd_same, by rw [List.length_append]; show _ + 1 ≤ _; omega, ?_, same_mut ((sm.trans s1).trans s2) hL⟩
        rw [show i + 1 - gs.length = i - gs.length + 1 by omega, List.take_add_one, hx]
        exact (aa.imp fun _ _ z => z.tk (((TK.same s1).trans (TK.same s2)).trans t')).snoc (wv2.tk t')
    rintro H3 ⟨wv, hwv, _, wa, sm3⟩
    rw [hrvl, hrl, Nat.add_sub_cancel_left, List.take_length] at wa
    refine gn_norm (σ' := [some (.str (netT gs ws)), none, some (.ref D), none, some (.ref G), some (.ref L), none]) rfl ?_
    -- net
    have LGa : LG K H3 G gs := ⟨gv, sm3 _ _ hgv, ga.imp fun _ _ z => z.tk (TK.same sm3)⟩
    have LWa : LW K H3 L ws := ⟨wv, hwv, wa⟩
    have sH3 := (sH1.trans sm2).trans sm3
    refine ⟨_, rfl, _, rfl, ?_⟩
    refine net_in LGa.rg LWa.rw N fun p ng nw H4 NA4 s4 hp hng hnw => ?_
    refine gn_norm (σ' := [some (.str (netT gs ws)), none, some (.ref D), none, some (.ref G), some (.ref L), some (.ref p)]) rfl ?_
    refine ⟨_, rfl, p, ng, nw, gs, ws, rfl, NA4, N, fun H5 s5 => ?_⟩
    refine ⟨_, rfl, rfl, false, ?_, iteF ?_⟩
    · rw [decide_eq_true rfl]
      rfl
    refine ⟨_, rfl, q p ng nw H5 ((sH3.trans s4).trans s5) (NA4.same s5) (sH3.free hp) (sH3.free hng) (sH3.free hnw)⟩
end
end Lag

set_option maxRecDepth 100000
set_option maxHeartbeats 8000000
namespace LagE
open PySem PySem.SeqAt
open AutoSeq1 (wpAny_loadPart')
open MeetsSeq MeetsSeq2 MeetsSeq3 SeqRoads2
/-! ### != of lists and tuples whose items are equal by an own == -/
section
variable {prog : Program} {w : World} {A : Around} {R : Result → Shared → Prop}
theorem unlike_loop (a z : Addr) (m : Nat) (J : Nat → Shared → Prop) (each : GQ.ListI prog w A (fun e u => R (.error e) u) a z m J)
    (done : ∀ u, J m u → R (.ok (.ret (.bool false))) u) (left : Nat) : ∀ i : Nat, m - i = left → i ≤ m → ∀ u, J i u →
      wpAny (model prog w) A.in1 (Builtin.«list.__eq__.loop» ⟨[.ref a, .ref z, rawInt i, rawInt 3], []⟩) (GQ.FinOf prog w A R) (fun e v => R (.error e) v) u := by
  induction left with
  | zero =>
    intro i hk hi u h
    obtain ⟨xs, ys, n, n2, hx, hy, h1, h2, _⟩ := each _ _ h
    have hR : R (.ok (.ret (.bool false))) u := done u ((show i = m by omega) ▸ h)
    obtain ⟨c1, c2, c3, c4, c5⟩ := u
    wp_walk using wpAny_loadPart' hx, wpAny_loadPart' hy
    have g1 : xs[((i : Nat) : Int).toNat]? = none := by
      simp
      omega
    have g2 : ys[((i : Nat) : Int).toNat]? = none := by
      simp
      omega
    rw [g1, g2]
    wp_walk using wpAny_loadPart' hx, wpAny_loadPart' hy
    show R (.ok (.ret (.bool (xs.size != ys.size)))) _
    rw [h1, h2]
    simpa using hR
  | succ left ih =>
    intro i hk hi u h
    obtain ⟨xs, ys, n, n2, hx, hy, h1, h2, go⟩ := each _ _ h
    have l1 : i < xs.size := by omega
    have l2 : i < ys.size := by omega
    have gg := go l1 l2
    obtain ⟨c1, c2, c3, c4, c5⟩ := u
    wp_walk using wpAny_loadPart' hx, wpAny_loadPart' hy
    have g1 : xs[((i : Nat) : Int).toNat]? = some xs[i] := by simp [l1]
    have g2 : ys[((i : Nat) : Int).toNat]? = some ys[i] := by simp [l2]
    have hn : ((i : Int) + 1) = ((i + 1 : Nat) : Int) := by omega
    rw [g1, g2]
    refine wpAny_bind (wpAny_mono gg (fun r v hv => ?_) fun _ _ y => y)
    obtain ⟨hr, hv⟩ := hv
    subst hr
    have again := ih (i + 1) (by omega) (by omega) v hv
    obtain ⟨d1, d2, d3, d4, d5⟩ := v
    wp_walk
    rw [hn]
    refine ⟨plainId_quiet plain_eq_loop _, codeAny_builtin entry_eq_loop ?_⟩
    rw [Around.under_plainId plain_eq_loop _]
    exact again
theorem unlike_list (a z : Addr) (m : Nat) (J : Nat → Shared → Prop) (each : GQ.ListI prog w A (fun e u => R (.error e) u) a z m J)
    (done : ∀ u, J m u → R (.ok (.ret (.bool false))) u) {u : Shared} (h : J 0 u) :
    wpAny (model prog w) A.in1 (Builtin.«list.__ne__» ⟨[.ref a, .ref z], []⟩) (GQ.FinOf prog w A R) (fun e v => R (.error e) v) u := by
  obtain ⟨xs, ys, n, n2, hx, hy, h1, h2, _⟩ := each _ _ h
  have go := unlike_loop (A := A) (R := R) a z m J each done _ 0 rfl (Nat.zero_le _) u h
  obtain ⟨c1, c2, c3, c4, c5⟩ := u
  have q3 := AutoSeq1.sub_list_list
  have same : ¬ (xs.size != ys.size) = true := by simp [h1, h2]
  wp_walk using wpAny_loadPart' hx, wpAny_loadPart' hy
  refine ⟨plainId_quiet plain_eq_loop _, codeAny_builtin entry_eq_loop ?_⟩
  rw [Around.under_plainId plain_eq_loop _]
  exact go
theorem unlike_tup (a z : Addr) (xs ys : Array Value) (n n2 : Nat) (dd dd2 : Option Addr) (sl sl2 : Array (Option Value)) (hsz : xs.size = ys.size) (J : Nat → Shared → Prop)
    (each : ∀ i (h1 : i < xs.size) (h2 : i < ys.size) u, J i u → wpAny (model prog w) A.in1 (eqBool xs[i] ys[i]) (fun r v => r = true ∧ J (i + 1) v) (fun e v => R (.error e) v) u)
    (done : ∀ u, J xs.size u → R (.ok (.ret (.bool false))) u) {u : Shared} (hx : u.heap.get? a = some { cls := .type "tuple", dict := dd, data := .seq xs n, slots := sl }) (hy : u.heap.get? z = some { cls := .type "tuple", dict := dd2, data := .seq ys n2, slots := sl2 }) (h : J 0 u) :
    wpAny (model prog w) A.in1 (Builtin.«tuple.__ne__» ⟨[.ref a, .ref z], []⟩) (GQ.FinOf prog w A R) (fun e v => R (.error e) v) u := by
  have q2 := AutoSeq1.sub_tuple_tuple
  have hz : (xs.toList.zip ys.toList).length = xs.size := by simp [hsz]
  have h0 := h
  obtain ⟨c1, c2, c3, c4, c5⟩ := u
  wp_walk using wpAny_loadPart' hx, wpAny_loadPart' hy, wpAny_forIn_list _ (fun rest b v => b.1 = none ∧ ∃ i, rest = (xs.toList.zip ys.toList).drop i ∧ i ≤ xs.size ∧ J i v) _
  case turn =>
    rintro ⟨y, x⟩ rest b v ⟨hb, i, e, hi, hJ⟩
    have hlt : i < (xs.toList.zip ys.toList).length := by
      rcases Nat.lt_or_ge i (xs.toList.zip ys.toList).length with k | k
      · exact k
      · rw [List.drop_of_length_le k] at e
        cases e
    have l1 : i < xs.size := hz ▸ hlt
    have l2 : i < ys.size := hsz ▸ l1
    rw [List.drop_eq_getElem_cons hlt] at e
    injection e with e1 e2
    have f1 : y = xs[i] := by
      have := congrArg Prod.fst e1
      simpa using this
    have f2 : x = ys[i] := by
      have := congrArg Prod.snd e1
      simpa using this
    subst f1 f2
    refine wpAny_bind (wpAny_mono (each i l1 l2 v hJ) (fun r v2 k2 => ?_) fun _ _ k => k)
    obtain ⟨hr, k2⟩ := k2
    subst hr
    wp_walk
    exact ⟨rfl, i + 1, e2, l1, k2⟩
  case fin =>
    rintro ⟨b1, b2⟩ v ⟨hb, i, e, hi, hJ⟩
    simp only at hb
    subst hb
    have hge : xs.size ≤ i := by
      rcases Nat.lt_or_ge i (xs.toList.zip ys.toList).length with k | k
      · rw [List.drop_eq_getElem_cons k] at e
        cases e
      · exact hz ▸ k
    have hR : R (.ok (.ret (.bool false))) v := done v ((show i = xs.size by omega) ▸ hJ)
    wp_walk
    simpa [Builtin.Tuple.tupleCompareSizes, hsz] using hR
  case h =>
    exact ⟨rfl, 0, rfl, Nat.zero_le _, h0⟩
end
section
variable {prog : Program} {w : World} {A : Around} {E : Value → Shared → Prop} {u : Shared}
theorem rn_list {a z : Addr} {m : Nat} {Q : Value → Shared → Prop} (hu : A.units < cLine) (J : Nat → Shared → Prop) (each : GQ.ListI prog w A E a z m J)
    (done : ∀ u, J m u → Q (.bool false) u) (h : J 0 u) : wpAny (model prog w) A (richCompare .NotEq (.ref a) (.ref z)) Q E u := by
  obtain ⟨xs, ys, n, n2, hx, hy, _, _, _⟩ := each _ _ h
  refine wpAny_richCompare_same_room (op := .NotEq) ⟨_, hx, rfl⟩ ⟨_, hy, rfl⟩ F.slot_list_ne (GQ.call_here F.slot_list_ne ⟨_, hx, rfl⟩ F.entry_list_ne (F.args_list_ne_2 _ _) ?_) hu
  exact unlike_list (R := wants (fun v k => v ≠ .notImplemented ∧ Q v k) E) a z m J each (fun k q => ⟨(fun y => nomatch y), done k q⟩) h
theorem rn_tup {a z : Addr} {xs ys : Array Value} {Q : Value → Shared → Prop} (hsz : xs.size = ys.size) (hu : A.units < cLine) (J : Nat → Shared → Prop) (ha : u.heap.IsTuple a xs) (hz : u.heap.IsTuple z ys)
    (each : ∀ i (h1 : i < xs.size) (h2 : i < ys.size) u, J i u → wpAny (model prog w) A.in1 (eqBool xs[i] ys[i]) (fun r v => r = true ∧ J (i + 1) v) E u)
    (done : ∀ u, J xs.size u → Q (.bool false) u) (h : J 0 u) : wpAny (model prog w) A (richCompare .NotEq (.ref a) (.ref z)) Q E u := by
  obtain ⟨⟨k1, d1, b1, s1⟩, ho, hk, n, hd⟩ := id ha
  obtain ⟨⟨k2, d2, b2, s2⟩, ho2, hk2, n2, hd2⟩ := id hz
  simp only at hk hd hk2 hd2
  subst hk hd hk2 hd2
  refine wpAny_richCompare_same_room (op := .NotEq) ⟨_, ho, rfl⟩ ⟨_, ho2, rfl⟩ F.slot_tuple_ne (GQ.call_here F.slot_tuple_ne ⟨_, ho, rfl⟩ F.entry_tuple_ne (F.args_tuple_ne_2 _ _) ?_) hu
  exact unlike_tup (R := wants (fun v k => v ≠ .notImplemented ∧ Q v k) E) a z xs ys n n2 d1 d2 s1 s2 hsz J each (fun k q => ⟨(fun y => nomatch y), done k q⟩) ho ho2 h
end
end LagE
namespace L2
open PySem PySem.Spec PyProof.Rows
/-- != gives False for what D says, and only makes objects -/
def RnG (X : Cx) (n : Nat) (D : Eqv) : Prop :=
  ∀ (A : Around) (pins : List (Addr × Obj)) (u : Shared) (σ : St) (H : Hp) (x y : V) (b c : Value), Sub X n A → Inv X pins σ H u → RelV x b → RelV y c → D x y H →
    wpAny (model X.prog X.w) A (richCompare .NotEq b c) (fun r v => r = .bool false ∧ ∃ H', Inv X pins σ H' v ∧ Ext H H') X.xe u
section
variable {X : Cx} {n : Nat} {D : Eqv}
theorem rnG_list (hD : Mon D) (h : EqG X n D) : RnG X (n + 1) (DList D) := by
  intro A pins u σ H x y b c sb I rx ry d
  obtain ⟨a, z, xs, ys, rfl, rfl, ha, hz, p⟩ := d
  cases rx
  cases ry
  refine LagE.rn_list (m := xs.length) sb.room.units0 (fun _ v => LoopI X pins σ H v) (fun i v q => ?_) (fun v q => ⟨rfl, q⟩) ⟨H, I, Ext.rfl'⟩
  obtain ⟨H1, I1, e1⟩ := id q
  obtain ⟨k, its, k1, r, e⟩ := I1.hok a _ (e1 _ _ ha)
  obtain ⟨k', its2, k2, r2, e2⟩ := I1.hok z _ (e1 _ _ hz)
  exact ⟨its.toArray, its2.toArray, k1, k2, e, e2, by rw [List.size_toArray, ← r.length], by rw [List.size_toArray, ← r2.length, ← p.1], fun l1 l2 => turnG hD h sb p r r2 i l1 l2 v q⟩
theorem rnG_tup (hD : Mon D) (h : EqG X n D) : RnG X (n + 1) (DTup X.K D) := by
  intro A pins u σ H x y b c sb I rx ry d
  obtain ⟨a, z, xs, ys, rfl, rfl, ha, hz, p⟩ := d
  cases rx
  cases ry
  obtain ⟨its, r, e, k⟩ := I.tuple ha
  obtain ⟨its2, r2, e2, k2⟩ := I.tuple hz
  have hsz : its.toArray.size = its2.toArray.size := by
    rw [List.size_toArray, List.size_toArray, ← r.length, ← r2.length]
    exact p.1
  exact LagE.rn_tup hsz sb.room.units0 (fun _ v => LoopI X pins σ H v) e e2 (fun i l1 l2 v q => turnG hD h sb p r r2 i l1 l2 v q) (fun v q => ⟨rfl, q⟩) ⟨H, I, Ext.rfl'⟩
/-- x != y as an expression -/
def rNeG (D : Eqv) : R2 := fun x y H Q => D x y H ∧ ∀ H', Ext H H' → Q (.bl false) H'
theorem op_neG (h : RnG X n D) (hr : Room n X.A) : OpR X (compareOp .NotEq) (rNeG D) := by
  intro pins u σ H x y b c Q I rx ry hq
  obtain ⟨d, q⟩ := hq
  show wpAny (model X.prog X.w) X.A (richCompare .NotEq b c) (EP X pins σ Q) X.xe u
  refine wpAny_mono (h X.A pins u σ H x y b c ⟨hr, rfl⟩ I rx ry d) (fun r v k => ?_) fun _ _ y => y
  obtain ⟨e, H', I', x'⟩ := k
  subst e
  exact ⟨.bl false, H', I', rfl, q H' x'⟩
end
end L2

set_option maxRecDepth 100000
set_option maxHeartbeats 8000000
namespace Lag
open PySem PySem.Spec PyProof.Rows L2
/-! ### nets that are equal, within tuples and lists -/
def NetSame (K : PySem.W.Frag) (C : Addr) : Addr → Addr → Hp → Prop := fun a b H => ∃ (lg lw lg' lw' : Addr) (gs : List Gt) (ws : List Wr), NetAt K C H a lg lw gs ws ∧ NetAt K C H b lg' lw' gs ws ∧ ∀ g ∈ gs, GOk g
theorem NetSame.mon {K : PySem.W.Frag} {C : Addr} : ∀ a b H H', Ext H H' → NetSame K C a b H → NetSame K C a b H' := fun a b H H' e h => by
  obtain ⟨lg, lw, lg', lw', gs, ws, n1, n2, g⟩ := h
  exact ⟨lg, lw, lg', lw', gs, ws, n1.same e, n2.same e, g⟩
section
variable {P : Program} {w : World} {K : PySem.W.Frag} {mg : Str → Option Value} {base : Heap}
theorem ok_eqS {f C : Addr} {fd : FuncData} (F : Fun K "__eq__" "Net.__eq__" sEq f fd) (T : NT K mg C) (Y : NTy K C) (B : Bt mg) : FnOk P w K mg base CX0 1 f fd ["self", "other"] (spEq (NetSame K C)) := by
  refine F.ok scEq (fun vs H Q E h => ?_) (fun cdv A outer s H vs Q E hr h => ?_)
  · obtain ⟨a, b, rfl, _⟩ := h
    rfl
  · obtain ⟨p, p', rfl, ⟨lg, lw, lg', lw', gs, ws, N, N', gok⟩, q⟩ := h
    refine ⟨_, pss_one <| ps_ret <| pe_and (pe_callB call_isi (by rfl) B.isi (by decide +kernel) (pa_cons (pv 1) (pa_cons (pe_glob (v := .ref C) (by rfl) T.mg rfl) pa_nil))) <|
      pe_and (pe_cmpR (op_eqD hr.units) (pe_fld (pv 0) rfl) (pe_fld (pv 1) rfl) (nomark _)) <| pe_one <| pe_cmpR (op_eqD hr.units) (pe_fld (pv 0) rfl) (pe_fld (pv 1) rfl) (nomark _), ?_⟩
    obtain ⟨dx, hp⟩ := N.ob
    obtain ⟨dx', hq⟩ := N'.ob
    refine ⟨_, rfl, _, _, _, _, true, rfl, .own C, .base (ty_net T Y hq), kit_self C, true, rfl, iteT ?_⟩
    refine ⟨_, rfl, p, C, dx, _, _, rfl, hp, T.cl, T.nG, nf_gates _ _, _, rfl, p', C, dx', _, _, rfl, hq, T.cl, T.nG, nf_gates _ _, _, _, N.g.rg.dp, N'.g.rg.dp, (sh_gates gok).ok (by decide), (sh_gates gok).ok (by decide), true, ?_, iteT ?_⟩
    · rw [gatesD_eq, decide_eq_true rfl]
    refine ⟨_, rfl, p, C, dx, _, _, rfl, hp, T.cl, T.nW, nf_wires _ _, _, rfl, p', C, dx', _, _, rfl, hq, T.cl, T.nW, nf_wires _ _, _, _, N.w.rw.dp, N'.w.rw.dp, (sh_wires _).ok (by decide), (sh_wires _).ok (by decide), ?_⟩
    rw [wiresD_eq, decide_eq_true rfl]
    exact q H Ext.rfl'
end
/-- numbers, and lists of them -/
abbrev DNum : Eqv := fun x y H => DFlat x y H ∨ DList DFlat x y H
/-- a net, or a list of numbers or of lists of them -/
abbrev DTold (K : PySem.W.Frag) (C : Addr) : Eqv := fun x y H => DIns C (NetSame K C) x y H ∨ DList DNum x y H
theorem mon_num : Mon DNum := mon_flat.or (mon_list mon_flat)
theorem mon_told {K : PySem.W.Frag} {C : Addr} : Mon (DTold K C) := (mon_ins NetSame.mon).or (mon_list mon_num)
section
variable {X : Cx} {C f : Addr} {fd : FuncData}
theorem eqG_num : EqG X 1 DNum := EqG.or (eqG_flat.mono (by decide)) (eqG_list mon_flat eqG_flat)
theorem eqG_net (F : FnOk X.prog X.w X.K X.mg X.base CX0 1 f fd ["self", "other"] (spEq (NetSame X.K C))) (hs : PySem.W.findIn X.K (.ref C) "__eq__" = some (some (.ref f))) (hf : PySem.W.isFn X.K (.ref f) = true) (hb : Binds X.K fd ["self", "other"] []) : EqG X 1 (DIns C (NetSame X.K C)) := eqG_ins F hs hf hb pass0
theorem eqG_told (F : FnOk X.prog X.w X.K X.mg X.base CX0 1 f fd ["self", "other"] (spEq (NetSame X.K C))) (hs : PySem.W.findIn X.K (.ref C) "__eq__" = some (some (.ref f))) (hf : PySem.W.isFn X.K (.ref f) = true) (hb : Binds X.K fd ["self", "other"] []) : EqG X 2 (DTold X.K C) :=
  EqG.or ((eqG_net F hs hf hb).mono (by decide)) (eqG_list mon_num eqG_num)
/-- (a net, what was told) != the like -/
theorem op_neT (F : FnOk X.prog X.w X.K X.mg X.base CX0 1 f fd ["self", "other"] (spEq (NetSame X.K C))) (hs : PySem.W.findIn X.K (.ref C) "__eq__" = some (some (.ref f))) (hf : PySem.W.isFn X.K (.ref f) = true) (hb : Binds X.K fd ["self", "other"] []) (hr : Room 3 X.A) :
    OpR X (compareOp .NotEq) (rNeG (DTup X.K (DTold X.K C))) := op_neG (rnG_tup mon_told (eqG_told F hs hf hb)) hr
theorem op_eqT (F : FnOk X.prog X.w X.K X.mg X.base CX0 1 f fd ["self", "other"] (spEq (NetSame X.K C))) (hs : PySem.W.findIn X.K (.ref C) "__eq__" = some (some (.ref f))) (hf : PySem.W.isFn X.K (.ref f) = true) (hb : Binds X.K fd ["self", "other"] []) (hr : Room 3 X.A) :
    OpR X (compareOp .Eq) (rEqG (DTup X.K (DTold X.K C))) := op_eqG (rcG_tup mon_told (eqG_told F hs hf hb)) hr
/-- a list of nets != the like -/
theorem op_neNs (F : FnOk X.prog X.w X.K X.mg X.base CX0 1 f fd ["self", "other"] (spEq (NetSame X.K C))) (hs : PySem.W.findIn X.K (.ref C) "__eq__" = some (some (.ref f))) (hf : PySem.W.isFn X.K (.ref f) = true) (hb : Binds X.K fd ["self", "other"] []) (hr : Room 2 X.A) :
    OpR X (compareOp .NotEq) (rNeG (DList (DIns C (NetSame X.K C)))) := op_neG (rnG_list (mon_ins NetSame.mon) (eqG_net F hs hf hb)) hr
end
theorem prs_ints {H : Hp} : ∀ l : List Int, Prs DFlat (l.map V.int) (l.map V.int) H
  | [] => Prs.nil
  | i :: l => Prs.cons ⟨rfl, rfl, (beq_self_eq_true i : _)⟩ (prs_ints l)
theorem prs_rows {H : Hp} : ∀ {as bs : List Addr} {xss : List (List Int)}, All2 (fun a xs => H a = some (.lst (xs.map V.int))) as xss → All2 (fun a xs => H a = some (.lst (xs.map V.int))) bs xss → Prs DNum (as.map V.ref) (bs.map V.ref) H
  | [], [], _, _, _ => Prs.nil
  | [], _ :: _, [], _, h => by
    have := h.1
    simp at this
  | [], _ :: _, _ :: _, h, _ => by
    have := h.1
    simp at this
  | _ :: _, [], [], h, _ => by
    have := h.1
    simp at this
  | _ :: _, [], _ :: _, _, h => by
    have := h.1
    simp at this
  | _ :: _, _ :: _, [], h, _ => by
    have := h.1
    simp at this
  | a :: as, b :: bs, xs :: xss, h, h' => Prs.cons (.inr ⟨a, b, _, _, rfl, rfl, h.head, h'.head, prs_ints xs⟩) (prs_rows h.tail h'.tail)
/-- a net and what was told, twice -/
theorem told_twice {K : PySem.W.Frag} {C : Addr} {H : Hp} {t p t' p' ng nw ng' nw' lo lo' : Addr} {gs : List Gt} {ws : List Wr} (gok : ∀ g ∈ gs, GOk g) (et : H t = some (.tup [.ref p, .ref lo])) (et' : H t' = some (.tup [.ref p', .ref lo'])) (n : NetAt K C H p ng nw gs ws) (n' : NetAt K C H p' ng' nw' gs ws) (hl : DList DNum (.ref lo) (.ref lo') H) : DTup K (DTold K C) (.ref t) (.ref t') H := by
  obtain ⟨dx, ob⟩ := id n.ob
  obtain ⟨dx', ob'⟩ := id n'.ob
  exact ⟨t, t', _, _, rfl, rfl, .inl (.inl et), .inl (.inl et'), Prs.cons (.inl ⟨p, p', dx, dx', _, _, rfl, rfl, ob, ob', ng, nw, ng', nw', gs, ws, n, n', gok⟩) (Prs.cons (.inr hl) Prs.nil)⟩
/-! ### calls by keywords alone -/
section
variable {X : Cx} {CX : CXT} {k : Nat} {f : Addr} {fd : FuncData} {ps ks : List Str} {sp : Sp} {E : XK} {x : Str} {p pos : Pos} {kws : List Keyword} {tk : TA} {g : List Value → List Value → List Value} {gV : List V → List V → List V}
theorem pe_callK0 (F : FnOk X.prog X.w X.K X.mg X.base CX k f fd ps sp) (hr : Room k X.A) (hg : Gl X x) (hm : X.mg x = some (.ref f)) (hk : PySem.W.keepIn X.K (.ref f) = true) (hb : KBinds X.K fd ps ks g gV) (hx : Passes CX X E) (hkw : PK X kws tk)
    (hall : (backToKw pos (keywordEach kws X.env)).all (·.1.isSome) = true := by rfl) (hks : (backToKw pos (keywordEach kws X.env)).filterMap (·.1) = ks := by rfl) (hdb : (x == ("__debug__" : Str)) = false := by decide)
    (hpl : ((backTo pos (starEach [] X.env)).any (·.1) || (backToKw pos (keywordEach kws X.env)).any (·.1.isNone)) = false := by rfl) :
    PE X (.Call (.Name x p) [] kws pos) (tCallK sp gV E tNil tk) := by
  refine ⟨fun pins s σ H Q I h => ?_⟩
  refine wpAny_Call_Name_kw (ld_glob I hg hm ?_ hdb)
  refine PySem.W.callWith_KW0 (h₀ := X.base) I.ok.mod.kin hk hall ?_ hpl
  refine thn (hkw.run pos pins s σ H _ I h) fun ws s2 ⟨zs, H2, I2, rz, q2⟩ => ⟨I2.kIn, ?_⟩
  rw [hks]
  exact run_fnk (us := []) (vs := []) F hr hb hx I2 .nil rz q2
end
/-- two things by their names, turned about -/
def swp {α : Type} (us ws : List α) : List α := match us, ws with
  | [], [a, b] => [b, a]
  | _, _ => []
/-- one thing by its name -/
def one1 {α : Type} (us ws : List α) : List α := match us, ws with
  | [], [a] => [a]
  | _, _ => []
theorem swp_rel {vs zs : List V} {us ws : List Value} (h : Vals vs us) (h' : Vals zs ws) : Vals (swp vs zs) (swp us ws) := by
  cases h with
  | cons _ _ => exact .nil
  | nil =>
    cases h' with
    | nil => exact .nil
    | cons r1 h1 =>
      cases h1 with
      | nil => exact .nil
      | cons r2 h2 =>
        cases h2 with
        | nil => exact .cons r2 (.cons r1 .nil)
        | cons _ _ => exact .nil
theorem one1_rel {vs zs : List V} {us ws : List Value} (h : Vals vs us) (h' : Vals zs ws) : Vals (one1 vs zs) (one1 us ws) := by
  cases h with
  | cons _ _ => exact .nil
  | nil =>
    cases h' with
    | nil => exact .nil
    | cons r1 h1 =>
      cases h1 with
      | nil => exact .cons r1 .nil
      | cons _ _ => exact .nil
theorem kb_swp {K : PySem.W.Frag} {x qual : Str} {st : Stmt} {f : Addr} {fd : FuncData} {p1 p2 : Str} (F : Fun K x qual st f fd)
    (h : ∀ (kV doc pm : Value) (an : Option Addr) (cdv ct a b : Value), bindArgs (PySem.W.fnOf x qual (defArgs st) (defBody st) (defScope st) .none kV doc pm an cdv ct) ⟨[], [(p2, a), (p1, b)]⟩ = pure [(p1, b), (p2, a)]) : KBinds K fd [p1, p2] [p2, p1] swp swp := by
  obtain ⟨oc, od, kV, doc, pm, an, cdv, ct, osl, rfl, lk, hcd⟩ := F.ex
  refine ⟨fun s us ws _ hl => ?_, swp_rel⟩
  match us, ws, hl with
  | [], [a, b], _ => exact .of_eq (h kV doc pm an cdv ct a b)
theorem kb_one {K : PySem.W.Frag} {x qual : Str} {st : Stmt} {f : Addr} {fd : FuncData} {p1 : Str} (F : Fun K x qual st f fd)
    (h : ∀ (kV doc pm : Value) (an : Option Addr) (cdv ct a : Value), bindArgs (PySem.W.fnOf x qual (defArgs st) (defBody st) (defScope st) .none kV doc pm an cdv ct) ⟨[], [(p1, a)]⟩ = pure [(p1, a)]) : KBinds K fd [p1] [p1] one1 one1 := by
  obtain ⟨oc, od, kV, doc, pm, an, cdv, ct, osl, rfl, lk, hcd⟩ := F.ex
  refine ⟨fun s us ws _ hl => ?_, one1_rel⟩
  match us, ws, hl with
  | [], [a], _ => exact .of_eq (h kV doc pm an cdv ct a)
end Lag

set_option maxRecDepth 100000
set_option maxHeartbeats 8000000
namespace Lag
open PySem PySem.Spec PyProof.Rows L2
abbrev sLMade : Stmt := topS 64 -- @_law_made
def spMade (K : PySem.W.Frag) : Sp := fun vs H Q _ => ∃ (k : Str) (a : Addr) (ns : List Int), vs = [.str k, .ref a] ∧ SqL K H a (ns.map V.int) ∧ WOk1 ns ∧ (k = "out" ∨ k = "first" → ns ≠ []) ∧ (k = "sum" ∨ k = "times" ∨ k = "most" ∨ k = "least" ∨ k = "one" ∨ k = "out" ∨ k = "first") ∧ Q (.int (kindVal k ns)) H
section
variable {P : Program} {w : World} {K : PySem.W.Frag} {mg : Str → Option Value} {base : Heap}
abbrev nLMade : List Str := ["_law_kind", "_law_some", "_law_found", "_law_worth"]
theorem scLMade : FnScope nLMade ["_law_kind", "_law_some"] (defScope sLMade) := ⟨rfl, rfl, rfl, by decide +kernel, rfl, by decide +kernel, by decide +kernel⟩
abbrev DLMade (P : Program) (w : World) (K : PySem.W.Frag) (mg : Str → Option Value) (base : Heap) := Df P w K mg base 1 "_law_made" ["_law_kind", "_law_some"] (spMade K)
theorem ok_lmade {f : Addr} {fd : FuncData} (F : Fun K "_law_made" "_law_made" sLMade f fd) (hm : mg "_law_made" = some (.ref f)) (B : Bt mg) (ms : mg "sum" = none) (mn : mg "min" = none) : DLMade P w K mg base f fd := by
  refine ⟨?_, hm, F.kp, F.binds fun _ _ _ _ _ _ us hl => match us, hl with | [_, _], _ => rfl⟩
  refine F.ok scLMade (fun vs H Q E h => ?_) (fun cdv A outer s H vs Q E hr h => ?_)
  · obtain ⟨k, a, ns, rfl, _⟩ := h
    rfl
  · obtain ⟨k, a, ns, rfl, sq, hw, hne, hk, q⟩ := h
    have nd := scLMade.nd
    refine ⟨_, pss_cons (ps_if (pt_cmpR op_eq (pv 0) pe_str (nomark _)) (pss_one (ps_ret (pe_op op_mod (pe_callB (cr_sum rfl) (by rfl) ms (by decide +kernel) (pa_cons (pv 1) pa_nil)) pe_int))) pss_nil) <|
        pss_cons (ps_if (pt_cmpR op_eq (pv 0) pe_str (nomark _)) (pss_one (ps_ret (pe_callBK (cr_maxW rfl) (by rfl) B.max (by decide +kernel) (pa_cons (pv 1) pa_nil) (pk_cons pe_int pk_nil)))) pss_nil) <|
        pss_cons (ps_if (pt_cmpR op_eq (pv 0) pe_str (nomark _)) (pss_one (ps_ret (pe_callBK (cr_minW rfl) (by rfl) mn (by decide +kernel) (pa_cons (pv 1) pa_nil) (pk_cons pe_int pk_nil)))) pss_nil) <|
        pss_cons (ps_if (pt_cmpR op_eq (pv 0) pe_str (nomark _)) (pss_one (ps_ret (pe_callTy call_int1 (by rfl) B.int (by decide +kernel) (pa_cons (pe_cmpR op_gt (pe_callBK (cr_maxW rfl) (by rfl) B.max (by decide +kernel) (pa_cons (pv 1) pa_nil) (pk_cons pe_int pk_nil)) pe_int (nomark _)) pa_nil)))) pss_nil) <|
        pss_cons (ps_if (pt_cmpR op_eq (pv 0) pe_str (nomark _)) (pss_cons (ps_set (i := 2) nd rfl (.inl rfl) pe_int) <|
        pss_cons (ps_for PassesOwn.never rfl (pi_list (pv 1)) (pg_name (i := 3) nd rfl (.inl rfl)) (pss_one (ps_set (i := 2) nd rfl (.inl rfl) (pe_op op_mod (pe_op op_mul (pv 2) (pv 3)) pe_int)))) <|
        pss_one (ps_ret (pv 2))) pss_nil) <|
        pss_one (ps_ret (pe_ix ix_list (pv 1) pe_int (fun _ _ => rfl))), ?_⟩
    have last : (k = "out" ∨ k = "first") → ∃ x r, ns = x :: r ∧ kindVal k ns = x := fun h => by
      cases ns with
      | nil => exact absurd rfl (hne h)
      | cons x r =>
        refine ⟨x, r, rfl, ?_⟩
        rcases h with rfl | rfl
        · exact kv_out _
        · exact kv_first _
    refine ⟨_, rfl, rfl, _, rfl, ite2 (fun e => ?_) (fun e1 => ?_)⟩
    · have e : k = "sum" := V.str.inj (of_decide_eq_true e)
      rw [e, kv_sum] at q
      exact ⟨_, rfl, a, ns, rfl, sq, _, _, rfl, rfl, (by show (0 : Int) < 97; decide), q⟩
    refine ⟨_, rfl, rfl, _, rfl, ite2 (fun e => ?_) (fun e2 => ?_)⟩
    · have e : k = "most" := V.str.inj (of_decide_eq_true e)
      rw [e, kv_most] at q
      exact ⟨_, rfl, a, ns, 0, rfl, rfl, sq, fun y hy => (hw y hy).1, q⟩
    refine ⟨_, rfl, rfl, _, rfl, ite2 (fun e => ?_) (fun e3 => ?_)⟩
    · have e : k = "least" := V.str.inj (of_decide_eq_true e)
      rw [e, kv_least] at q
      exact ⟨_, rfl, a, ns, 96, rfl, rfl, sq, fun y hy => (hw y hy).2, q⟩
    refine ⟨_, rfl, rfl, _, rfl, ite2 (fun e => ?_) (fun e4 => ?_)⟩
    · have e : k = "one" := V.str.inj (of_decide_eq_true e)
      rw [e, kv_one] at q
      refine ⟨_, rfl, a, ns, 0, rfl, rfl, sq, fun y hy => (hw y hy).1, _, _, rfl, rfl, .inr ⟨_, rfl, ?_⟩⟩
      show Q (.int (if decide (ns.foldl max 0 > 0) = true then 1 else 0)) H
      rw [show (if decide (ns.foldl max 0 > 0) = true then (1 : Int) else 0) = if ns.foldl max 0 > 0 then 1 else 0 from by split <;> split <;> simp_all]
      exact q
    refine ⟨_, rfl, rfl, _, rfl, ite2 (fun e => ?_) (fun e5 => ?_)⟩
    · have e : k = "times" := V.str.inj (of_decide_eq_true e)
      rw [e, kv_times] at q
      refine ⟨_, rfl, a, rfl, ⟨_, sq⟩, for_list (K := K) (a := a) (xs := ns.map V.int) (fun i σ H' => ∃ y, σ = [some (.str k), some (.ref a), some (.int ((ns.take i).foldl (fun a b => a * b % 97) 1)), y] ∧ H' = H) ⟨_, rfl, rfl⟩ (fun i σ H' _ ⟨_, _, e⟩ => by rw [e]; exact sq) ?_ ?_⟩
      · rintro i x σ H' hx ⟨y, rfl, rfl⟩
        obtain ⟨z, hz, rfl⟩ := int_at hx
        have hb := prod_bound (ns.take i) 1 (by decide)
        refine ⟨_, rfl, _, rfl, _, _, rfl, rfl, .inl ⟨by omega, by omega⟩, _, _, rfl, rfl, (by show (0 : Int) < 97; decide), some (.int z), ?_, rfl⟩
        rw [List.take_add_one, hz, List.foldl_append]
        rfl
      · rintro σ H' ⟨y, rfl, rfl⟩
        rw [List.length_map, List.take_length]
        exact ⟨_, rfl, q⟩
    have ne : ∀ {z : Str}, ¬ decide ((V.str k) = V.str z) = true → k ≠ z := fun h e => h (by rw [e]; exact decide_eq_true rfl)
    have hlast : k = "out" ∨ k = "first" := by
      rcases hk with h | h | h | h | h | h
      · exact absurd h (ne e1)
      · exact absurd h (ne e5)
      · exact absurd h (ne e2)
      · exact absurd h (ne e3)
      · exact absurd h (ne e4)
      · exact h
    obtain ⟨x, r, rfl, ev⟩ := last hlast
    rw [ev] at q
    exact ⟨_, rfl, a, _, 0, .int x, rfl, rfl, sq, atI_nat (j := 0) rfl, q⟩
end
end Lag

set_option maxRecDepth 100000
set_option maxHeartbeats 8000000
namespace Lag
open PySem PySem.Spec PyProof.Rows L2
/-! ### gone round until each one is known: the mathematics -/
def wk (kn : Nat → Option Int) (x : Wr) : Int := match x.2.2 with
  | r :: _ => r
  | [] => (kn x.1).getD 0
def cmk (ws : List Wr) (kn : Nat → Option Int) (g : Nat) : List Int := (ws.filter fun x => x.2.1 == g).map (wk kn)
structure KN (gs : List Gt) (ws : List Wr) (rs : List Int) (kn : Nat → Option Int) : Prop where
  put : ∀ (i g : Nat) (r : Int), (plc gs "in" gs.length)[i]? = some g → rs[i]? = some r → kn g = some r
  bd : ∀ (g : Nat) (z : Int), kn g = some z → g < gs.length ∧ 0 ≤ z ∧ z ≤ 96
  eq : ∀ (g : Nat) (z : Int), kn g = some z → kindAt gs g ≠ "in" → (∀ x ∈ ws, x.2.1 = g → x.2.2 = [] → (kn x.1).isSome = true) ∧ z = kindVal (kindAt gs g) (cmk ws kn g)
def knSet (kn : Nat → Option Int) (g : Nat) (z : Int) : Nat → Option Int := fun j => if j = g then some z else kn j
theorem wk_congr {kn kn' : Nat → Option Int} {x : Wr} (h : x.2.2 = [] → kn x.1 = kn' x.1) : wk kn x = wk kn' x := by
  unfold wk
  cases e : x.2.2 with
  | nil =>
    show (kn x.1).getD 0 = (kn' x.1).getD 0
    rw [h e]
  | cons r l => rfl
theorem cmk_congr {ws : List Wr} {kn kn' : Nat → Option Int} {g : Nat} (h : ∀ x ∈ ws, x.2.1 = g → x.2.2 = [] → kn x.1 = kn' x.1) : cmk ws kn g = cmk ws kn' g := by
  unfold cmk
  refine List.map_congr_left fun x hx => ?_
  rw [List.mem_filter] at hx
  exact wk_congr fun hb => h x hx.1 (by simpa using hx.2) hb
theorem cmk_bound {gs : List Gt} {ws : List Wr} {rs : List Int} {kn : Nat → Option Int} (N : NetOk gs ws) (h : KN gs ws rs kn) (g : Nat) : WOk1 (cmk ws kn g) := by
  intro y hy
  obtain ⟨x, hx, rfl⟩ := List.mem_map.mp hy
  have W := N.wok x (List.mem_filter.mp hx).1
  unfold wk
  cases e : x.2.2 with
  | nil =>
    show 0 ≤ (kn x.1).getD 0 ∧ (kn x.1).getD 0 ≤ 96
    cases e2 : kn x.1 with
    | none => decide
    | some z => exact (h.bd _ _ e2).2
  | cons r l => exact W.r r (by rw [e]; exact List.mem_cons_self ..)
theorem cmk_ne {gs : List Gt} {ws : List Wr} {kn : Nat → Option Int} (N : NetOk gs ws) {g : Nat} (hg : g < gs.length) (hk : kindAt gs g = "out" ∨ kindAt gs g = "first") : cmk ws kn g ≠ [] := by
  have hp : 1 ≤ cnt ws g := by
    rcases hk with hk | hk
    · have := N.one g hg hk
      omega
    · exact N.some g hg hk
  intro z
  have hl := congrArg List.length z
  unfold cmk at hl
  rw [List.length_map, List.length_nil] at hl
  unfold cnt at hp
  rw [List.countP_eq_length_filter, hl] at hp
  omega
theorem KN.notin {gs : List Gt} {ws : List Wr} {rs : List Int} {kn : Nat → Option Int} (h : KN gs ws rs kn) (hl : rs.length = (plc gs "in" gs.length).length) {g : Nat} (hg : g < gs.length) (hn : kn g = none) : kindAt gs g ≠ "in" := by
  intro hk
  obtain ⟨i, hi⟩ := List.getElem?_of_mem (mem_plc.mpr ⟨hg, hk⟩)
  have hil : i < rs.length := by
    rw [hl]
    exact (List.getElem?_eq_some_iff.mp hi).1
  have := h.put i g _ hi (List.getElem?_eq_getElem hil)
  rw [hn] at this
  cases this
theorem KN.step {gs : List Gt} {ws : List Wr} {rs : List Int} {kn : Nat → Option Int} (N : NetOk gs ws) (h : KN gs ws rs kn) (hl : rs.length = (plc gs "in" gs.length).length) {g : Nat} (hg : g < gs.length) (hn : kn g = none) (hb : ∀ x ∈ ws, x.2.1 = g → x.2.2 = [] → (kn x.1).isSome = true) :
    KN gs ws rs (knSet kn g (kindVal (kindAt gs g) (cmk ws kn g))) := by
  have hki := h.notin hl hg hn
  have ne : ∀ {j : Nat}, (kn j).isSome = true → j ≠ g := fun {j} hj z => by
    rw [z, hn] at hj
    cases hj
  have old : ∀ {j : Nat}, j ≠ g → knSet kn g (kindVal (kindAt gs g) (cmk ws kn g)) j = kn j := fun {j} hj => by
    unfold knSet
    rw [if_neg hj]
  refine ⟨fun i j r h1 h2 => ?_, fun j z hz => ?_, fun j z hz hkj => ?_⟩
  · have := h.put i j r h1 h2
    rw [old (ne (by rw [this]; rfl))]
    exact this
  · by_cases hj : j = g
    · subst hj
      unfold knSet at hz
      rw [if_pos rfl] at hz
      cases hz
      exact ⟨hg, kv_bound _ (cmk_bound N h j)⟩
    · rw [old hj] at hz
      exact h.bd j z hz
  · have key : (∀ x ∈ ws, x.2.1 = j → x.2.2 = [] → (kn x.1).isSome = true) ∧ z = kindVal (kindAt gs j) (cmk ws kn j) := by
      by_cases hj : j = g
      · subst hj
        unfold knSet at hz
        rw [if_pos rfl] at hz
        cases hz
        exact ⟨hb, rfl⟩
      · rw [old hj] at hz
        exact h.eq j z hz hkj
    obtain ⟨k1, k2⟩ := key
    refine ⟨fun x hx h1 h2 => by rw [old (ne (k1 x hx h1 h2))]; exact k1 x hx h1 h2, ?_⟩
    rw [k2]
    congr 1
    exact cmk_congr fun x hx h1 h2 => (old (ne (k1 x hx h1 h2))).symm
theorem countP_lt {α : Type} {p q : α → Bool} : ∀ {l : List α}, (∀ a ∈ l, p a = true → q a = true) → (∃ a ∈ l, q a = true ∧ p a = false) → l.countP p < l.countP q
  | [], _, ⟨a, ha, _⟩ => by cases ha
  | x :: l, h, ⟨a, ha, h1, h2⟩ => by
    have hle : l.countP p ≤ l.countP q := List.countP_mono_left fun a ha hp => h a (List.mem_cons_of_mem _ ha) hp
    rw [List.countP_cons, List.countP_cons]
    rcases List.mem_cons.mp ha with e | hm
    · subst e
      rw [h1, h2]
      simp
      omega
    · have ih := countP_lt (p := p) (q := q) (l := l) (fun a ha => h a (List.mem_cons_of_mem _ ha)) ⟨a, hm, h1, h2⟩
      have hx := h x (List.mem_cons_self ..)
      cases hp : p x with
      | false =>
        simp
        split <;> omega
      | true =>
        rw [hx hp]
        simp
        exact ih
/-- ranks below the number of gates -/
theorem NetOk.low {gs : List Gt} {ws : List Wr} (N : NetOk gs ws) : ∃ ρ : Nat → Nat, (∀ g, g < gs.length → ρ g < gs.length) ∧ ∀ x ∈ ws, x.2.2 = [] → ρ x.1 < ρ x.2.1 := by
  obtain ⟨ρ, hρ⟩ := N.rank
  refine ⟨fun g => (List.range gs.length).countP fun j => decide (ρ j < ρ g), fun g hg => ?_, fun x hx hb => ?_⟩
  · have := countP_lt (p := fun j => decide (ρ j < ρ g)) (q := fun _ => true) (l := List.range gs.length) (fun _ _ _ => rfl) ⟨g, List.mem_range.mpr hg, rfl, decide_eq_false (Nat.lt_irrefl _)⟩
    rw [List.countP_true, List.length_range] at this
    exact this
  · have hlt := hρ x hx hb
    exact countP_lt (fun a _ ha => decide_eq_true (Nat.lt_trans (of_decide_eq_true ha) hlt)) ⟨x.1, List.mem_range.mpr (N.wok x hx).s, decide_eq_true hlt, decide_eq_false (Nat.lt_irrefl _)⟩
def knL (kn : Nat → Option Int) (n : Nat) : List Int := (List.range n).map fun g => (kn g).getD 0
theorem knL_get {kn : Nat → Option Int} {n g : Nat} (h : g < n) : (knL kn n).getD g 0 = (kn g).getD 0 := by
  unfold knL
  rw [List.getD_eq_getElem?_getD, List.getElem?_map, List.getElem?_range h]
  rfl
theorem KN.isW {gs : List Gt} {ws : List Wr} {rs : List Int} {kn : Nat → Option Int} (N : NetOk gs ws) (h : KN gs ws rs kn) (all : ∀ g, g < gs.length → (kn g).isSome = true) : IsW gs ws rs (knL kn gs.length) ∧ WOk1 (knL kn gs.length) := by
  refine ⟨⟨by unfold knL; rw [List.length_map, List.length_range], fun i g r h1 h2 => ?_, fun g hg hk => ?_⟩, fun y hy => ?_⟩
  · have hg := (mem_plc.mp (List.mem_of_getElem? h1)).1
    rw [knL_get hg, h.put i g r h1 h2]
    rfl
  · rw [knL_get hg]
    obtain ⟨z, hz⟩ := Option.isSome_iff_exists.mp (all g hg)
    rw [hz]
    show z = _
    rw [(h.eq g z hz hk).2]
    congr 1
    unfold cmk cmg
    refine List.map_congr_left fun x hx => ?_
    have W := N.wok x (List.mem_filter.mp hx).1
    unfold wk wv
    cases x.2.2 with
    | nil => exact (knL_get W.s).symm
    | cons _ _ => rfl
  · obtain ⟨g, _, rfl⟩ := List.mem_map.mp hy
    cases e : kn g with
    | none => decide
    | some z => exact (h.bd g z e).2
/-- the dict that holds what is known -/
def KD (H : Hp) (D : Addr) (kn : Nat → Option Int) (m : Nat) : Prop := ∃ kvs : List (Key × V), H D = some (.dK kvs) ∧ kvs.length ≤ m ∧ ∀ g : Nat, valV kvs (Sum.inl (g : Int)) = (kn g).map V.int
theorem KD.get {H : Hp} {D : Addr} {kn : Nat → Option Int} {m : Nat} (h : KD H D kn m) (g : Nat) : DGet H D (.int (g : Nat)) ((kn g).map V.int) := by
  obtain ⟨kvs, e, _, hv⟩ := h
  have := DGet.k (k := Sum.inl (g : Int)) e
  rw [hv g] at this
  exact this
theorem KD.isD {H : Hp} {D : Addr} {kn : Nat → Option Int} {m : Nat} (h : KD H D kn m) : IsD H D := by
  obtain ⟨kvs, e, _⟩ := h
  exact .inl ⟨_, .inl e⟩
theorem KD.put {H : Hp} {D : Addr} {kn : Nat → Option Int} {m : Nat} (h : KD H D kn m) (hm : m < sizeLine) (g : Nat) (z : Int) : ∃ o, DPut H D (.int (g : Nat)) (.int z) (upd H D o) ∧ KD (upd H D o) D (knSet kn g z) (m + 1) := by
  obtain ⟨kvs, e, hl, hv⟩ := h
  refine ⟨.dK (putK kvs (Sum.inl (g : Int)) (.int z)), DPut.k (k := Sum.inl (g : Int)) e (by omega), _, upd_same, by have := length_putK kvs (Sum.inl (g : Int)) (.int z); omega, fun j => ?_⟩
  rw [valV_put]
  unfold knSet
  by_cases hj : j = g
  · subst hj
    rw [if_pos rfl, if_pos rfl]
    rfl
  · rw [if_neg hj, if_neg (fun z => hj (by have := Sum.inl.inj z; omega))]
    exact hv j
theorem KD.le {H : Hp} {D : Addr} {kn : Nat → Option Int} {m m' : Nat} (h : KD H D kn m) (hm : m ≤ m') : KD H D kn m' := by
  obtain ⟨kvs, e, hl, hv⟩ := h
  exact ⟨kvs, e, by omega, hv⟩
theorem KD.same {H H' : Hp} {D : Addr} {kn : Nat → Option Int} {m : Nat} (h : KD H D kn m) (s : Same H H') : KD H' D kn m := by
  obtain ⟨kvs, e, hl, hv⟩ := h
  exact ⟨kvs, s _ _ e, hl, hv⟩
end Lag

set_option maxRecDepth 100000
set_option maxHeartbeats 8000000
namespace Lag
open PySem PySem.Spec PyProof.Rows L2
abbrev sLTold : Stmt := topS 65 -- @_law_told
theorem plc_mono {gs : List Gt} {k : Str} {i : Nat} : ∀ {n : Nat}, i ≤ n → (plc gs k i).length ≤ (plc gs k n).length
  | 0, h => by
    have : i = 0 := by omega
    rw [this]
    exact Nat.le_refl _
  | n + 1, h => by
    by_cases e : i = n + 1
    · rw [e]
      exact Nat.le_refl _
    · have := plc_mono (gs := gs) (k := k) (i := i) (n := n) (by omega)
      rw [plc_succ]
      split
      · rw [List.length_append]
        omega
      · exact this
theorem filter_take {α : Type} {p : α → Bool} {l : List α} {i : Nat} {x : α} (h : l[i]? = some x) : (l.take (i + 1)).filter p = if p x = true then (l.take i).filter p ++ [x] else (l.take i).filter p := by
  rw [List.take_add_one, h]
  show ((l.take i ++ [x]).filter _) = _
  rw [List.filter_append, List.filter_cons]
  by_cases e : p x = true
  · rw [if_pos e, if_pos e]
    rfl
  · rw [if_neg e, if_neg e, List.filter_nil, List.append_nil]
theorem KD.ne {H : Hp} {D L : Addr} {kn : Nat → Option Int} {m : Nat} {o : HO} (h : KD H D kn m) (n : D ≠ L) : KD (upd H L o) D kn m := by
  obtain ⟨kvs, e, hl, hv⟩ := h
  exact ⟨kvs, by rw [upd_ne n]; exact e, hl, hv⟩
theorem getD_int (o : Option Int) : (o.map V.int).getD (V.int 0) = V.int (o.getD 0) := by cases o <;> rfl
theorem small20k {n : Nat} (h : n ≤ 20000) : n < sizeLine := Nat.lt_of_le_of_lt h (by decide)
theorem kinds_or {k : Str} (h : k ∈ kinds) (hi : k ≠ "in") : k = "sum" ∨ k = "times" ∨ k = "most" ∨ k = "least" ∨ k = "one" ∨ k = "out" ∨ k = "first" := by
  simp only [kinds, List.mem_cons, List.not_mem_nil, or_false] at h
  rcases h with h | h | h | h | h | h | h | h
  · exact absurd h hi
  · exact .inr (.inr (.inr (.inr (.inr (.inl h)))))
  · exact .inl h
  · exact .inr (.inl h)
  · exact .inr (.inr (.inl h))
  · exact .inr (.inr (.inr (.inl h)))
  · exact .inr (.inr (.inr (.inr (.inr (.inr h)))))
  · exact .inr (.inr (.inr (.inr (.inl h))))
theorem bh_nil (ts : List Int) {x : Wr} (h : x.2.2 = []) : bh ts x = x := by
  obtain ⟨a, b, r⟩ := x
  subst h
  rfl
theorem bh_cons (ts : List Int) {x : Wr} {r : Int} {l : List Int} (h : x.2.2 = r :: l) : bh ts x = (x.1, x.2.1, l ++ [ts.getD x.1 0]) := by
  obtain ⟨a, b, r'⟩ := x
  subst h
  rfl
/-- an order in which wires without registers lead on -/
def OrdG (gs : List Gt) (ws : List Wr) (os : List Nat) : Prop := os.Perm (List.range gs.length) ∧ ∀ x ∈ ws, x.2.2 = [] → os.idxOf x.1 < os.idxOf x.2.1
theorem OrdG.like {gs : List Gt} {ws us : List Wr} {os : List Nat} (h : OrdG gs ws os) (a : All2 LikeW ws us) : OrdG gs us os := by
  refine ⟨h.1, fun y hy h0 => ?_⟩
  obtain ⟨i, hi⟩ := List.getElem?_of_mem hy
  obtain ⟨x, hx, h1, h2, h3⟩ := a.getR hi
  rw [← h1, ← h2]
  refine h.2 x (List.mem_of_getElem? hx) (List.length_eq_zero_iff.mp ?_)
  rw [h3, h0]
  rfl
def spTold (K : PySem.W.Frag) : Sp := fun vs H Q _ => ∃ (lg lw lo lr : Addr) (gs : List Gt) (ws : List Wr) (os : List Nat) (rss : List (List Int)), vs = [.ref lg, .ref lw, .ref lo, .ref lr] ∧ LG K H lg gs ∧ LW K H lw ws ∧ NetOk gs ws ∧ SqL K H lo (os.map fun i => V.int (i : Nat)) ∧ OrdG gs ws os ∧ RR K H lr rss ∧ (∀ rs ∈ rss, RowOk gs rs) ∧ rss.length ≤ 200 ∧
  ∀ t lw' lo' H' tss we as, Same H H' → Run gs ws rss tss we → LW K H' lw' we → LL H H' lo' (tss.map (outsOf gs)) as → H' t = some (.tup [.ref lw', .ref lo']) → Q (.ref t) H'
section
variable {P : Program} {w : World} {K : PySem.W.Frag} {mg : Str → Option Value} {base : Heap}
abbrev nLTold : List Str := ["_law_gates", "_law_wires", "_law_order", "_law_rows", "_law_outs", "_law_row", "_law_told_here", "_law_left", "_law_k", "_law_start", "_law_end", "_law_regs", "_law_some"]
theorem scLTold : FnScope nLTold ["_law_gates", "_law_wires", "_law_order", "_law_rows"] (defScope sLTold) := ⟨rfl, rfl, rfl, by decide +kernel, rfl, by decide +kernel, by decide +kernel⟩
abbrev DLTold (P : Program) (w : World) (K : PySem.W.Frag) (mg : Str → Option Value) (base : Heap) := Df P w K mg base 2 "_law_told" ["_law_gates", "_law_wires", "_law_order", "_law_rows"] (spTold K)
theorem ok_ltold {f fM : Addr} {fd fdM : FuncData} (F : Fun K "_law_told" "_law_told" sLTold f fd) (hm : mg "_law_told" = some (.ref f)) (B : Bt mg) (DMd : DLMade P w K mg base fM fdM) : DLTold P w K mg base f fd := by
  refine ⟨?_, hm, F.kp, F.binds fun _ _ _ _ _ _ us hl => match us, hl with | [_, _, _, _], _ => rfl⟩
  refine F.ok scLTold (fun vs H Q E h => ?_) (fun cdv A outer s H vs Q E hr h => ?_)
  · obtain ⟨lg, lw, lo, lr, gs, ws, os, rss, rfl, _⟩ := h
    rfl
  · obtain ⟨lg, lw, lo, lr, gs, ws, os, rss, rfl, LG0, LW0, N, so, hO, R, hro, hrl, q⟩ := h
    have nd := scLTold.nd
    have hr1 : Room 1 _ := hr.mono (by decide)
    refine ⟨_, pss_cons (ps_set (i := 4) nd rfl (.inl rfl) (pe_lst pa_nil)) <|
        pss_cons (ps_for PassesOwn.never rfl (pi_list (pv 3)) (pg_name (i := 5) nd rfl (.inl rfl)) (pss_cons (ps_set (i := 6) nd rfl (.inr rfl) pe_dnewK) <|
        pss_cons (ps_set (i := 7) nd rfl (.inl rfl) (pe_callTy call_list_of (by rfl) B.list (by decide +kernel) (pa_cons (pv 5) pa_nil))) <|
        pss_cons (ps_for PassesOwn.never rfl (pi_range1 (by rfl) B.range (pa_cons (pe_callB call_len_seq (by rfl) B.len PySem.boot_len (pa_cons (pv 0) pa_nil)) pa_nil)) (pg_name (i := 8) nd rfl (.inr rfl)) (pss_one (ps_if (pt_cmpR op_eq (pe_ix ix_tup (pe_ix ix_list (pv 0) (pv 8) (fun _ _ => rfl)) pe_int (fun _ _ => rfl)) pe_str (nomark _)) (pss_one (ps_dput (hu_of hr) (pv 6) (pv 8) (pe_bm PySem.F.plainAttrs_list PySem.F.slot_list_pop PySem.F.type_list_pop mt_popAt (pv 7) (pa_cons pe_int pa_nil)) rfl)) pss_nil))) <|
        pss_cons (ps_for PassesOwn.never rfl (pi_list (pv 2)) (pg_name (i := 8) nd rfl (.inr rfl)) (pss_one (ps_if (pt_cmpR op_ne (pe_ix ix_tup (pe_ix ix_list (pv 0) (pv 8) (fun _ _ => rfl)) pe_int (fun _ _ => rfl)) pe_str (nomark _)) (pss_cons (ps_setLc (i := 12) (own := [("_law_start", 9), ("_law_end", 10), ("_law_regs", 11)]) (g := (gTup K 3 (gCons (gName 9) (gCons (gName 10) (gCons (gName 11) gNil))))) (tt := (tTest (tOp rEq (tVar 10) (tVar 8)))) (te := (tOp (rIxT K) (tOp (rCatA K) (tVar 11) (tTup (tCons (tDGet2 (tVar 6) (tVar 9) (tC (.int 0))) tNil))) (tC (.int 0)))) rfl nd rfl rfl (sw_true rfl rfl rfl (by decide +kernel)) (pi_list (pv 1)) (blkOk_by (N := nLTold) (sc := defScope sLTold) (own := [("_law_start", 9), ("_law_end", 10), ("_law_regs", 11)]) (by decide +kernel)) (fun _ _ _ _ _ => (pg_tup rfl (pgs_cons (pg_name (i := 9) nd rfl (.inl rfl)) (pgs_cons (pg_name (i := 10) nd rfl (.inl rfl)) (pgs_cons (pg_name (i := 11) nd rfl (.inl rfl)) pgs_nil))))) (fun _ _ _ _ _ => pts_one (pt_cmpR op_eq (pv 10) (pv 8) (nomark _))) (fun _ _ _ _ _ => (pe_ix ix_tup (pe_op op_catA (pv 11) (pe_tup (pa_cons (pe_dget2 (hu_of hr) (pv 6) (pv 9) pe_int ⟨rfl, rfl, rfl, rfl⟩) pa_nil))) pe_int (fun _ _ => rfl)))) <|
        pss_one (ps_dput (hu_of hr) (pv 6) (pv 8) (pe_call DMd.ok hr1 (by rfl) DMd.mg DMd.kp DMd.bd .nil pass0 (pa_cons (pe_ix ix_tup (pe_ix ix_list (pv 0) (pv 8) (fun _ _ => rfl)) pe_int (fun _ _ => rfl)) (pa_cons (pv 12) pa_nil))) rfl)) pss_nil))) <|
        pss_cons (ps_setLc (i := 1) (own := [("_law_start", 9), ("_law_end", 10), ("_law_regs", 11)]) (g := (gTup K 3 (gCons (gName 9) (gCons (gName 10) (gCons (gName 11) gNil))))) (tt := tYes) (te := (tTup (tCons (tVar 9) (tCons (tVar 10) (tCons (tIf (tTest (tOp (rNeD K) (tVar 11) (tTup tNil))) (tSl (rSlA K) (tOp (rCatA K) (tVar 11) (tTup (tCons (tDGet (tVar 6) (tVar 9)) tNil))) (tPart (tC (.int 1))) tNoPart) (tTup tNil)) tNil))))) rfl nd rfl rfl (sw_true rfl rfl rfl (by decide +kernel)) (pi_list (pv 1)) (blkOk_by (N := nLTold) (sc := defScope sLTold) (own := [("_law_start", 9), ("_law_end", 10), ("_law_regs", 11)]) (by decide +kernel)) (fun _ _ _ _ _ => (pg_tup rfl (pgs_cons (pg_name (i := 9) nd rfl (.inl rfl)) (pgs_cons (pg_name (i := 10) nd rfl (.inl rfl)) (pgs_cons (pg_name (i := 11) nd rfl (.inl rfl)) pgs_nil))))) (fun _ _ _ _ _ => pts_nil) (fun _ _ _ _ _ => (pe_tup (pa_cons (pv 9) (pa_cons (pv 10) (pa_cons (pe_ifExp (pt_cmpR (op_neD hr.units) (pv 11) (pe_tup pa_nil) (nomark _)) (pe_slice sl_tupA (pe_op op_catA (pv 11) (pe_tup (pa_cons (pe_dget (hu_of hr) (pv 6) (pv 9) (fun _ _ => rfl)) pa_nil))) (po_some pe_int) po_none) (pe_tup pa_nil)) pa_nil)))))) <|
        pss_one (ps_expr (pe_bm PySem.F.plainAttrs_list PySem.F.slot_list_append PySem.F.type_list_append mt_append (pv 4) (pa_cons (pe_lc (own := [("_law_k", 8)]) (g := (gName 8)) (tt := (tTest (tOp rEq (tOp (rIxT K) (tOp (rIxL K) (tVar 0) (tVar 8)) (tC (.int 0))) (tC (.str "out"))))) (te := (tDGet (tVar 6) (tVar 8))) rfl nd (pi_range1 (by rfl) B.range (pa_cons (pe_callB call_len_seq (by rfl) B.len PySem.boot_len (pa_cons (pv 0) pa_nil)) pa_nil)) (blkOk_by (N := nLTold) (sc := defScope sLTold) (own := [("_law_k", 8)]) (by decide +kernel)) (fun _ _ _ _ _ => (pg_name (i := 8) nd rfl (.inl rfl))) (fun _ _ _ _ _ => pts_one (pt_cmpR op_eq (pe_ix ix_tup (pe_ix ix_list (pv 0) (pv 8) (fun _ _ => rfl)) pe_int (fun _ _ => rfl)) pe_str (nomark _))) (fun _ _ _ _ _ => (pe_dget (hu_of hr) (pv 6) (pv 8) (fun _ _ => rfl)))) pa_nil))))) <|
        pss_one (ps_ret (pe_tup (pa_cons (pv 1) (pa_cons (pv 4) pa_nil)))), ?_⟩
    have hgl := N.gl
    obtain ⟨rv, sr, ra⟩ := R
    have hrv : rv.length = rss.length := ra.1
    obtain ⟨gv, hgv, ga⟩ := id LG0
    have hlg : gv.length = gs.length := ga.1
    have hol : os.length = gs.length := by rw [hO.1.length_eq, List.length_range]
    have ond : os.Nodup := hO.1.nodup_iff.mpr List.nodup_range
    have omem : ∀ g, g < gs.length → g ∈ os := fun g hg => hO.1.mem_iff.mpr (List.mem_range.mpr hg)
    have omb : ∀ g, g ∈ os → g < gs.length := fun g hg => List.mem_range.mp (hO.1.mem_iff.mp hg)
    refine ⟨(by show 0 ≤ sizeLine; decide), fun lO hlO => ?_⟩
    have s1 : Same H (upd H lO (.lst [])) := same_new hlO
    have L1 : LL H (upd H lO (.lst [])) lO [] [] := ⟨upd_same, All2.nil, (fun a h => by simp at h), List.nodup_nil, (by simp), hlO⟩
    generalize upd H lO (.lst []) = H1 at s1 L1
    refine gn_norm (σ' := [some (.ref lg), some (.ref lw), some (.ref lo), some (.ref lr), some (.ref lO), none, none, none, none, none, none, none, none]) rfl ?_
    have nlw0 : lw ≠ lO := by
      obtain ⟨wv, hwv, _⟩ := id LW0
      exact ne_of_none hwv hlO
    refine ⟨_, rfl, lr, rfl, ⟨_, s1.seq sr⟩, for_list (K := K) (a := lr) (xs := rv) (fun i σ Hc => ∃ (s5 s6 s7 s8 s12 : Option V) (lwi : Addr) (tss : List (List Int)) (wsi : List Wr) (as : List Addr), σ = [some (.ref lg), some (.ref lwi), some (.ref lo), some (.ref lr), some (.ref lO), s5, s6, s7, s8, none, none, none, s12] ∧ Run gs ws (rss.take i) tss wsi ∧ LW K Hc lwi wsi ∧ lwi ≠ lO ∧ LL H Hc lO (tss.map (outsOf gs)) as ∧ Same H Hc)
      ⟨_, _, _, _, _, lw, [], ws, [], rfl, ⟨rfl, rfl⟩, LW0.same s1, nlw0, L1, s1⟩ (fun i σ Hc _ ⟨_, _, _, _, _, _, _, _, _, _, _, _, _, _, sm⟩ => sm.seq sr) ?_ ?_⟩
    · rintro i v σ Hc hv ⟨s5, s6, s7, s8, s12, lwi, tss, wsi, as, rfl, run, LWc, nlo, LLc, sm⟩
      obtain ⟨rs, hrs, ar, rfl, sar⟩ := ra.get hv
      have hi : i < rss.length := (List.getElem?_eq_some_iff.mp hrs).1
      obtain ⟨hl, hw⟩ := hro rs (List.mem_of_getElem? hrs)
      have Ni : NetOk gs wsi := Run.ok N run
      have hwl := Ni.wl
      have Oi : OrdG gs wsi os := hO.like run.like
      have htl : (rss.take i).length = i := by rw [List.length_take]; omega
      have hal : as.length = i := by rw [LLc.al.1, List.length_map, run.len, htl]
      obtain ⟨wv, hwv, wa⟩ := id LWc
      have hlw : wv.length = wsi.length := wa.1
      refine gn_norm (σ' := [some (.ref lg), some (.ref lwi), some (.ref lo), some (.ref lr), some (.ref lO), some (.ref ar), s6, s7, s8, none, none, none, s12]) rfl ?_
      intro D hD
      have sD : Same Hc (upd Hc D (.dK [])) := same_new hD
      have eD : KD (upd Hc D (.dK [])) D (fun _ => none) 0 := ⟨[], upd_same, Nat.le_refl _, fun g => valV_nil⟩
      have eD0 : (upd Hc D (.dK [])) D = some (.dK []) := upd_same
      generalize upd Hc D (.dK []) = Hd at sD eD eD0
      refine gn_norm (σ' := [some (.ref lg), some (.ref lwi), some (.ref lo), some (.ref lr), some (.ref lO), some (.ref ar), some (.ref D), s7, s8, none, none, none, s12]) rfl ?_
      refine ⟨_, rfl, ar, _, rfl, .inl ((sm.trans sD).seq sar), fun L hL => ?_⟩
      have nDL : D ≠ L := fun z => by
        rw [← z, eD0] at hL
        cases hL
      have hL0 : Hc L = none := sD.free hL
      have sL : Same Hd (upd Hd L (.lst (rs.map V.int))) := same_new hL
      have eL : (upd Hd L (.lst (rs.map V.int))) L = some (.lst (rs.map V.int)) := upd_same
      have eD2 := eD.same sL
      have s2 := sD.trans sL
      generalize upd Hd L (.lst (rs.map V.int)) = He at sL eL eD2 s2
      refine gn_norm (σ' := [some (.ref lg), some (.ref lwi), some (.ref lo), some (.ref lr), some (.ref lO), some (.ref ar), some (.ref D), some (.ref L), s8, none, none, none, s12]) rfl ?_
      -- the inputs
      refine ⟨_, rfl, lg, _, rfl, .inl (SqL.of ((sm.trans s2) _ _ hgv)), _, rfl, by omega, by omega, ?_⟩
      rw [Int.toNat_natCast, hlg]
      refine for_range (lo := 0) (n := gs.length) (fun j σ H' => ∃ (s8 : Option V) (kn : Nat → Option Int), σ = [some (.ref lg), some (.ref lwi), some (.ref lo), some (.ref lr), some (.ref lO), some (.ref ar), some (.ref D), some (.ref L), s8, none, none, none, s12] ∧
          KD H' D kn j ∧ H' L = some (.lst ((rs.drop (plc gs "in" j).length).map V.int)) ∧ Same Hc H' ∧ (∀ (u g : Nat) (r : Int), (plc gs "in" j)[u]? = some g → rs[u]? = some r → kn g = some r) ∧ (∀ (g : Nat) (z : Int), kn g = some z → g < j ∧ kindAt gs g = "in" ∧ 0 ≤ z ∧ z ≤ 96) ∧ (∀ g, g < j → kindAt gs g = "in" → (kn g).isSome = true))
        ⟨_, fun _ => none, rfl, eD2, eL, s2, fun j g r h => (by simp [plc] at h), fun g z h => (by cases h), fun g h => (by omega)⟩ ?_ ?_
      · rintro j σ H3 hj ⟨s8', kn, rfl, kd, hLL, smH, kput, kbd, kis⟩
        obtain ⟨gt, hgt⟩ : ∃ g, gs[j]? = some g := ⟨_, List.getElem?_eq_getElem hj⟩
        obtain ⟨v2, hv2, gA, rfl, sqg⟩ := ga.getR hgt
        have hkk : kindAt gs j = gt.1 := kindAt_get hgt
        have ej : (0 : Int) + (j : Nat) = ((j : Nat) : Int) := Int.zero_add _
        rw [ej]
        refine gn_norm (σ' := [some (.ref lg), some (.ref lwi), some (.ref lo), some (.ref lr), some (.ref lO), some (.ref ar), some (.ref D), some (.ref L), some (.int (j : Nat)), none, none, none, s12]) rfl ?_
        refine ⟨_, rfl, _, rfl, lg, gv, _, _, rfl, rfl, SqL.of ((sm.trans smH) _ _ hgv), atI_nat hv2, gA, _, 0, _, rfl, rfl, (TK.same (sm.trans smH)).seq sqg, atI_nat (j := 0) rfl, rfl, _, rfl, ite2 (fun e => ?_) (fun e => ?_)⟩
        · have hk : kindAt gs j = "in" := by
            rw [hkk]
            exact V.str.inj (of_decide_eq_true e)
          have hpl : (plc gs "in" j).length < rs.length := by
            rw [hl]
            have := plc_mono (gs := gs) (k := "in") (i := j + 1) (n := gs.length) (by omega)
            rw [plc_succ, if_pos hk, List.length_append] at this
            simp at this
            omega
          have hLT := hLL
          rw [List.drop_eq_getElem_cons hpl] at hLT
          have hz := hw _ (List.getElem_mem hpl)
          refine ⟨_, rfl, .inl ⟨rfl, _, SqL.of hLT⟩, L, _, 0, 0, .int (rs[(plc gs "in" j).length]'hpl), rfl, rfl, hLT, by omega, by omega, PySem.seqIndex_of (by decide) (by simp; omega), rfl, ?_⟩
          have kd5 : KD (upd H3 L (.lst ((rs.drop ((plc gs "in" j).length + 1)).map V.int))) D kn j := kd.ne nDL
          obtain ⟨o, dp, kd6⟩ := kd5.put (small20k (by omega)) j (rs[(plc gs "in" j).length]'hpl)
          refine ⟨_, rfl, _, rfl, D, _, rfl, dp, _, knSet kn j (rs[(plc gs "in" j).length]'hpl), rfl, kd6, ?_, same_mut (same_mut smH hL0) hD, fun u g r h1 h2 => ?_, fun g z hz' => ?_, fun g hg hkg => ?_⟩
          · rw [upd_ne nDL.symm, upd_same, plc_succ, if_pos hk, List.length_append]
            rfl
          · rw [plc_succ, if_pos hk] at h1
            by_cases hu : u < (plc gs "in" j).length
            · rw [List.getElem?_append_left hu] at h1
              have hold := kput u g r h1 h2
              have hgi := (kbd g r hold).1
              unfold knSet
              rw [if_neg (by omega)]
              exact hold
            · rw [List.getElem?_append_right (by omega)] at h1
              cases eu : u - (plc gs "in" j).length with
              | zero =>
                rw [eu] at h1
                simp at h1
                have hj2 : u = (plc gs "in" j).length := by omega
                subst hj2
                rw [List.getElem?_eq_getElem hpl] at h2
                cases h2
                unfold knSet
                rw [if_pos h1.symm]
              | succ n =>
                rw [eu] at h1
                simp at h1
          · unfold knSet at hz'
            by_cases hg : g = j
            · rw [if_pos hg] at hz'
              cases hz'
              rw [hg]
              exact ⟨by omega, hk, hz⟩
            · rw [if_neg hg] at hz'
              have := kbd g z hz'
              exact ⟨by omega, this.2⟩
          · unfold knSet
            by_cases hgj : g = j
            · rw [if_pos hgj]
              rfl
            · rw [if_neg hgj]
              exact kis g (by omega) hkg
        · have hk : ¬ kindAt gs j = "in" := fun z => e (decide_eq_true (by rw [← hkk, z]))
          refine ⟨_, kn, rfl, kd.le (by omega), ?_, smH, fun u g r h1 h2 => ?_, fun g z hz' => ⟨by have := (kbd g z hz').1; omega, (kbd g z hz').2⟩, fun g hg hkg => ?_⟩
          · rw [plc_succ, if_neg hk]
            exact hLL
          · rw [plc_succ, if_neg hk] at h1
            exact kput u g r h1 h2
          · by_cases hgj : g = j
            · exact absurd (by rw [← hgj]; exact hkg) hk
            · exact kis g (by omega) hkg
      rintro σ H3 ⟨s8', kn0, rfl, kd0, hLL, sm3, kput, kbd, kis0⟩
      have kn0ok : KN gs wsi rs kn0 := ⟨kput, fun g z h => ⟨(kbd g z h).1, (kbd g z h).2.2⟩, fun g z h hk => absurd (kbd g z h).2.1 hk⟩
      -- the others, in order
      refine ⟨_, rfl, lo, rfl, ⟨_, (sm.trans sm3).seq so⟩, for_list (K := K) (a := lo) (xs := os.map fun i => V.int (i : Nat)) (fun j σ H' => ∃ (s8 s12 : Option V) (kn : Nat → Option Int), σ = [some (.ref lg), some (.ref lwi), some (.ref lo), some (.ref lr), some (.ref lO), some (.ref ar), some (.ref D), some (.ref L), s8, none, none, none, s12] ∧
          KD H' D kn (100 + j) ∧ Same Hc H' ∧ KN gs wsi rs kn ∧ (∀ g, g < gs.length → kindAt gs g = "in" → (kn g).isSome = true) ∧ (∀ g ∈ os.take j, (kn g).isSome = true) ∧ (∀ g z, kn g = some z → kindAt gs g = "in" ∨ g ∈ os.take j))
        ⟨_, _, kn0, rfl, kd0.le (by omega), sm3, kn0ok, kis0, fun g h => by simp at h, fun g z h => .inl (kbd g z h).2.1⟩ (fun i σ H' _ ⟨_, _, _, _, _, sm', _⟩ => (sm.trans sm').seq so) ?_ ?_⟩
      · clear kd0 hLL sm3 kput kbd kis0 kn0ok kn0
        rintro j x σ H4 hx ⟨s8', s12', kn, rfl, kd, sm4, kno, kin, kall, kfrom⟩
        rw [List.getElem?_map] at hx
        cases ek : os[j]? with
        | none =>
          rw [ek] at hx
          cases hx
        | some k =>
        rw [ek] at hx
        cases hx
        have hjl : j < os.length := (List.getElem?_eq_some_iff.mp ek).1
        have hkl : k < gs.length := omb k (List.mem_of_getElem? ek)
        have hix : os.idxOf k = j := by
          obtain ⟨h1, h2⟩ := List.getElem?_eq_some_iff.mp ek
          rw [← h2]
          exact List.Nodup.idxOf_getElem ond j h1
        have etk : os.take (j + 1) = os.take j ++ [k] := by rw [List.take_add_one, ek]; rfl
        obtain ⟨gt, hgt⟩ : ∃ g, gs[k]? = some g := ⟨_, List.getElem?_eq_getElem hkl⟩
        obtain ⟨v2, hv2, gA, rfl, sqg⟩ := ga.getR hgt
        have hkk : kindAt gs k = gt.1 := kindAt_get hgt
        have ss := sm.trans sm4
        refine gn_norm (σ' := [some (.ref lg), some (.ref lwi), some (.ref lo), some (.ref lr), some (.ref lO), some (.ref ar), some (.ref D), some (.ref L), some (.int (k : Nat)), none, none, none, s12']) rfl ?_
        refine ⟨_, rfl, _, rfl, lg, gv, _, _, rfl, rfl, SqL.of (ss _ _ hgv), atI_nat hv2, gA, _, 0, .str gt.1, rfl, rfl, (TK.same ss).seq sqg, atI_nat (j := 0) rfl, rfl, _, rfl, ite2 (fun e => ?_) (fun e => ?_)⟩
        · have hki : kindAt gs k ≠ "in" := by
            rw [hkk]
            intro z
            rw [z] at e
            simp at e
          have hn : kn k = none := by
            cases hq : kn k with
            | none => rfl
            | some z =>
              exfalso
              rcases kfrom k z hq with h | h
              · exact hki h
              · obtain ⟨u, hu⟩ := List.getElem?_of_mem h
                rw [List.getElem?_take] at hu
                split at hu
                · obtain ⟨h1, h2⟩ := List.getElem?_eq_some_iff.mp hu
                  have := List.Nodup.idxOf_getElem ond u h1
                  rw [h2, hix] at this
                  omega
                · cases hu
          have hb : ∀ x ∈ wsi, x.2.1 = k → x.2.2 = [] → (kn x.1).isSome = true := fun x hx h1 h2 => by
            have h3 := Oi.2 x hx h2
            rw [h1, hix] at h3
            refine kall x.1 ?_
            have hm := omem x.1 (Ni.wok x hx).s
            have h4 : os[os.idxOf x.1]? = some x.1 := by
              rw [List.getElem?_eq_getElem (List.idxOf_lt_length_iff.mpr hm), List.getElem_idxOf]
            refine List.mem_of_getElem? (i := os.idxOf x.1) ?_
            rw [List.getElem?_take, if_pos h3]
            exact h4
          refine ⟨_, rfl, lwi, rfl, ⟨_, SqL.of (sm4 _ _ hwv)⟩, fun S hS => ?_⟩
          refine lc_list (K := K) (a := lwi) (xs := wv) (fun u Hq => Hq S = some (.lst ((((wsi.take u).filter fun x => x.2.1 == k).map (wk kn)).map V.int)) ∧ Same H4 Hq) ⟨upd_same, same_new hS⟩ (fun u Hq _ ⟨_, smc⟩ => SqL.of (smc _ _ (sm4 _ _ hwv))) ?_ ?_
          · rintro u v Hq hv ⟨hacc, smc⟩
            obtain ⟨x, hx, a, b, rfl, sq1, sq2⟩ := wa.get hv
            have hu : u < wsi.length := (List.getElem?_eq_some_iff.mp hx).1
            have W := Ni.wok x (List.mem_of_getElem? hx)
            have hrl' := W.rl
            have sc := sm4.trans smc
            have tc : TK Hc Hq := TK.same sc
            refine ⟨a, _, rfl, tc.seq sq1, rfl, _, _, rfl, _, _, rfl, _, _, rfl, rfl, rfl, ?_⟩
            refine ⟨_, rfl, _, rfl, rfl, _, rfl, ite2 (fun e => ?_) (fun e => ?_)⟩
            · have hg : (x.2.1 == k) = true := by
                have := V.int.inj (of_decide_eq_true e)
                simp
                omega
              refine ⟨_, rfl, _, rfl, D, rfl, (kd.same smc).isD, _, rfl, _, (kd.same smc).get x.1, ?_⟩
              rw [getD_int]
              refine ⟨(by show 1 ≤ sizeLine; decide), fun t1 ht1 => ?_⟩
              have st1 : Same Hq (upd Hq t1 (.tup [.int ((kn x.1).getD 0)])) := same_new ht1
              have hlen : ((((wsi.take u).filter fun x => x.2.1 == k).map (wk kn)).map V.int).length ≤ 1000 := by
                rw [List.length_map, List.length_map]
                have := List.length_filter_le (fun x : Wr => x.2.1 == k) (wsi.take u)
                rw [List.length_take] at this
                omega
              have push : ∀ {H9 : Hp} {z : Int}, Same Hq H9 → z = wk kn x → ∃ acc, H9 S = some (.lst acc) ∧ acc.length < sizeLine ∧ (upd H9 S (.lst (acc ++ [.int z]))) S = some (.lst ((((wsi.take (u + 1)).filter fun x => x.2.1 == k).map (wk kn)).map V.int)) ∧ Same H4 (upd H9 S (.lst (acc ++ [.int z]))) := fun {H9 z} s9 hz => by
                refine ⟨_, s9 _ _ hacc, small1000 hlen, ?_, same_mut (smc.trans s9) hS⟩
                rw [upd_same, filter_take hx, if_pos hg, List.map_append, List.map_append, hz]
                rfl
              refine ⟨b, t1, x.2.2.map V.int, [.int ((kn x.1).getD 0)], rfl, rfl, (TK.same (sc.trans st1)).seq sq2, .inl (.inl upd_same), ?_, fun z => ?_, (fun _ z => by cases z), fun z _ c hc => ?_⟩
              · rw [List.length_map]
                show _ + 1 ≤ sizeLine
                exact Nat.le_of_lt (small1000 (by omega))
              · have ez : x.2.2 = [] := List.map_eq_nil_iff.mp z
                refine ⟨t1, _, 0, .int ((kn x.1).getD 0), rfl, rfl, .inl (.inl upd_same), atI_nat (j := 0) rfl, push st1 ?_⟩
                unfold wk
                rw [ez]
              · cases ex : x.2.2 with
                | nil => exact absurd (by rw [ex]; rfl) z
                | cons r l =>
                  refine ⟨c, _, 0, .int r, rfl, rfl, .inl (.inl upd_same), atI_nat (j := 0) rfl, push (st1.trans (same_new hc)) ?_⟩
                  unfold wk
                  rw [ex]
            · have hg : ¬ (x.2.1 == k) = true := fun z => e (decide_eq_true (by
                have z' : x.2.1 = k := by simpa using z
                rw [z']))
              refine ⟨?_, smc⟩
              rw [filter_take hx, if_neg hg]
              exact hacc
          rintro H9 ⟨hM9, sm9⟩
          rw [hlw, List.take_length] at hM9
          have kGT := Ni.gok gt (List.mem_of_getElem? hgt)
          have ss9 := ss.trans sm9
          refine gn_norm (σ' := [some (.ref lg), some (.ref lwi), some (.ref lo), some (.ref lr), some (.ref lO), some (.ref ar), some (.ref D), some (.ref L), some (.int (k : Nat)), none, none, none, some (.ref S)]) rfl ?_
          refine ⟨_, rfl, _, rfl, lg, gv, _, _, rfl, rfl, SqL.of (ss9 _ _ hgv), atI_nat hv2, gA, _, 0, .str gt.1, rfl, rfl, (TK.same ss9).seq sqg, atI_nat (j := 0) rfl, _, rfl, gt.1, S, cmk wsi kn k, rfl, SqL.of hM9, cmk_bound Ni kno k, fun z => cmk_ne Ni hkl (by rw [hkk]; exact z), kinds_or kGT.1 (by rw [← hkk]; exact hki), ?_⟩
          obtain ⟨o, dp, kd11⟩ := (kd.same sm9).put (small20k (by omega)) k (kindVal gt.1 (cmk wsi kn k))
          refine ⟨_, rfl, _, rfl, D, _, rfl, dp, _, _, knSet kn k (kindVal gt.1 (cmk wsi kn k)), rfl, kd11, same_mut (sm4.trans sm9) hD, ?_, fun g hg hkg => ?_, fun g hg => ?_, fun g z hz => ?_⟩
          · have := kno.step Ni hl hkl hn hb
            rw [hkk] at this
            exact this
          · unfold knSet
            split
            · rfl
            · exact kin g hg hkg
          · rw [etk] at hg
            unfold knSet
            split
            · rfl
            · rename_i hne
              rcases List.mem_append.mp hg with hg | hg
              · exact kall g hg
              · exact absurd (List.mem_singleton.mp hg) hne
          · unfold knSet at hz
            rw [etk]
            by_cases hgk : g = k
            · exact .inr (List.mem_append.mpr (.inr (List.mem_singleton.mpr hgk)))
            · rw [if_neg hgk] at hz
              rcases kfrom g z hz with h | h
              · exact .inl h
              · exact .inr (List.mem_append.mpr (.inl h))
        · have hki : kindAt gs k = "in" := by
            rw [hkk]
            simpa using e
          refine ⟨_, _, kn, rfl, kd.le (by omega), sm4, kno, kin, fun g hg => ?_, fun g z hz => ?_⟩
          · rw [etk] at hg
            rcases List.mem_append.mp hg with hg | hg
            · exact kall g hg
            · rw [List.mem_singleton.mp hg]
              exact kin k hkl hki
          · rcases kfrom g z hz with h | h
            · exact .inl h
            · rw [etk]
              exact .inr (List.mem_append.mpr (.inl h))
      clear kd0 hLL sm3 kput kbd kis0 kn0ok kn0 eD eD0 eD2 eL hL sL s2 sD
      rintro σ H4 ⟨s8', s12', kn, rfl, kd, sm4, kno, kin, kall, _⟩
      rw [List.length_map, List.take_length] at kall
      have all : ∀ g, g < gs.length → (kn g).isSome = true := fun g hg => kall g (omem g hg)
      obtain ⟨iw, wt⟩ := kno.isW Ni all
      have hval : ∀ g, g < gs.length → ∃ z, kn g = some z ∧ (knL kn gs.length).getD g 0 = z := fun g hg => by
        obtain ⟨z, hz⟩ := Option.isSome_iff_exists.mp (all g hg)
        exact ⟨z, hz, by rw [knL_get hg, hz]; rfl⟩
      generalize knL kn gs.length = ts at iw wt hval
      -- the wires behind
      refine ⟨_, rfl, lwi, rfl, ⟨_, SqL.of (sm4 _ _ hwv)⟩, fun lf hlf => ?_⟩
      have hlfH : H lf = none := (sm.trans sm4).free hlf
      have hlfc : Hc lf = none := sm4.free hlf
      refine lc_list (K := K) (a := lwi) (xs := wv) (fun u Hq => ∃ acc : List V, Hq lf = some (.lst acc) ∧ All2 (WireV K Hq) acc ((wsi.map (bh ts)).take u) ∧ acc.length = u ∧ Same H4 Hq) ⟨[], upd_same, All2.nil, rfl, same_new hlf⟩ (fun u Hq _ ⟨_, _, _, _, smc⟩ => SqL.of (smc _ _ (sm4 _ _ hwv))) ?_ ?_
      · rintro u v Hq hv ⟨acc, hc, aa, haccl, smc⟩
        obtain ⟨x, hx, a, b, rfl, sq1, sq2⟩ := wa.get hv
        have hu : u < wsi.length := (List.getElem?_eq_some_iff.mp hx).1
        have W := Ni.wok x (List.mem_of_getElem? hx)
        have hrl' := W.rl
        have tk : TK Hc Hq := TK.same (sm4.trans smc)
        have hbx : (wsi.map (bh ts))[u]? = some (bh ts x) := by rw [List.getElem?_map, hx]; rfl
        refine ⟨a, _, rfl, tk.seq sq1, rfl, _, _, rfl, _, _, rfl, _, _, rfl, rfl, rfl, tyes ?_⟩
        refine ⟨_, rfl, _, rfl, _, rfl, (by show 0 ≤ sizeLine; decide), fun l2 hl2 => ?_⟩
        have s2 : Same Hq (upd Hq l2 (.tup [])) := same_new hl2
        have e2 : SqT K (upd Hq l2 (.tup [])) l2 (([] : List Int).map V.int) := .inl (.inl upd_same)
        generalize upd Hq l2 (.tup []) = H2 at s2 e2
        have sq2' := (TK.same s2).seq (tk.seq sq2)
        refine ⟨_, _, dp_tup sq2', dp_tup e2, Sh.ok (sh_tup _) (by decide), Sh.ok (sh_tup _) (by decide), _, rfl, ?_⟩
        rw [tupD_eq]
        cases er : x.2.2 with
        | nil =>
          refine iteF ⟨(by show 0 ≤ sizeLine; decide), fun l3 hl3 => ?_⟩
          have s3' := s2.trans (same_new (o := .tup []) hl3)
          have e3 : SqT K (upd H2 l3 (.tup [])) l3 (([] : List Int).map V.int) := .inl (.inl upd_same)
          generalize upd H2 l3 (.tup []) = H3 at s3' e3
          refine ⟨(by show 3 ≤ sizeLine; decide), fun l4 hl4 => ?_⟩
          have s4' := s3'.trans (same_new (o := .tup [.int x.1, .int x.2.1, .ref l3]) hl4)
          have w4 : WireV K (upd H3 l4 (.tup [.int x.1, .int x.2.1, .ref l3])) (.ref l4) (bh ts x) := by
            rw [bh_nil ts er]
            exact ⟨l4, l3, rfl, .inl (.inl upd_same), by rw [er]; exact (TK.new hl4).seq e3⟩
          generalize upd H3 l4 (.tup [.int x.1, .int x.2.1, .ref l3]) = H4' at s4' w4
          have hc4 := s4' _ _ hc
          have tl : TK H4' (upd H4' lf (.lst (acc ++ [.ref l4]))) := TK.lst hc4
          refine ⟨acc, hc4, small1000 (by omega), acc ++ [.ref l4], upd_same, ?_, by rw [List.length_append, haccl]; rfl, same_mut (smc.trans s4') hlf⟩
          rw [List.take_add_one, hbx]
          exact (aa.imp fun _ _ r => r.tk ((TK.same s4').trans tl)).snoc (w4.tk tl)
        | cons r l =>
          rw [er] at sq2'
          obtain ⟨z, hz, hzt⟩ := hval x.1 W.s
          have hgz := ((kd.same smc).same s2).get x.1
          rw [hz] at hgz
          refine iteT ⟨_, rfl, _, rfl, _, rfl, D, .int z, rfl, hgz, (by show 1 ≤ sizeLine; decide), fun l3 hl3 => ?_⟩
          have s3' := s2.trans (same_new (o := .tup [.int z]) hl3)
          have e3 : SqT K (upd H2 l3 (.tup [.int z])) l3 [.int z] := .inl (.inl upd_same)
          have sq3 := (TK.new (o := .tup [.int z]) hl3).seq sq2'
          generalize upd H2 l3 (.tup [.int z]) = H3 at s3' e3 sq3
          refine catA sq3 e3 ?_ fun c H4' s4 sc => ?_
          · rw [er] at hrl'
            rw [List.length_map]
            exact Nat.le_of_lt (small1000 (by show _ + 1 ≤ 1000; omega))
          refine ⟨_, rfl, slN sc fun c2 H5 s5' sc2 => ?_⟩
          have ec : cutV ((r :: l).map V.int ++ [.int z]) (some 1) none = (l ++ [ts.getD x.1 0]).map V.int := by
            rw [hzt]
            refine (cut_from (xs := (r :: l).map V.int ++ [.int z]) 1).trans ?_
            rw [List.map_append]
            rfl
          rw [ec] at sc2
          have s25 := (s3'.trans s4).trans s5'
          refine ⟨(by show 3 ≤ sizeLine; decide), fun l4 hl4 => ?_⟩
          have s4' := s25.trans (same_new (o := .tup [.int x.1, .int x.2.1, .ref c2]) hl4)
          have w4 : WireV K (upd H5 l4 (.tup [.int x.1, .int x.2.1, .ref c2])) (.ref l4) (bh ts x) := by
            rw [bh_cons ts er]
            exact ⟨l4, c2, rfl, .inl (.inl upd_same), (TK.new hl4).seq sc2⟩
          generalize upd H5 l4 (.tup [.int x.1, .int x.2.1, .ref c2]) = H6 at s4' w4
          have hc4 := s4' _ _ hc
          have tl : TK H6 (upd H6 lf (.lst (acc ++ [.ref l4]))) := TK.lst hc4
          refine ⟨acc, hc4, small1000 (by omega), acc ++ [.ref l4], upd_same, ?_, by rw [List.length_append, haccl]; rfl, same_mut (smc.trans s4') hlf⟩
          rw [List.take_add_one, hbx]
          exact (aa.imp fun _ _ r => r.tk ((TK.same s4').trans tl)).snoc (w4.tk tl)
      rintro H5 ⟨wv5, hwv5, wa5, _, sm5⟩
      rw [hlw, ← List.length_map (f := bh ts), List.take_length] at wa5
      refine gn_norm (σ' := [some (.ref lg), some (.ref lf), some (.ref lo), some (.ref lr), some (.ref lO), some (.ref ar), some (.ref D), some (.ref L), s8', none, none, none, s12']) rfl ?_
      have s45 := sm4.trans sm5
      have hgv5 := (sm.trans s45) _ _ hgv
      have elo := s45 _ _ LLc.at_
      have kd5 := kd.same sm5
      refine ⟨_, rfl, .inl ⟨rfl, _, SqL.of elo⟩, _, rfl, lg, _, rfl, .inl (SqL.of hgv5), _, rfl, by omega, by omega, fun D2 hD2 => ?_⟩
      rw [Int.toNat_natCast, hlg]
      refine lc_range (lo := 0) (n := gs.length) (fun j Hd => Hd D2 = some (.lst (((plc gs "out" j).map fun g => ts.getD g 0).map V.int)) ∧ Same H5 Hd) ⟨upd_same, same_new hD2⟩ ?_ ?_
      · rintro j Hd hj ⟨hd, smd⟩
        obtain ⟨g, hg⟩ : ∃ g, gs[j]? = some g := ⟨_, List.getElem?_eq_getElem hj⟩
        obtain ⟨v2, hv2, gA, rfl, sqg⟩ := ga.getR hg
        have hkk : kindAt gs j = g.1 := kindAt_get hg
        have ej : (0 : Int) + (j : Nat) = ((j : Nat) : Int) := Int.zero_add _
        rw [ej]
        have hpl := plc_len gs "out" j
        refine ⟨rfl, ?_⟩
        refine ⟨_, rfl, _, rfl, lg, gv, _, _, rfl, rfl, SqL.of (smd _ _ hgv5), atI_nat hv2, gA, _, 0, _, rfl, rfl, (TK.same ((sm.trans s45).trans smd)).seq sqg, atI_nat (j := 0) rfl, rfl, _, rfl, ite2 (fun e => ?_) (fun e => ?_)⟩
        · have hk : kindAt gs j = "out" := by
            rw [hkk]
            exact V.str.inj (of_decide_eq_true e)
          obtain ⟨z, hz, hzt⟩ := hval j hj
          have hgz := (kd5.same smd).get j
          rw [hz] at hgz
          refine ⟨_, rfl, _, rfl, D, .int z, rfl, hgz, _, hd, ?_, ?_, same_mut smd hD2⟩
          · rw [List.length_map, List.length_map]
            exact small1000 (by omega)
          · rw [upd_same, plc_succ, if_pos hk, List.map_append, List.map_append]
            simp only [List.map_cons, List.map_nil]
            rw [hzt]
        · have hk : ¬ kindAt gs j = "out" := fun z => e (decide_eq_true (by rw [← hkk, z]))
          exact ⟨by rw [plc_succ, if_neg hk]; exact hd, smd⟩
      rintro H6 ⟨hd6, s6'⟩
      have s14 := s45.trans s6'
      have smH6 := sm.trans s14
      have hD20 : H D2 = none := (sm.trans s45).free hD2
      have hD2c : Hc D2 = none := s45.free hD2
      have nl : lf ≠ lO := fun z => by
        rw [z, LLc.at_] at hlfc
        cases hlfc
      refine ⟨lO, _, _, rfl, rfl, s14 _ _ LLc.at_, ?_, _, _, _, _, _, lf, tss ++ [ts], wsi.map (bh ts), as ++ [D2], rfl, ?_, ?_, nl, ?_, same_mut smH6 hlO⟩
      · rw [List.length_map, hal]
        exact small1000 (by omega)
      · have := run.snoc iw wt
        rw [List.take_add_one, hrs]
        exact this
      · have tl : TK H6 (upd H6 lO (.lst (as.map V.ref ++ [.ref D2]))) := TK.lst (s14 _ _ LLc.at_)
        exact ⟨wv5, by rw [upd_ne nl]; exact s6' _ _ hwv5, wa5.imp fun _ _ r => r.tk ((TK.same s6').trans tl)⟩
      · rw [List.map_append]
        exact LLc.push (fun a o _ h => s14 _ _ h) hD2c hD20 hd6
    · rintro σ Hc ⟨s5, s6, s7, s8, s12, lwi, tss, wsi, as, rfl, run, LWc, nlo, LLc, sm⟩
      rw [hrv, List.take_length] at run
      refine ⟨_, rfl, _, rfl, (by show 2 ≤ sizeLine; decide), fun t ht => ?_⟩
      have st := same_new (o := .tup [.ref lwi, .ref lO]) ht
      exact q t lwi lO _ tss wsi as (sm.trans st) run (LWc.same st) (LLc.same st) upd_same
end
end Lag

set_option maxRecDepth 100000
set_option maxHeartbeats 8000000
namespace Lag
open PySem PySem.Spec PyProof.Rows L2
abbrev sLMixed : Stmt := topS 63 -- @_law_mixed
theorem range_cnt (gs : List Gt) (k : Str) : (List.range gs.length).countP (fun i => decide (kindAt gs i = k)) = gs.countP fun g => decide (g.1 = k) := by
  have e : gs = (List.range gs.length).map fun i => gs.getD i ("", 0) := by
    refine List.ext_getElem? fun i => ?_
    rw [List.getElem?_map]
    by_cases h : i < gs.length
    · rw [List.getElem?_range h, List.getElem?_eq_getElem h]
      show _ = some (gs.getD i ("", 0))
      rw [List.getD_eq_getElem?_getD, List.getElem?_eq_getElem h]
      rfl
    · rw [List.getElem?_eq_none (by omega), List.getElem?_eq_none (by rw [List.length_range]; omega)]
      rfl
  have h : gs.countP (fun g => decide (g.1 = k)) = ((List.range gs.length).map fun i => gs.getD i ("", 0)).countP (fun g => decide (g.1 = k)) := by rw [← e]
  rw [h, List.countP_map]
  rfl
theorem plc_cnt (gs : List Gt) (k : Str) : (plc gs k gs.length).length = gs.countP fun g => decide (g.1 = k) := by
  rw [← range_cnt]
  unfold plc
  rw [List.countP_eq_length_filter]
theorem plc_anew {gs : List Gt} {left : List Nat} (p : left.Perm (List.range gs.length)) (k : Str) : (plc (left.map fun k => gs.getD k ("", 0)) k (left.map fun k => gs.getD k ("", 0)).length).length = (plc gs k gs.length).length := by
  rw [plc_cnt, plc_cnt, List.countP_map, p.countP_eq]
  exact range_cnt gs k
theorem map_idx {left : List Nat} (nd : left.Nodup) : left.map (fun k => left.idxOf k) = List.range left.length := by
  refine List.ext_getElem? fun i => ?_
  rw [List.getElem?_map]
  by_cases h : i < left.length
  · rw [List.getElem?_range h, List.getElem?_eq_getElem h]
    show some (left.idxOf left[i]) = _
    rw [List.Nodup.idxOf_getElem nd i h]
  · rw [List.getElem?_eq_none (by omega), List.getElem?_eq_none (by rw [List.length_range]; omega)]
    rfl
theorem OrdG.anew {gs : List Gt} {ws : List Wr} {left : List Nat} (N : NetOk gs ws) (p : left.Perm (List.range gs.length)) (h : ∀ x ∈ ws, x.2.2 = [] → x.1 < x.2.1) :
    OrdG (left.map fun k => gs.getD k ("", 0)) (ws.map fun x => (left.idxOf x.1, left.idxOf x.2.1, x.2.2)) ((List.range gs.length).map fun k => left.idxOf k) := by
  have hl : left.length = gs.length := by rw [p.length_eq, List.length_range]
  have nd : left.Nodup := p.nodup_iff.mpr List.nodup_range
  have pm : ((List.range gs.length).map fun k => left.idxOf k).Perm (List.range gs.length) := by
    have := p.symm.map fun k => left.idxOf k
    rw [map_idx nd, hl] at this
    exact this
  refine ⟨by rw [List.length_map, hl]; exact pm, fun y hy h0 => ?_⟩
  obtain ⟨x, hx, rfl⟩ := List.mem_map.mp hy
  have nd2 : ((List.range gs.length).map fun k => left.idxOf k).Nodup := pm.nodup_iff.mpr List.nodup_range
  have at_ : ∀ a, a < gs.length → ((List.range gs.length).map fun k => left.idxOf k).idxOf (left.idxOf a) = a := fun a ha => by
    have hlen : a < ((List.range gs.length).map fun k => left.idxOf k).length := by rw [List.length_map, List.length_range]; exact ha
    have := List.Nodup.idxOf_getElem nd2 a hlen
    rw [List.getElem_map, List.getElem_range] at this
    exact this
  show ((List.range gs.length).map fun k => left.idxOf k).idxOf (left.idxOf x.1) < ((List.range gs.length).map fun k => left.idxOf k).idxOf (left.idxOf x.2.1)
  rw [at_ _ (N.wok x hx).s, at_ _ (N.wok x hx).e]
  exact h x hx h0
def spMixed (K : PySem.W.Frag) : Sp := fun vs H Q _ => ∃ (wl lg lw : Addr) (gs : List Gt) (ws : List Wr), vs = [.ref wl, .ref lg, .ref lw] ∧ WellAt wl H ∧ lg ≠ wl ∧ lw ≠ wl ∧ LG K H lg gs ∧ LW K H lw ws ∧ NetOk gs ws ∧ (∀ x ∈ ws, x.2.2 = [] → x.1 < x.2.1) ∧
  ∀ t lg' lw' lo' H' gs' ws' os, NetOk gs' ws' → OrdG gs' ws' os → (plc gs' "in" gs'.length).length = (plc gs "in" gs.length).length → gs'.length = gs.length → Dr wl H H' → H lg' = none → H lw' = none → H lo' = none → lg' ≠ lw' → LG K H' lg' gs' → LW K H' lw' ws' → H' lo' = some (.lst (os.map fun i => V.int (i : Nat))) → H' t = some (.tup [.ref lg', .ref lw', .ref lo']) → Q (.ref t) H'
def popTG (K : PySem.W.Frag) : TE := tLc (iList K (tVar 1)) (gName 4) tYes (tBM K "list" rPopAt (tVar 3) (tCons (tCall spDraw [] E0 (tCons (tVar 0) (tCons (tLen K 3) tNil))) tNil)) [4]
theorem popAllG {K : PySem.W.Frag} {σ : L2.St} {H : Hp} {Q : VK} {wl L lg : Addr} {vs gv : List V} (h0 : σ[0]? = some (some (.ref wl))) (h1 : σ[1]? = some (some (.ref lg))) (h3 : σ[3]? = some (some (.ref L))) (hL : H L = some (.lst vs)) (hg : H lg = some (.lst gv)) (hgv : gv.length = vs.length) (ngw : lg ≠ wl) (ngL : lg ≠ L) (hw : WellAt wl H) (hn : L ≠ wl) (hz : vs.length ≤ 1000)
    (q : ∀ D vs' H', vs'.Perm vs → H D = none → H' D = some (.lst vs') → (∀ b o, b ≠ wl → b ≠ L → H b = some o → H' b = some o) → WellAt wl H' → Q (.ref D) H') : popTG K σ H Q := by
  have s0 : ∀ x, (((wipe σ [4]).set 4 x))[0]? = some (some (.ref wl)) := fun x => by
    show (((σ.set 4 none).set 4 x))[0]? = _
    rw [List.getElem?_set_ne (by decide), List.getElem?_set_ne (by decide)]
    exact h0
  have s3 : ∀ x, (((wipe σ [4]).set 4 x))[3]? = some (some (.ref L)) := fun x => by
    show (((σ.set 4 none).set 4 x))[3]? = _
    rw [List.getElem?_set_ne (by decide), List.getElem?_set_ne (by decide)]
    exact h3
  refine ⟨_, h1, lg, rfl, ⟨_, SqL.of hg⟩, fun D hD => ?_⟩
  have nDL : L ≠ D := ne_of_none hL hD
  have nDw : D ≠ wl := (hw.ne hD).symm
  have ngD : lg ≠ D := ne_of_none hg hD
  refine lc_list (K := K) (a := lg) (xs := gv) (fun i H3 => ∃ acc rem : List V, acc.length = i ∧ (acc ++ rem).Perm vs ∧ H3 D = some (.lst acc) ∧ H3 L = some (.lst rem) ∧ (∀ b o, b ≠ wl → b ≠ L → H b = some o → H3 b = some o) ∧ WellAt wl H3)
    ⟨[], vs, rfl, by simp, upd_same, by rw [upd_ne nDL]; exact hL, fun b o _ _ e => by rw [upd_ne (ne_of_none e hD)]; exact e, hw.new hD⟩ (fun i H3 _ ⟨_, _, _, _, _, _, hk, _⟩ => SqL.of (hk _ _ ngw ngL hg)) ?_ ?_
  · rintro i v H3 hv ⟨acc, rem, hal, hp, hDa, hLr, hk, hw3⟩
    have hi : i < gv.length := (List.getElem?_eq_some_iff.mp hv).1
    have hlen : acc.length + rem.length = vs.length := by
      have := hp.length_eq
      simpa using this
    have hrem : 0 < rem.length := by omega
    refine ⟨?_, tyes ?_⟩
    · show ((σ.set 4 none).set 4 _).set 4 none = σ.set 4 none
      simp
    refine ⟨_, s3 _, .inl ⟨rfl, _, SqL.of hLr⟩, _, s0 _, _, s3 _, L, rem, rfl, .inl (SqL.of hLr), wl, _, rfl, by omega, by omega, hw3, fun d H4 d0 d1 E1 => ?_⟩
    have hj : d.toNat < rem.length := by omega
    have hLr4 := E1.but _ _ hn hLr
    have hDa4 := E1.but _ _ nDw hDa
    have hg : rem[d.toNat]? = some rem[d.toNat] := List.getElem?_eq_getElem hj
    refine ⟨L, rem, d, d.toNat, rem[d.toNat], rfl, rfl, hLr4, by omega, by omega, PySem.seqIndex_of d0 d1, hg, ?_⟩
    refine ⟨acc, by rw [upd_ne nDL.symm]; exact hDa4, small1000 (by omega), acc ++ [rem[d.toNat]], rem.eraseIdx d.toNat, by simp [hal], perm_pop hp hg, upd_same, ?_, ?_, ?_⟩
    · rw [upd_ne nDL, upd_same]
    · intro b o nb nL e
      rw [upd_ne (ne_of_none e hD), upd_ne nL]
      exact E1.but _ _ nb (hk b o nb nL e)
    · obtain ⟨x1, x2, x3, hx⟩ := E1.well
      exact ⟨x1, x2, x3, by rw [upd_ne nDw.symm, upd_ne hn.symm]; exact hx⟩
  · rintro H3 ⟨acc, rem, hal, hp, hDa, hLr, hk, hw3⟩
    have hlen : acc.length + rem.length = vs.length := by
      have := hp.length_eq
      simpa using this
    have hr : rem = [] := by
      cases rem with
      | nil => rfl
      | cons _ _ => simp at hlen; omega
    subst hr
    rw [List.append_nil] at hp
    exact q D acc H3 hp hD hDa hk hw3
section
variable {P : Program} {w : World} {K : PySem.W.Frag} {mg : Str → Option Value} {base : Heap}
abbrev nLMixed : List Str := ["_law_well_here", "_law_gates", "_law_wires", "_law_left", "_law_gate", "_law_order", "_law_start", "_law_end", "_law_row", "_law_some", "_law_k"]
theorem scLMixed : FnScope nLMixed ["_law_well_here", "_law_gates", "_law_wires"] (defScope sLMixed) := ⟨rfl, rfl, rfl, by decide +kernel, rfl, by decide +kernel, by decide +kernel⟩
abbrev DLMixed (P : Program) (w : World) (K : PySem.W.Frag) (mg : Str → Option Value) (base : Heap) := Df P w K mg base 2 "_law_mixed" ["_law_well_here", "_law_gates", "_law_wires"] (spMixed K)
theorem ok_lmixed {f fD : Addr} {fd fdD : FuncData} (F : Fun K "_law_mixed" "_law_mixed" sLMixed f fd) (hm : mg "_law_mixed" = some (.ref f)) (B : Bt mg) (DD : DDraw P w K mg base fD fdD) : DLMixed P w K mg base f fd := by
  refine ⟨?_, hm, F.kp, F.binds fun _ _ _ _ _ _ us hl => match us, hl with | [_, _, _], _ => rfl⟩
  refine F.ok scLMixed (fun vs H Q E h => ?_) (fun cdv A outer s H vs Q E hr h => ?_)
  · obtain ⟨wl, lg, lw, gs, ws, rfl, _⟩ := h
    rfl
  · obtain ⟨wl, lg, lw, gs, ws, rfl, hw, ngw, nww, LG0, LW0, N, hor, q⟩ := h
    have nd := scLMixed.nd
    have hr1 : Room 1 _ := hr.mono (by decide)
    refine ⟨_, pss_cons (ps_set (i := 3) nd rfl (.inr rfl) (pe_listRg rfl (by rfl) B.list (prg_1 (by rfl) B.range (pe_callB call_len_seq (by rfl) B.len PySem.boot_len (pa_cons (pv 1) pa_nil))))) <|
        pss_cons (ps_set (i := 5) nd rfl (.inr rfl) (pe_lc (own := [("_law_gate", 4)]) (g := (gName 4)) (tt := tYes) (te := (tBM K "list" rPopAt (tVar 3) (tCons (tCall spDraw [] E0 (tCons (tVar 0) (tCons (tCB (Evl.rLenS K) (tCons (tVar 3) tNil)) tNil))) tNil))) rfl nd (pi_list (pv 1)) (blkOk_by (N := nLMixed) (sc := defScope sLMixed) (own := [("_law_gate", 4)]) (by decide +kernel)) (fun _ _ _ _ _ => (pg_name (i := 4) nd rfl (.inl rfl))) (fun _ _ _ _ _ => pts_nil) (fun _ _ _ _ _ => (pe_bm PySem.F.plainAttrs_list PySem.F.slot_list_pop PySem.F.type_list_pop mt_popAt (pv 3) (pa_cons (pe_call DD.ok hr1 (by rfl) DD.mg DD.kp DD.bd .nil pass0 (pa_cons (pv 0) (pa_cons (pe_callB call_len_seq (by rfl) B.len PySem.boot_len (pa_cons (pv 3) pa_nil)) pa_nil))) pa_nil))))) <|
        pss_cons (ps_setLc (i := 9) (own := [("_law_start", 6), ("_law_end", 7), ("_law_row", 8)]) (g := (gTup K 3 (gCons (gName 6) (gCons (gName 7) (gCons (gName 8) gNil))))) (tt := tYes) (te := (tTup (tCons (tBM K "list" (rIndex K) (tVar 5) (tCons (tVar 6) tNil)) (tCons (tBM K "list" (rIndex K) (tVar 5) (tCons (tVar 7) tNil)) (tCons (tVar 8) tNil))))) rfl nd rfl rfl (sw_true rfl rfl rfl (by decide +kernel)) (pi_list (pv 2)) (blkOk_by (N := nLMixed) (sc := defScope sLMixed) (own := [("_law_start", 6), ("_law_end", 7), ("_law_row", 8)]) (by decide +kernel)) (fun _ _ _ _ _ => (pg_tup rfl (pgs_cons (pg_name (i := 6) nd rfl (.inl rfl)) (pgs_cons (pg_name (i := 7) nd rfl (.inl rfl)) (pgs_cons (pg_name (i := 8) nd rfl (.inl rfl)) pgs_nil))))) (fun _ _ _ _ _ => pts_nil) (fun _ _ _ _ _ => (pe_tup (pa_cons (pe_bm PySem.F.plainAttrs_list PySem.F.slot_list_index PySem.F.type_list_index mt_index (pv 5) (pa_cons (pv 6) pa_nil)) (pa_cons (pe_bm PySem.F.plainAttrs_list PySem.F.slot_list_index PySem.F.type_list_index mt_index (pv 5) (pa_cons (pv 7) pa_nil)) (pa_cons (pv 8) pa_nil)))))) <|
        pss_one (ps_ret (pe_tup (pa_cons (pe_lc (own := [("_law_k", 10)]) (g := (gName 10)) (tt := tYes) (te := (tOp (rIxL K) (tVar 1) (tVar 10))) rfl nd (pi_list (pv 5)) (blkOk_by (N := nLMixed) (sc := defScope sLMixed) (own := [("_law_k", 10)]) (by decide +kernel)) (fun _ _ _ _ _ => (pg_name (i := 10) nd rfl (.inl rfl))) (fun _ _ _ _ _ => pts_nil) (fun _ _ _ _ _ => (pe_ix ix_list (pv 1) (pv 10) (fun _ _ => rfl)))) (pa_cons (pv 9) (pa_cons (pe_lc (own := [("_law_k", 10)]) (g := (gName 10)) (tt := tYes) (te := (tBM K "list" (rIndex K) (tVar 5) (tCons (tVar 10) tNil))) rfl nd (pi_range1 (by rfl) B.range (pa_cons (pe_callB call_len_seq (by rfl) B.len PySem.boot_len (pa_cons (pv 1) pa_nil)) pa_nil)) (blkOk_by (N := nLMixed) (sc := defScope sLMixed) (own := [("_law_k", 10)]) (by decide +kernel)) (fun _ _ _ _ _ => (pg_name (i := 10) nd rfl (.inl rfl))) (fun _ _ _ _ _ => pts_nil) (fun _ _ _ _ _ => (pe_bm PySem.F.plainAttrs_list PySem.F.slot_list_index PySem.F.type_list_index mt_index (pv 5) (pa_cons (pv 10) pa_nil)))) pa_nil))))), ?_⟩
    have hgl := N.gl
    have hwsl := N.wl
    obtain ⟨gv, hgv, ga⟩ := id LG0
    obtain ⟨wv, hwv, wa⟩ := id LW0
    have hlg : gv.length = gs.length := ga.1
    have hlw : wv.length = ws.length := wa.1
    refine ⟨_, rfl, lg, gv, rfl, .inl (SqL.of hgv), _, rfl, RgOk.of_le (by omega) (by omega) (by omega) (by omega), fun L2 hL2 => ?_⟩
    rw [rgV_nat, hlg]
    have d8 : Dr wl H (upd H L2 (.lst ((List.range gs.length).map fun i => V.int (i : Nat)))) := Dr.new hw hL2
    have sL : Same H (upd H L2 (.lst ((List.range gs.length).map fun i => V.int (i : Nat)))) := same_new hL2
    have eL : (upd H L2 (.lst ((List.range gs.length).map fun i => V.int (i : Nat)))) L2 = some (.lst ((List.range gs.length).map fun i => V.int (i : Nat))) := upd_same
    generalize upd H L2 (.lst ((List.range gs.length).map fun i => V.int (i : Nat))) = H1 at d8 sL eL
    refine gn_norm (σ' := [some (.ref wl), some (.ref lg), some (.ref lw), some (.ref L2), none, none, none, none, none, none, none]) rfl ?_
    have nL2w : L2 ≠ wl := (hw.ne hL2).symm
    have ngL2 : lg ≠ L2 := ne_of_none hgv hL2
    have nwL2 : lw ≠ L2 := ne_of_none hwv hL2
    unfold tSeq tAsg
    dsimp only
    refine (show tLc _ _ _ _ _ _ _ _ from ?_)
    refine (show tLc (iList K (tVar 1)) _ _ _ _ _ _ _ from ?_)
    refine (show tLc _ (gName 4) tYes _ [4] _ _ _ from ?_)
    refine (show tLc _ _ _ (tBM K "list" rPopAt (tVar 3) _) _ _ _ _ from ?_)
    refine (show tLc _ _ _ (tBM K "list" rPopAt (tVar 3) (tCons (tCall spDraw [] E0 (tCons (tVar 0) (tCons (tLen K 3) tNil))) tNil)) _ _ _ _ from ?_)
    refine popAllG (K := K) (σ := [some (.ref wl), some (.ref lg), some (.ref lw), some (.ref L2), none, none, none, none, none, none, none]) (wl := wl) (L := L2) (lg := lg) (gv := gv) rfl rfl rfl eL (sL _ _ hgv) (by simp; omega) ngw ngL2 d8.well nL2w (by simp; omega) fun D vs' H9 pm hD hD9 hk9 hw9 => ?_
    obtain ⟨left, pl, al⟩ := (eq_all2 (f := fun i : Nat => V.int (i : Nat)) (List.range gs.length)).perm pm
    have hL3 : H9 D = some (.lst (left.map fun i => V.int (i : Nat))) := by rw [← all2_eq al]; exact hD9
    have tk9 : TK H H9 := (TK.same sL).trans (TK.two d8.well eL hk9)
    have b9 : Dr wl H H9 := ⟨fun b o n e => hk9 b o n (ne_of_none e hL2) (sL _ _ e), hw9⟩
    have hg9 := hk9 _ _ ngw ngL2 (sL _ _ hgv)
    have hww9 := hk9 _ _ nww nwL2 (sL _ _ hwv)
    have ha9 := ga.imp fun _ _ r => r.tk tk9
    have hwa9 := wa.imp fun _ _ r => r.tk tk9
    have hD0 : H D = none := sL.free hD
    have hll : left.length = gs.length := by rw [pl.length_eq, List.length_range]
    have ndl : left.Nodup := pl.nodup_iff.mpr List.nodup_range
    have memb : ∀ k, k ∈ left → k < gs.length := fun k hk => List.mem_range.mp (pl.mem_iff.mp hk)
    have memr : ∀ k, k < gs.length → k ∈ left := fun k hk => pl.mem_iff.mpr (List.mem_range.mpr hk)
    refine gn_norm (σ' := [some (.ref wl), some (.ref lg), some (.ref lw), some (.ref L2), none, some (.ref D), none, none, none, none, none]) rfl ?_
    -- the wires
    refine ⟨_, rfl, lw, rfl, ⟨_, SqL.of hww9⟩, fun D5 hD5 => ?_⟩
    refine lc_list (K := K) (a := lw) (xs := wv) (fun i Hc => ∃ acc, Hc D5 = some (.lst acc) ∧ acc.length = i ∧ All2 (WireV K Hc) acc ((ws.take i).map fun x => (left.idxOf x.1, left.idxOf x.2.1, x.2.2)) ∧ Same H9 Hc)
      ⟨[], upd_same, rfl, by simpa using All2.nil, same_new hD5⟩ (fun i Hc _ ⟨_, _, _, _, sm⟩ => sm.seq (SqL.of hww9)) ?_ ?_
    · rintro i x Hc hx ⟨acc, hacc, hal, haa, sm⟩
      obtain ⟨y, hy, xa, xb, rfl, sq1, sq2⟩ := hwa9.get hx
      have hyi : i < ws.length := (List.getElem?_eq_some_iff.mp hy).1
      have W := N.wok y (List.mem_of_getElem? hy)
      have tc : TK H9 Hc := TK.same sm
      have hL3c : SqL K Hc D (left.map fun i => V.int (i : Nat)) := SqL.of (sm _ _ hL3)
      refine ⟨xa, _, rfl, tc.seq sq1, rfl, _, _, rfl, _, _, rfl, _, _, rfl, rfl, rfl, tyes ?_⟩
      refine ⟨_, rfl, .inl ⟨rfl, _, hL3c⟩, _, rfl, D, _, _, left.idxOf y.1, _, rfl, rfl, hL3c, rfl, flat_ints _, idx_at (memr _ W.s), by rw [eqV_int]; exact decide_eq_true rfl, fun mm z hm hz => idx_no ndl hm hz, ?_⟩
      refine ⟨_, rfl, .inl ⟨rfl, _, hL3c⟩, _, rfl, D, _, _, left.idxOf y.2.1, _, rfl, rfl, hL3c, rfl, flat_ints _, idx_at (memr _ W.e), by rw [eqV_int]; exact decide_eq_true rfl, fun mm z hm hz => idx_no ndl hm hz, ?_⟩
      refine ⟨_, rfl, (by show 3 ≤ sizeLine; decide), fun t ht => ?_⟩
      have smt : Same Hc (upd Hc t (.tup [.int (left.idxOf y.1 : Nat), .int (left.idxOf y.2.1 : Nat), .ref xb])) := same_new ht
      have hDt : (upd Hc t (.tup [.int (left.idxOf y.1 : Nat), .int (left.idxOf y.2.1 : Nat), .ref xb])) D5 = some (.lst acc) := smt _ _ hacc
      have ntD : t ≠ D5 := fun z => by
        rw [z, hacc] at ht
        cases ht
      refine ⟨acc, hDt, small1000 (by omega), acc ++ [.ref t], upd_same, by simp [hal], ?_, same_mut (sm.trans smt) hD5⟩
      have t2 : TK Hc (upd (upd Hc t (.tup [.int (left.idxOf y.1 : Nat), .int (left.idxOf y.2.1 : Nat), .ref xb])) D5 (.lst (acc ++ [.ref t]))) := (TK.new ht).trans (TK.lst hDt)
      rw [List.take_add_one, hy, List.map_append]
      refine (haa.imp fun _ _ r => r.tk t2).snoc ⟨t, xb, rfl, .inl (.inl (by rw [upd_ne ntD]; exact upd_same)), (tc.trans t2).seq sq2⟩
    rintro H10 ⟨wacc, hwacc, hwl5, hwa5, sm10⟩
    rw [hlw, List.take_length] at hwa5
    refine gn_norm (σ' := [some (.ref wl), some (.ref lg), some (.ref lw), some (.ref L2), none, some (.ref D), none, none, none, some (.ref D5), none]) rfl ?_
    -- the gates
    refine ⟨_, rfl, D, rfl, ⟨_, SqL.of (sm10 _ _ hL3)⟩, fun D4 hD4 => ?_⟩
    refine lc_list (K := K) (a := D) (xs := left.map fun i => V.int (i : Nat)) (fun i Hc => ∃ acc, Hc D4 = some (.lst acc) ∧ acc.length = i ∧ All2 (GateV K H9) acc ((left.take i).map fun k => gs.getD k ("", 0)) ∧ Same H10 Hc)
      ⟨[], upd_same, rfl, by simpa using All2.nil, same_new hD4⟩ (fun i Hc _ ⟨_, _, _, _, sm⟩ => sm.seq (SqL.of (sm10 _ _ hL3))) ?_ ?_
    · rintro i x Hc hx ⟨acc, hacc, hal, haa, sm⟩
      rw [List.getElem?_map] at hx
      cases ek : left[i]? with
      | none =>
        rw [ek] at hx
        cases hx
      | some k =>
      rw [ek] at hx
      cases hx
      have hk : k < gs.length := memb k (List.mem_of_getElem? ek)
      have hi : i < left.length := (List.getElem?_eq_some_iff.mp ek).1
      refine ⟨rfl, tyes ?_⟩
      refine ⟨_, rfl, _, rfl, lg, gv, k, gv[k]'(by omega), rfl, rfl, SqL.of (sm _ _ (sm10 _ _ hg9)), atI_nat (List.getElem?_eq_getElem (by omega)), acc, hacc, small1000 (by omega), acc ++ [gv[k]'(by omega)], upd_same, by simp [hal], ?_, same_mut sm hD4⟩
      rw [List.take_add_one, ek, List.map_append]
      refine haa.snoc ?_
      show GateV K H9 _ (gs.getD k ("", 0))
      rw [List.getD_eq_getElem?_getD, List.getElem?_eq_getElem hk]
      exact ha9.2 k _ _ (List.getElem?_eq_getElem (by omega)) (List.getElem?_eq_getElem hk)
    rintro H11 ⟨gacc, hgacc, hgl4, hga4, sm11⟩
    rw [List.length_map] at hgl4 hga4
    rw [List.take_length] at hga4
    -- the order
    have s911 := sm10.trans sm11
    refine ⟨_, rfl, _, rfl, lg, _, rfl, .inl (SqL.of (s911 _ _ hg9)), _, rfl, by omega, by omega, fun D6 hD6 => ?_⟩
    rw [Int.toNat_natCast, hlg]
    refine lc_range (lo := 0) (n := gs.length) (fun j Hd => Hd D6 = some (.lst (((List.range j).map fun k => left.idxOf k).map fun i => V.int (i : Nat))) ∧ Same H11 Hd) ⟨upd_same, same_new hD6⟩ ?_ ?_
    · rintro j Hd hj ⟨hd, smd⟩
      have ej : (0 : Int) + (j : Nat) = ((j : Nat) : Int) := Int.zero_add _
      rw [ej]
      have hL3c : SqL K Hd D (left.map fun i => V.int (i : Nat)) := SqL.of (smd _ _ (s911 _ _ hL3))
      refine ⟨rfl, tyes ?_⟩
      refine ⟨_, rfl, .inl ⟨rfl, _, hL3c⟩, _, rfl, D, _, _, left.idxOf j, _, rfl, rfl, hL3c, rfl, flat_ints _, idx_at (memr _ hj), by rw [eqV_int]; exact decide_eq_true rfl, fun mm z hm hz => idx_no ndl hm hz, _, hd, ?_, ?_, same_mut smd hD6⟩
      · rw [List.length_map, List.length_map, List.length_range]
        exact small1000 (by omega)
      · rw [upd_same, List.range_succ, List.map_append, List.map_append]
        rfl
    rintro H12 ⟨hd12, sm12⟩
    refine ⟨(by show 3 ≤ sizeLine; decide), fun p hp => ?_⟩
    have smp : Same H12 (upd H12 p (.tup [.ref D4, .ref D5, .ref D6])) := same_new hp
    have s12 := sm12.trans smp
    have s9 := s911.trans s12
    have n45 : D4 ≠ D5 := (ne_of_none hwacc hD4).symm
    refine q p D4 D5 D6 _ _ _ _ (N.anew pl (.refl _)) (OrdG.anew N pl hor) (plc_anew pl "in") (by rw [List.length_map, hll]) ⟨(fun b o n e => s9 _ _ (b9.but b o n e)), hw9.same s9⟩ (b9.free hw (sm10.free hD4)) (b9.free hw hD5) (b9.free hw (s911.free hD6)) n45 ⟨gacc, s12 _ _ hgacc, hga4.imp fun _ _ r => r.tk (TK.same s9)⟩ ⟨wacc, (sm11.trans s12) _ _ hwacc, hwa5.imp fun _ _ r => r.tk (TK.same (sm11.trans s12))⟩ (smp _ _ hd12) upd_same
end
end Lag

set_option maxRecDepth 100000
set_option maxHeartbeats 8000000
namespace Lag
open PySem PySem.Spec PyProof.Rows L2
abbrev sLRing : Stmt := topS 61 -- @_law_ring
abbrev sLThirty : Stmt := topS 62 -- @_law_thirty
/-! ### great nets: one input, inner gates, one output -/
def ioG (inner : List Gt) : List Gt := (("in" : Str), (0 : Int)) :: inner
def greatG (inner : List Gt) : List Gt := ioG inner ++ [(("out" : Str), (0 : Int))]
theorem greatG_len (inner : List Gt) : (greatG inner).length = inner.length + 2 := by
  unfold greatG ioG
  rw [List.length_append, List.length_cons]
  rfl
theorem great_in (inner : List Gt) : kindAt (greatG inner) 0 = "in" := rfl
theorem great_mid {inner : List Gt} {i : Nat} (h1 : 1 ≤ i) (h2 : i ≤ inner.length) : ∃ g ∈ inner, kindAt (greatG inner) i = g.1 := by
  obtain ⟨j, rfl⟩ : ∃ j, i = j + 1 := ⟨i - 1, by omega⟩
  refine ⟨inner[j]'(by omega), List.getElem_mem _, kindAt_get ?_⟩
  unfold greatG ioG
  rw [List.getElem?_append_left (by rw [List.length_cons]; omega), List.getElem?_cons_succ]
  exact List.getElem?_eq_getElem _
theorem great_out (inner : List Gt) : kindAt (greatG inner) (inner.length + 1) = "out" := by
  refine kindAt_get (g := ("out", 0)) ?_
  unfold greatG ioG
  rw [List.getElem?_append_right (by rw [List.length_cons]; exact Nat.le_refl _), List.length_cons, Nat.sub_self]
  rfl
def InOk (inner : List Gt) : Prop := ∀ g ∈ inner, GOk g ∧ g.1 ≠ "in" ∧ g.1 ≠ "out"
theorem great_ins {inner : List Gt} (h : InOk inner) : (plc (greatG inner) "in" (greatG inner).length).length = 1 := by
  rw [plc_cnt]
  unfold greatG ioG
  rw [List.countP_append, List.countP_cons]
  have h0 : inner.countP (fun g => decide (g.1 = ("in" : Str))) = 0 := by
    rw [List.countP_eq_zero]
    intro g hg z
    exact (h g hg).2.1 (of_decide_eq_true z)
  rw [h0]
  decide +kernel
structure GrW (n : Nat) (ws : List Wr) : Prop where
  ok : ∀ x ∈ ws, x.1 ≤ n ∧ 1 ≤ x.2.1 ∧ x.2.1 ≤ n + 1 ∧ ROk x.2.2 ∧ x.2.2.length ≤ 200 ∧ (x.2.2 = [] → x.1 < x.2.1)
  one : cnt ws (n + 1) = 1
  some : ∀ e, 1 ≤ e → e ≤ n → 1 ≤ cnt ws e
  len : ws.length ≤ 200
theorem great_net {inner : List Gt} {ws : List Wr} (hin : InOk inner) (hn : inner.length ≤ 18) (h : GrW inner.length ws) : NetOk (greatG inner) ws := by
  have hl := greatG_len inner
  have cs : ∀ i, i < (greatG inner).length → i = 0 ∨ (1 ≤ i ∧ i ≤ inner.length) ∨ i = inner.length + 1 := fun i hi => by omega
  have ks : ∀ i, i ≤ inner.length → kindAt (greatG inner) i ≠ "out" := fun i hi => by
    rcases cs i (by omega) with e | e | e
    · rw [e, great_in]
      decide +kernel
    · obtain ⟨g, hg, e2⟩ := great_mid e.1 e.2
      rw [e2]
      exact (hin g hg).2.2
    · omega
  have ke : ∀ i, 1 ≤ i → i ≤ inner.length + 1 → kindAt (greatG inner) i ≠ "in" := fun i h1 hi => by
    rcases cs i (by omega) with e | e | e
    · omega
    · obtain ⟨g, hg, e2⟩ := great_mid e.1 e.2
      rw [e2]
      exact (hin g hg).2.1
    · rw [e, great_out]
      decide +kernel
  refine ⟨by unfold greatG ioG; simp, by omega, by have := h.len; omega, fun g hg => ?_, fun x hx => ?_, fun e he hk => ?_, fun e he hk => ?_, id, fun x hx hr => (h.ok x hx).2.2.2.2.2 hr⟩
  · unfold greatG ioG at hg
    rcases List.mem_append.mp hg with hg | hg
    · rcases List.mem_cons.mp hg with e | hg
      · rw [e]
        exact ⟨by decide +kernel, by decide, by decide, fun _ => rfl⟩
      · exact (hin g hg).1
    · rw [List.mem_singleton.mp hg]
      exact ⟨by decide +kernel, by decide, by decide, fun _ => rfl⟩
  · obtain ⟨h1, h2, h3, h4, h5, h6⟩ := h.ok x hx
    exact ⟨by omega, by omega, ks _ h1, ke _ h2 h3, h4, h5⟩
  · rcases cs e he with e1 | e1 | e1
    · rw [e1, great_in] at hk
      exact absurd hk (by decide +kernel)
    · exact absurd hk (ks e e1.2)
    · rw [e1]
      exact h.one
  · rcases cs e he with e1 | e1 | e1
    · rw [e1, great_in] at hk
      exact absurd hk (by decide +kernel)
    · exact h.some e e1.1 e1.2
    · rw [e1, great_out] at hk
      exact absurd hk (by decide +kernel)
/-- a row of wires, each from a gate to the next -/
structure RowW (m : Nat) (ws : List Wr) : Prop where
  len : ws.length = m
  ok : ∀ x ∈ ws, x.2.1 = x.1 + 1 ∧ x.2.1 ≤ m ∧ ROk x.2.2 ∧ x.2.2.length ≤ 200
  cn : ∀ e, cnt ws e = if 1 ≤ e ∧ e ≤ m then 1 else 0
theorem RowW.nil : RowW 0 [] := ⟨rfl, by simp, fun e => by rw [if_neg (by omega)]; rfl⟩
theorem RowW.push {m : Nat} {ws : List Wr} {r : List Int} (h : RowW m ws) (hr : ROk r) (hl : r.length ≤ 200) : RowW (m + 1) (ws ++ [(m, m + 1, r)]) := by
  refine ⟨by rw [List.length_append, h.len]; rfl, fun x hx => ?_, fun e => ?_⟩
  · rcases List.mem_append.mp hx with hx | hx
    · obtain ⟨h1, h2, h3, h4⟩ := h.ok x hx
      exact ⟨h1, by omega, h3, h4⟩
    · rw [List.mem_singleton.mp hx]
      exact ⟨rfl, Nat.le_refl _, hr, hl⟩
  · rw [cnt_app, h.cn e]
    show (if _ then _ else _) + (if m + 1 = e then 1 else 0) = _
    by_cases h1 : m + 1 = e
    · rw [if_neg (by omega), if_pos h1, if_pos (by omega)]
    · rw [if_neg h1]
      by_cases h2 : 1 ≤ e ∧ e ≤ m
      · rw [if_pos h2, if_pos (by omega)]
      · rw [if_neg h2, if_neg (by omega)]
/-- wires more, into inner gates -/
structure MoreW (n : Nat) (ws : List Wr) : Prop where
  ok : ∀ x ∈ ws, x.1 ≤ n ∧ 1 ≤ x.2.1 ∧ x.2.1 ≤ n + 1 ∧ ROk x.2.2 ∧ x.2.2.length ≤ 200 ∧ (x.2.2 = [] → x.1 < x.2.1)
  some : ∀ e, 1 ≤ e → e ≤ n → 1 ≤ cnt ws e
theorem MoreW.push {n : Nat} {ws : List Wr} {x : Wr} (h : MoreW n ws) (hx : x.1 ≤ n ∧ 1 ≤ x.2.1 ∧ x.2.1 ≤ n + 1 ∧ ROk x.2.2 ∧ x.2.2.length ≤ 200 ∧ (x.2.2 = [] → x.1 < x.2.1)) : MoreW n (ws ++ [x]) := by
  refine ⟨fun y hy => ?_, fun e h1 h2 => ?_⟩
  · rcases List.mem_append.mp hy with hy | hy
    · exact h.ok y hy
    · rw [List.mem_singleton.mp hy]
      exact hx
  · rw [cnt_app]
    have := h.some e h1 h2
    omega
theorem RowW.more {m n : Nat} {ws : List Wr} (h : RowW m ws) (h1 : n ≤ m) (h2 : m ≤ n + 1) : MoreW n ws := by
  refine ⟨fun x hx => ?_, fun e e1 e2 => ?_⟩
  · obtain ⟨a, b, c, d⟩ := h.ok x hx
    exact ⟨by omega, by omega, by omega, c, d, fun _ => by omega⟩
  · rw [h.cn e, if_pos (by omega)]
    exact Nat.le_refl _
def spGreat (K : PySem.W.Frag) : Sp := fun vs H Q _ => ∃ wl : Addr, vs = [.ref wl] ∧ WellAt wl H ∧
  ∀ (gs : List Gt) (ws : List Wr) (lg lw p : Addr) (H' : Hp), NetOk gs ws → (∀ x ∈ ws, x.2.2 = [] → x.1 < x.2.1) → (plc gs "in" gs.length).length = 1 → gs.length ≤ 20 → Dr wl H H' → H lg = none → H lw = none → lg ≠ lw → LG K H' lg gs → LW K H' lw ws → H' p = some (.tup [.ref lg, .ref lw]) → Q (.ref p) H'
theorem kinds5 {v : V} (h : v ∈ [V.str "sum", .str "most", .str "least", .str "first", .str "times"]) : ∃ k : Str, v = .str k ∧ k ∈ kinds ∧ k ≠ "in" ∧ k ≠ "out" := by
  simp only [List.mem_cons, List.not_mem_nil, or_false] at h
  rcases h with h | h | h | h | h <;> exact ⟨_, h, by decide +kernel, by decide +kernel, by decide +kernel⟩
theorem kinds6 {v : V} (h : v ∈ [V.str "sum", .str "most", .str "least", .str "first", .str "times", .str "one"]) : ∃ k : Str, v = .str k ∧ k ∈ kinds ∧ k ≠ "in" ∧ k ≠ "out" := by
  simp only [List.mem_cons, List.not_mem_nil, or_false] at h
  rcases h with h | h | h | h | h | h <;> exact ⟨_, h, by decide +kernel, by decide +kernel, by decide +kernel⟩
theorem gok_in {k : Str} {d : Int} (h1 : k ∈ kinds) (h2 : k ≠ "in") (h3 : k ≠ "out") (d0 : 0 ≤ d) (d1 : d < 10) : GOk (k, d) ∧ k ≠ "in" ∧ k ≠ "out" :=
  ⟨⟨h1, d0, by show d ≤ 100; omega, fun z => by rcases z with z | z; exact absurd z h2; exact absurd z h3⟩, h2, h3⟩
theorem InOk.push {inner : List Gt} {g : Gt} (h : InOk inner) (hg : GOk g ∧ g.1 ≠ "in" ∧ g.1 ≠ "out") : InOk (inner ++ [g]) := fun x hx => by
  rcases List.mem_append.mp hx with hx | hx
  · exact h x hx
  · rw [List.mem_singleton.mp hx]
    exact hg
theorem LG.push {K : PySem.W.Frag} {H : Hp} {l : Addr} {vs : List V} {gs : List Gt} {v : V} {g : Gt} (e : H l = some (.lst vs)) (a : All2 (GateV K H) vs gs) (r : GateV K H v g) : LG K (upd H l (.lst (vs ++ [v]))) l (gs ++ [g]) :=
  ⟨_, upd_same, (a.imp fun _ _ r => r.tk (TK.lst e)).snoc (r.tk (TK.lst e))⟩
theorem LW.push {K : PySem.W.Frag} {H : Hp} {l : Addr} {vs : List V} {ws : List Wr} {v : V} {x : Wr} (e : H l = some (.lst vs)) (a : All2 (WireV K H) vs ws) (r : WireV K H v x) : LW K (upd H l (.lst (vs ++ [v]))) l (ws ++ [x]) :=
  ⟨_, upd_same, (a.imp fun _ _ r => r.tk (TK.lst e)).snoc (r.tk (TK.lst e))⟩
section
variable {P : Program} {w : World} {K : PySem.W.Frag} {mg : Str → Option Value} {base : Heap}
abbrev nLRing : List Str := ["_law_well_here", "_law_gates", "_law_k", "_law_last", "_law_wires", "_law_j"]
theorem scLRing : FnScope nLRing ["_law_well_here"] (defScope sLRing) := ⟨rfl, rfl, rfl, by decide +kernel, rfl, by decide +kernel, by decide +kernel⟩
abbrev DLRing (P : Program) (w : World) (K : PySem.W.Frag) (mg : Str → Option Value) (base : Heap) := Df P w K mg base 3 "_law_ring" ["_law_well_here"] (spGreat K)
theorem ok_lring {f fD fO : Addr} {fd fdD fdO : FuncData} (F : Fun K "_law_ring" "_law_ring" sLRing f fd) (hm : mg "_law_ring" = some (.ref f)) (B : Bt mg) (DD : DDraw P w K mg base fD fdD) (DO : DOne P w K mg base fO fdO) : DLRing P w K mg base f fd := by
  refine ⟨?_, hm, F.kp, F.binds fun _ _ _ _ _ _ us hl => match us, hl with | [_], _ => rfl⟩
  refine F.ok scLRing (fun vs H Q E h => ?_) (fun cdv A outer s H vs Q E hr h => ?_)
  · obtain ⟨wl, rfl, _⟩ := h
    rfl
  · obtain ⟨wl, rfl, hw, q⟩ := h
    have nd := scLRing.nd
    have hr1 : Room 1 _ := hr.mono (by decide)
    have hr2 : Room 2 _ := hr.mono (by decide)
    refine ⟨_, pss_cons (ps_set (i := 1) nd rfl (.inl rfl) (pe_lst (pa_cons (pe_tup (pa_cons pe_str (pa_cons pe_int pa_nil))) pa_nil))) <|
        pss_cons (ps_for PassesOwn.never rfl (pi_range1 (by rfl) B.range (pa_cons (pe_op op_add pe_int (pe_call DD.ok hr1 (by rfl) DD.mg DD.kp DD.bd .nil pass0 (pa_cons (pv 0) (pa_cons pe_int pa_nil)))) pa_nil)) (pg_name (i := 2) nd rfl (.inl rfl)) (pss_one (ps_expr (pe_bm PySem.F.plainAttrs_list PySem.F.slot_list_append PySem.F.type_list_append mt_append (pv 1) (pa_cons (pe_tup (pa_cons (pe_call DO.ok hr2 (by rfl) DO.mg DO.kp DO.bd .nil pass0 (pa_cons (pv 0) (pa_cons (pe_lst (pa_cons pe_str (pa_cons pe_str (pa_cons pe_str (pa_cons pe_str (pa_cons pe_str pa_nil)))))) pa_nil))) (pa_cons (pe_call DD.ok hr1 (by rfl) DD.mg DD.kp DD.bd .nil pass0 (pa_cons (pv 0) (pa_cons pe_int pa_nil))) pa_nil))) pa_nil))))) <|
        pss_cons (ps_set (i := 3) nd rfl (.inl rfl) (pe_op op_sub (pe_callB call_len_seq (by rfl) B.len PySem.boot_len (pa_cons (pv 1) pa_nil)) pe_int)) <|
        pss_cons (ps_set (i := 4) nd rfl (.inl rfl) (pe_lst (pa_cons (pe_tup (pa_cons pe_int (pa_cons pe_int (pa_cons (pe_tup pa_nil) pa_nil)))) pa_nil))) <|
        pss_cons (ps_for PassesOwn.never rfl (pi_range2 (by rfl) B.range (pa_cons pe_int (pa_cons (pv 3) pa_nil))) (pg_name (i := 2) nd rfl (.inl rfl)) (pss_one (ps_expr (pe_bm PySem.F.plainAttrs_list PySem.F.slot_list_append PySem.F.type_list_append mt_append (pv 4) (pa_cons (pe_tup (pa_cons (pv 2) (pa_cons (pe_op op_add (pv 2) pe_int) (pa_cons (pe_callTy call_tuple_of (by rfl) B.tuple (by decide +kernel) (pa_cons (pe_lc (own := [("_law_j", 5)]) (g := (gName 5)) (tt := tYes) (te := (tCall spDraw [] E0 (tCons (tVar 0) (tCons (tC (.int 97)) tNil)))) rfl nd (pi_range1 (by rfl) B.range (pa_cons (pe_call DO.ok hr2 (by rfl) DO.mg DO.kp DO.bd .nil pass0 (pa_cons (pv 0) (pa_cons (pe_lst (pa_cons pe_int (pa_cons pe_int (pa_cons pe_int pa_nil)))) pa_nil))) pa_nil)) (blkOk_by (N := nLRing) (sc := defScope sLRing) (own := [("_law_j", 5)]) (by decide +kernel)) (fun _ _ _ _ _ => (pg_name (i := 5) nd rfl (.inl rfl))) (fun _ _ _ _ _ => pts_nil) (fun _ _ _ _ _ => (pe_call DD.ok hr1 (by rfl) DD.mg DD.kp DD.bd .nil pass0 (pa_cons (pv 0) (pa_cons pe_int pa_nil))))) pa_nil)) pa_nil)))) pa_nil))))) <|
        pss_cons (ps_expr (pe_bm PySem.F.plainAttrs_list PySem.F.slot_list_append PySem.F.type_list_append mt_append (pv 4) (pa_cons (pe_tup (pa_cons (pv 3) (pa_cons pe_int (pa_cons (pe_callTy call_tuple_of (by rfl) B.tuple (by decide +kernel) (pa_cons (pe_lc (own := [("_law_j", 5)]) (g := (gName 5)) (tt := tYes) (te := (tCall spDraw [] E0 (tCons (tVar 0) (tCons (tC (.int 97)) tNil)))) rfl nd (pi_range1 (by rfl) B.range (pa_cons (pe_op op_add pe_int (pe_call DD.ok hr1 (by rfl) DD.mg DD.kp DD.bd .nil pass0 (pa_cons (pv 0) (pa_cons pe_int pa_nil)))) pa_nil)) (blkOk_by (N := nLRing) (sc := defScope sLRing) (own := [("_law_j", 5)]) (by decide +kernel)) (fun _ _ _ _ _ => (pg_name (i := 5) nd rfl (.inl rfl))) (fun _ _ _ _ _ => pts_nil) (fun _ _ _ _ _ => (pe_call DD.ok hr1 (by rfl) DD.mg DD.kp DD.bd .nil pass0 (pa_cons (pv 0) (pa_cons pe_int pa_nil))))) pa_nil)) pa_nil)))) pa_nil))) <|
        pss_one (ps_ret (pe_tup (pa_cons (pe_op op_cat (pv 1) (pe_lst (pa_cons (pe_tup (pa_cons pe_str (pa_cons pe_int pa_nil))) pa_nil))) (pa_cons (pe_op op_cat (pv 4) (pe_lst (pa_cons (pe_tup (pa_cons (pe_op op_add pe_int (pe_call DD.ok hr1 (by rfl) DD.mg DD.kp DD.bd .nil pass0 (pa_cons (pv 0) (pa_cons (pv 3) pa_nil)))) (pa_cons (pe_op op_add (pv 3) pe_int) (pa_cons (pe_tup pa_nil) pa_nil)))) pa_nil))) pa_nil)))), ?_⟩
    -- the gates
    refine ⟨(by show 2 ≤ sizeLine; decide), fun t0 ht0 => ⟨(by show 1 ≤ sizeLine; decide), fun lg hlg => ?_⟩⟩
    have s0 : Same H (upd H t0 (.tup [.str "in", .int 0])) := same_new ht0
    have g0 : GateV K (upd H t0 (.tup [.str "in", .int 0])) (.ref t0) (("in" : Str), (0 : Int)) := ⟨t0, rfl, .inl (.inl upd_same)⟩
    generalize upd H t0 (.tup [.str "in", .int 0]) = Ha at s0 g0 hlg
    have s1 : Same Ha (upd Ha lg (.lst [.ref t0])) := same_new hlg
    have e1 : (upd Ha lg (.lst [.ref t0])) lg = some (.lst [.ref t0]) := upd_same
    have G1 : LG K (upd Ha lg (.lst [.ref t0])) lg (ioG []) := ⟨_, e1, All2.cons (g0.tk (TK.same s1)) All2.nil⟩
    generalize upd Ha lg (.lst [.ref t0]) = Hb at s1 G1 e1
    have hlg0 : H lg = none := s0.free hlg
    have nlg : lg ≠ wl := (hw.ne hlg0).symm
    have Db : Dr wl H Hb := ⟨But.same (s0.trans s1), hw.same (s0.trans s1)⟩
    refine gn_norm (σ' := [some (.ref wl), some (.ref lg), none, none, none, none]) rfl ?_
    refine ⟨_, rfl, wl, 2, rfl, by decide, by decide, Db.well, fun d0 H1 d00 d01 E1 => ?_⟩
    have D1 := Db.trans E1
    have G2 := G1.dr nlg Db.well E1
    refine ⟨_, _, rfl, rfl, _, rfl, by omega, by omega, ?_⟩
    obtain ⟨n, hn⟩ : ∃ n : Nat, (9 + d0).toNat = n := ⟨_, rfl⟩
    have hn1 : 9 ≤ n := by omega
    have hn2 : n ≤ 11 := by omega
    rw [hn]
    refine for_range (lo := 0) (n := n) (fun i σ Hc => ∃ (s2 : Option V) (inner : List Gt), σ = [some (.ref wl), some (.ref lg), s2, none, none, none] ∧ inner.length = i ∧ InOk inner ∧ LG K Hc lg (ioG inner) ∧ Dr wl H Hc)
      ⟨none, [], rfl, rfl, (fun g hg => by simp at hg), G2, D1⟩ ?_ ?_
    · rintro i σ Hc hi ⟨s2, inner, rfl, hil, hin, Gc, Dc⟩
      obtain ⟨gv, hgv, ga⟩ := id Gc
      have hgl : gv.length = i + 1 := by rw [ga.1, ← hil]; rfl
      refine gn_norm (σ' := [some (.ref wl), some (.ref lg), some (.int (0 + (i : Nat))), none, none, none]) rfl ?_
      refine ⟨_, rfl, .inl ⟨rfl, _, SqL.of hgv⟩, _, rfl, (by show 5 ≤ sizeLine; decide), fun l hl => ?_⟩
      have D2 := Dc.trans (Dr.new (o := .lst [.str "sum", .str "most", .str "least", .str "first", .str "times"]) Dc.well hl)
      have nlw : l ≠ wl := (Dc.well.ne hl).symm
      refine ⟨wl, l, _, rfl, nlw, D2.well, SqL.of upd_same, by simp, by decide, fun v H3 hv E3 => ?_⟩
      obtain ⟨k, rfl, k1, k2, k3⟩ := kinds5 hv
      have D3 := D2.trans E3
      refine ⟨_, rfl, wl, 10, rfl, by decide, by decide, D3.well, fun d H4 dd0 dd1 E4 => ?_⟩
      have D4 := D3.trans E4
      refine ⟨(by show 2 ≤ sizeLine; decide), fun p hp => ?_⟩
      have E45 := (Dr.new (o := .tup [.str k, .int d]) D4.well hp)
      have Ec5 : Dr wl Hc (upd H4 p (.tup [.str k, .int d])) := (((Dr.new (o := .lst [.str "sum", .str "most", .str "least", .str "first", .str "times"]) Dc.well hl).trans E3).trans E4).trans E45
      have D5 := D4.trans E45
      have hgv5 := Ec5.but _ _ nlg hgv
      have g5 : GateV K (upd H4 p (.tup [.str k, .int d])) (.ref p) (k, d) := ⟨p, rfl, .inl (.inl upd_same)⟩
      generalize upd H4 p (.tup [.str k, .int d]) = H5 at E45 Ec5 D5 hgv5 g5
      refine ⟨lg, gv, _, rfl, rfl, hgv5, small1000 (by omega), _, inner ++ [(k, d)], rfl, by rw [List.length_append, hil]; rfl, hin.push (gok_in k1 k2 k3 dd0 dd1), ?_, set_well D5 hlg0 nlg⟩
      exact LG.push hgv5 (ga.imp fun _ _ r => r.tk (TK.dr Dc.well Ec5.but)) g5
    rintro σ Hg ⟨s2, inner, rfl, hil, hin, Gg, Dg⟩
    obtain ⟨gv, hgv, ga⟩ := id Gg
    have hgl : gv.length = n + 1 := by rw [ga.1, ← hil]; rfl
    clear Gg G2 G1 D1 E1 Db s1 e1 s0 g0
    -- last
    refine ⟨_, rfl, lg, _, rfl, .inl (SqL.of hgv), _, _, rfl, rfl, ?_⟩
    have hlast : ((gv.length : Nat) : Int) - 1 = ((n : Nat) : Int) := by omega
    refine gn_norm (σ' := [some (.ref wl), some (.ref lg), s2, some (.int (n : Nat)), none, none]) (by show [_, _, _, some (V.int (((gv.length : Nat) : Int) - 1)), none, none] = _; rw [hlast]) ?_
    -- wires = [(0, 1, ())]
    refine ⟨(by show 0 ≤ sizeLine; decide), fun u0 hu0 => ⟨(by show 3 ≤ sizeLine; decide), fun u1 hu1 => ⟨(by show 1 ≤ sizeLine; decide), fun lw hlw => ?_⟩⟩⟩
    have r1 := same_new (o := .tup []) hu0
    have w0 : SqT K (upd Hg u0 (.tup [])) u0 (([] : List Int).map V.int) := .inl (.inl upd_same)
    generalize upd Hg u0 (.tup []) = Hh at r1 w0 hu1 hlw
    have r2 := same_new (o := .tup [.int 0, .int 1, .ref u0]) hu1
    have w1 : WireV K (upd Hh u1 (.tup [.int 0, .int 1, .ref u0])) (.ref u1) (0, 1, []) := ⟨u1, u0, rfl, .inl (.inl upd_same), (TK.same r2).seq w0⟩
    generalize upd Hh u1 (.tup [.int 0, .int 1, .ref u0]) = Hi at r2 w1 hlw
    have r3 := same_new (o := .lst [.ref u1]) hlw
    have W1 : LW K (upd Hi lw (.lst [.ref u1])) lw [(0, 1, [])] := ⟨_, upd_same, All2.cons (w1.tk (TK.same r3)) All2.nil⟩
    generalize upd Hi lw (.lst [.ref u1]) = Hj at r3 W1
    have r := (r1.trans r2).trans r3
    have hlwg : Hg lw = none := (r1.trans r2).free hlw
    have hlw0 : H lw = none := Dg.free hw hlwg
    have nlw : lw ≠ wl := (hw.ne hlw0).symm
    have nlgw : lg ≠ lw := ne_of_none hgv hlwg
    have Dj : Dr wl Hg Hj := ⟨But.same r, Dg.well.same r⟩
    clear r r3 r2 r1 w1 w0
    refine gn_norm (σ' := [some (.ref wl), some (.ref lg), s2, some (.int (n : Nat)), some (.ref lw), none]) rfl ?_
    refine ⟨_, rfl, _, _, rfl, by omega, ?_⟩
    have hn3 : (((n : Nat) : Int) - 1).toNat = n - 1 := by omega
    rw [hn3]
    refine for_range (lo := 1) (n := n - 1) (fun i σ Hc => ∃ (s2 : Option V) (ws : List Wr), σ = [some (.ref wl), some (.ref lg), s2, some (.int (n : Nat)), some (.ref lw), none] ∧ RowW (i + 1) ws ∧ LW K Hc lw ws ∧ Dr wl Hg Hc)
      ⟨_, [(0, 1, [])], rfl, RowW.nil.push (by intro y hy; cases hy) (by decide), W1, Dj⟩ ?_ ?_
    · rintro i σ Hc hi ⟨s2', ws, rfl, hR, Wc, Dc⟩
      obtain ⟨wv, hwv, wa⟩ := id Wc
      have hwl : wv.length = i + 1 := by rw [wa.1, hR.len]
      have ei : (1 : Int) + (i : Nat) = ((i + 1 : Nat) : Int) := by omega
      rw [ei]
      refine gn_norm (σ' := [some (.ref wl), some (.ref lg), some (.int ((i + 1 : Nat) : Int)), some (.int (n : Nat)), some (.ref lw), none]) rfl ?_
      refine ⟨_, rfl, .inl ⟨rfl, _, SqL.of hwv⟩, _, rfl, _, rfl, _, _, rfl, rfl, _, rfl, (by show 3 ≤ sizeLine; decide), fun l hl => ?_⟩
      have D2 := Dc.trans (Dr.new (o := .lst [.int 0, .int 0, .int 1]) Dc.well hl)
      refine ⟨wl, l, _, rfl, (Dc.well.ne hl).symm, D2.well, SqL.of upd_same, by simp, by decide, fun v H3 hv E3 => ?_⟩
      obtain ⟨m, rfl, m0, m1⟩ : ∃ m : Int, v = .int m ∧ 0 ≤ m ∧ m ≤ 1 := by
        simp only [List.mem_cons, List.not_mem_nil, or_false] at hv
        rcases hv with h | h | h <;> exact ⟨_, h, by decide, by decide⟩
      have D3 := D2.trans E3
      refine ⟨_, rfl, by omega, by omega, fun R hR0 => ?_⟩
      refine draws_in (walk_range (lo := 0) (n := m.toNat)) (fun _ _ _ _ y => y.1) (by decide) rfl D3.well hR0 (by omega) (fun _ _ => trivial) fun H6 rs d6 hrs hro6 e6 => ?_
      have D6 := D3.trans d6
      refine ⟨R, _, rfl, .inl ⟨SqL.of e6, fun t1 ht1 => ?_⟩⟩
      have D7 := D6.trans (Dr.new (o := .tup (rs.map V.int)) D6.well ht1)
      refine ⟨(by show 3 ≤ sizeLine; decide), fun t2 ht2 => ?_⟩
      have E8 : Dr wl Hc (upd (upd H6 t1 (.tup (rs.map V.int))) t2 (.tup [.int ((i + 1 : Nat) : Int), .int (((i + 1 : Nat) : Int) + 1), .ref t1])) := ((((Dr.new (o := .lst [.int 0, .int 0, .int 1]) Dc.well hl).trans E3).trans d6).trans (Dr.new (o := .tup (rs.map V.int)) D6.well ht1)).trans (Dr.new (o := .tup [.int ((i + 1 : Nat) : Int), .int (((i + 1 : Nat) : Int) + 1), .ref t1]) D7.well ht2)
      have w8 : WireV K (upd (upd H6 t1 (.tup (rs.map V.int))) t2 (.tup [.int ((i + 1 : Nat) : Int), .int (((i + 1 : Nat) : Int) + 1), .ref t1])) (.ref t2) (i + 1, i + 1 + 1, rs) := ⟨t2, t1, rfl, .inl (.inl upd_same), (TK.new ht2).seq (.inl (.inl upd_same))⟩
      generalize upd (upd H6 t1 (.tup (rs.map V.int))) t2 (.tup [.int ((i + 1 : Nat) : Int), .int (((i + 1 : Nat) : Int) + 1), .ref t1]) = H8 at E8 w8
      have hwv8 := E8.but _ _ nlw hwv
      refine ⟨lw, wv, _, rfl, rfl, hwv8, small1000 (by omega), _, _, rfl, hR.push hro6 (by omega), LW.push hwv8 (wa.imp fun _ _ r => r.tk (TK.dr Dc.well E8.but)) w8, set_well (Dc.trans E8) hlwg nlw⟩
    rintro σ H9 ⟨s2', ws, rfl, hR, W9, D9⟩
    have en : n - 1 + 1 = n := by omega
    rw [en] at hR
    obtain ⟨wv, hwv, wa⟩ := id W9
    have hwl : wv.length = n := by rw [wa.1, hR.len]
    -- the wire that leads back
    refine ⟨_, rfl, .inl ⟨rfl, _, SqL.of hwv⟩, _, rfl, _, rfl, wl, 51, rfl, by decide, by decide, D9.well, fun d H10 da db E10 => ?_⟩
    refine ⟨_, _, rfl, rfl, _, rfl, by omega, by omega, fun R hR0 => ?_⟩
    have D10 := D9.trans E10
    refine draws_in (walk_range (lo := 0) (n := (100 + d).toNat)) (fun _ _ _ _ y => y.1) (by decide) rfl D10.well hR0 (by omega) (fun _ _ => trivial) fun H6 rs d6 hrs hro6 e6 => ?_
    have D6 := D10.trans d6
    refine ⟨R, _, rfl, .inl ⟨SqL.of e6, fun t1 ht1 => ?_⟩⟩
    have D7 := D6.trans (Dr.new (o := .tup (rs.map V.int)) D6.well ht1)
    refine ⟨(by show 3 ≤ sizeLine; decide), fun t2 ht2 => ?_⟩
    have E8 : Dr wl H9 (upd (upd H6 t1 (.tup (rs.map V.int))) t2 (.tup [.int ((n : Nat) : Int), .int 1, .ref t1])) := ((E10.trans d6).trans (Dr.new (o := .tup (rs.map V.int)) D6.well ht1)).trans (Dr.new (o := .tup [.int ((n : Nat) : Int), .int 1, .ref t1]) D7.well ht2)
    have w8 : WireV K (upd (upd H6 t1 (.tup (rs.map V.int))) t2 (.tup [.int ((n : Nat) : Int), .int 1, .ref t1])) (.ref t2) (n, 1, rs) := ⟨t2, t1, rfl, .inl (.inl upd_same), (TK.new ht2).seq (.inl (.inl upd_same))⟩
    generalize upd (upd H6 t1 (.tup (rs.map V.int))) t2 (.tup [.int ((n : Nat) : Int), .int 1, .ref t1]) = H8 at E8 w8
    have hwv8 := E8.but _ _ nlw hwv
    have D8 := set_well (o := .lst (wv ++ [.ref t2])) (D9.trans E8) hlwg nlw
    have W11 := LW.push hwv8 (wa.imp fun _ _ r => r.tk (TK.dr D9.well E8.but)) w8
    refine ⟨lw, wv, _, rfl, rfl, hwv8, small1000 (by omega), ?_⟩
    generalize upd H8 lw (.lst (wv ++ [.ref t2])) = H11 at D8 W11
    have M11 : MoreW n (ws ++ [(n, 1, rs)]) := (hR.more (Nat.le_refl n) (by omega)).push ⟨Nat.le_refl n, Nat.le_refl 1, by show 1 ≤ n + 1; omega, hro6, by show rs.length ≤ 200; omega, fun z => by exfalso; have z : rs = [] := z; rw [z] at hrs; simp at hrs; omega⟩
    have c11 : cnt (ws ++ [(n, 1, rs)]) (n + 1) = 0 := by
      rw [cnt_app, hR.cn, if_neg (by omega), if_neg (by show ¬ 1 = n + 1; omega)]
    have l11 : (ws ++ [(n, 1, rs)]).length = n + 1 := by rw [List.length_append, hR.len]; rfl
    generalize ws ++ [(n, 1, rs)] = ws2 at W11 M11 c11 l11
    have G11 := LG.dr (gs := ioG inner) ⟨gv, hgv, ga⟩ nlg Dg.well D8
    -- the outputs
    obtain ⟨gv2, hgv2, ga2⟩ := id G11
    have hgl2 : gv2.length = n + 1 := by rw [ga2.1, ← ga.1, hgl]
    refine ⟨_, rfl, (by show 2 ≤ sizeLine; decide), fun a1 ha1 => ⟨(by show 1 ≤ sizeLine; decide), fun a2 ha2 => ?_⟩⟩
    have r1 := same_new (o := .tup [.str "out", .int 0]) ha1
    have o1 : GateV K (upd H11 a1 (.tup [.str "out", .int 0])) (.ref a1) (("out" : Str), (0 : Int)) := ⟨a1, rfl, .inl (.inl upd_same)⟩
    generalize upd H11 a1 (.tup [.str "out", .int 0]) = H12 at r1 o1 ha2
    have r2 := same_new (o := .lst [.ref a1]) ha2
    have e2 : (upd H12 a2 (.lst [.ref a1])) a2 = some (.lst [.ref a1]) := upd_same
    generalize upd H12 a2 (.lst [.ref a1]) = H13 at r2 e2
    have r12 := r1.trans r2
    refine ⟨lg, a2, gv2, _, rfl, rfl, r12 _ _ hgv2, e2, ?_, fun lg2 hlg2 => ?_⟩
    · show gv2.length + 1 ≤ sizeLine
      exact Nat.le_of_lt (small1000 (by omega))
    have r3 := same_new (o := .lst (gv2 ++ [.ref a1])) hlg2
    have r13 := r12.trans r3
    have G14 : LG K (upd H13 lg2 (.lst (gv2 ++ [.ref a1]))) lg2 (greatG inner) := ⟨_, upd_same, (ga2.imp fun _ _ r => r.tk (TK.same r13)).snoc (o1.tk (TK.same (r2.trans r3)))⟩
    generalize upd H13 lg2 (.lst (gv2 ++ [.ref a1])) = H14 at r3 r13 G14
    have hlg20 : H11 lg2 = none := r12.free hlg2
    have D14 : Dr wl Hg H14 := ⟨(fun b o n e => r13 _ _ (D8.but b o n e)), D8.well.same r13⟩
    -- the last wire
    refine ⟨_, rfl, _, rfl, _, rfl, wl, _, rfl, by omega, by omega, D14.well, fun d H15 dc dd E15 => ?_⟩
    obtain ⟨d, rfl⟩ : ∃ z : Nat, d = (z : Int) := ⟨d.toNat, by omega⟩
    refine ⟨_, _, rfl, rfl, _, rfl, _, _, rfl, rfl, (by show 0 ≤ sizeLine; decide), fun b0 hb0 => ⟨(by show 3 ≤ sizeLine; decide), fun b1 hb1 => ⟨(by show 1 ≤ sizeLine; decide), fun b2 hb2 => ?_⟩⟩⟩
    have x1 := same_new (o := .tup []) hb0
    have y0 : SqT K (upd H15 b0 (.tup [])) b0 (([] : List Int).map V.int) := .inl (.inl upd_same)
    generalize upd H15 b0 (.tup []) = H16 at x1 y0 hb1 hb2
    have x2 := same_new (o := .tup [.int (1 + (d : Int)), .int ((n : Nat) + 1 : Int), .ref b0]) hb1
    have y1 : WireV K (upd H16 b1 (.tup [.int (1 + (d : Int)), .int ((n : Nat) + 1 : Int), .ref b0])) (.ref b1) (1 + d, n + 1, []) := ⟨b1, b0, rfl, .inl (.inl (by rw [upd_same]; simp only [Int.natCast_add, Int.natCast_one])), (TK.same x2).seq y0⟩
    generalize upd H16 b1 (.tup [.int (1 + (d : Int)), .int ((n : Nat) + 1 : Int), .ref b0]) = H17 at x2 y1 hb2
    have x3 := same_new (o := .lst [.ref b1]) hb2
    have e3 : (upd H17 b2 (.lst [.ref b1])) b2 = some (.lst [.ref b1]) := upd_same
    generalize upd H17 b2 (.lst [.ref b1]) = H18 at x3 e3
    have x := (x1.trans x2).trans x3
    have E1518 : Dr wl H14 H18 := E15.trans ⟨But.same x, E15.well.same x⟩
    have D18 := D14.trans E1518
    obtain ⟨wv2, hwv2, wa2⟩ := id W11
    have hwl2 : wv2.length = n + 1 := by rw [wa2.1, l11]
    have hwv18 := E1518.but _ _ nlw (r13 _ _ hwv2)
    have wa18 := (wa2.imp fun _ _ r => r.tk (TK.same r13)).imp fun _ _ r => r.tk (TK.dr D14.well E1518.but)
    have hlg2H : Hg lg2 = none := D8.free Dg.well hlg20
    have nlg2 : lg2 ≠ wl := (Dg.well.ne hlg2H).symm
    have G18 := G14.dr nlg2 D14.well E1518
    refine ⟨lw, b2, wv2, _, rfl, rfl, hwv18, e3, ?_, fun lw2 hlw2 => ?_⟩
    · show wv2.length + 1 ≤ sizeLine
      exact Nat.le_of_lt (small1000 (by omega))
    have x4 := same_new (o := .lst (wv2 ++ [.ref b1])) hlw2
    have W19 : LW K (upd H18 lw2 (.lst (wv2 ++ [.ref b1]))) lw2 (ws2 ++ [(1 + d, n + 1, [])]) := ⟨_, upd_same, (wa18.imp fun _ _ r => r.tk (TK.same x4)).snoc (y1.tk (TK.same (x3.trans x4)))⟩
    generalize upd H18 lw2 (.lst (wv2 ++ [.ref b1])) = H19 at x4 W19
    have hlw2g : Hg lw2 = none := D18.free Dg.well hlw2
    have n2 : lg2 ≠ lw2 := by
      obtain ⟨z, hz, _⟩ := id G18
      exact ne_of_none hz hlw2
    refine ⟨(by show 2 ≤ sizeLine; decide), fun p hp => ?_⟩
    have x5 := same_new (o := .tup [.ref lg2, .ref lw2]) hp
    have x45 := x4.trans x5
    have gw : GrW inner.length (ws2 ++ [(1 + d, n + 1, [])]) := by
      rw [hil]
      have M := M11.push (x := (1 + d, n + 1, [])) ⟨by show 1 + d ≤ n; omega, by show 1 ≤ n + 1; omega, Nat.le_refl (n + 1), (by intro y hy; cases hy), Nat.zero_le _, fun _ => by show 1 + d < n + 1; omega⟩
      refine ⟨M.ok, ?_, M.some, by rw [List.length_append, l11]; show n + 1 + 1 ≤ 200; omega⟩
      rw [cnt_app, c11, if_pos rfl]
    have D19 : Dr wl Hg (upd H19 p (.tup [.ref lg2, .ref lw2])) := ⟨(fun b o n e => x45 _ _ (D18.but b o n e)), D18.well.same x45⟩
    exact q _ _ lg2 lw2 p _ (great_net hin (by omega) gw) (fun x hx h0 => (gw.ok x hx).2.2.2.2.2 h0) (great_ins hin) (by rw [greatG_len, hil]; omega) (Dg.trans D19) (Dg.free hw hlg2H) (Dg.free hw hlw2g) n2 (G18.dr nlg2 D18.well ⟨But.same x45, D18.well.same x45⟩) (W19.dr ((Dg.well.ne hlw2g).symm) (D18.well.same x4) ⟨But.same x5, (D18.well.same x4).same x5⟩) upd_same
end
end Lag

set_option maxRecDepth 100000
set_option maxHeartbeats 8000000
namespace Lag
open PySem PySem.Spec PyProof.Rows L2
section
variable {P : Program} {w : World} {K : PySem.W.Frag} {mg : Str → Option Value} {base : Heap}
abbrev nLThirty : List Str := ["_law_well_here", "_law_gates", "_law_k", "_law_wires", "_law_turn", "_law_start", "_law_end", "_law_many", "_law_j"]
theorem scLThirty : FnScope nLThirty ["_law_well_here"] (defScope sLThirty) := ⟨rfl, rfl, rfl, by decide +kernel, rfl, by decide +kernel, by decide +kernel⟩
abbrev DLThirty (P : Program) (w : World) (K : PySem.W.Frag) (mg : Str → Option Value) (base : Heap) := Df P w K mg base 3 "_law_thirty" ["_law_well_here"] (spGreat K)
theorem ok_lthirty {f fD fO : Addr} {fd fdD fdO : FuncData} (F : Fun K "_law_thirty" "_law_thirty" sLThirty f fd) (hm : mg "_law_thirty" = some (.ref f)) (B : Bt mg) (DD : DDraw P w K mg base fD fdD) (DO : DOne P w K mg base fO fdO) : DLThirty P w K mg base f fd := by
  refine ⟨?_, hm, F.kp, F.binds fun _ _ _ _ _ _ us hl => match us, hl with | [_], _ => rfl⟩
  refine F.ok scLThirty (fun vs H Q E h => ?_) (fun cdv A outer s H vs Q E hr h => ?_)
  · obtain ⟨wl, rfl, _⟩ := h
    rfl
  · obtain ⟨wl, rfl, hw, q⟩ := h
    have nd := scLThirty.nd
    have hr1 : Room 1 _ := hr.mono (by decide)
    have hr2 : Room 2 _ := hr.mono (by decide)
    refine ⟨_, pss_cons (ps_set (i := 1) nd rfl (.inl rfl) (pe_lst (pa_cons (pe_tup (pa_cons pe_str (pa_cons pe_int pa_nil))) pa_nil))) <|
        pss_cons (ps_for PassesOwn.never rfl (pi_range1 (by rfl) B.range (pa_cons (pe_op op_add pe_int (pe_call DD.ok hr1 (by rfl) DD.mg DD.kp DD.bd .nil pass0 (pa_cons (pv 0) (pa_cons pe_int pa_nil)))) pa_nil)) (pg_name (i := 2) nd rfl (.inl rfl)) (pss_one (ps_expr (pe_bm PySem.F.plainAttrs_list PySem.F.slot_list_append PySem.F.type_list_append mt_append (pv 1) (pa_cons (pe_tup (pa_cons (pe_call DO.ok hr2 (by rfl) DO.mg DO.kp DO.bd .nil pass0 (pa_cons (pv 0) (pa_cons (pe_lst (pa_cons pe_str (pa_cons pe_str (pa_cons pe_str (pa_cons pe_str (pa_cons pe_str (pa_cons pe_str pa_nil))))))) pa_nil))) (pa_cons (pe_call DD.ok hr1 (by rfl) DD.mg DD.kp DD.bd .nil pass0 (pa_cons (pv 0) (pa_cons pe_int pa_nil))) pa_nil))) pa_nil))))) <|
        pss_cons (ps_setLc (i := 3) (own := [("_law_k", 2)]) (g := (gName 2)) (tt := tYes) (te := (tTup (tCons (tVar 2) (tCons (tOp (rI0 fun i j => .int (i + j)) (tVar 2) (tC (.int 1))) (tCons (tTup tNil) tNil))))) rfl nd rfl rfl (sw_true rfl rfl rfl (by decide +kernel)) (pi_range1 (by rfl) B.range (pa_cons (pe_callB call_len_seq (by rfl) B.len PySem.boot_len (pa_cons (pv 1) pa_nil)) pa_nil)) (blkOk_by (N := nLThirty) (sc := defScope sLThirty) (own := [("_law_k", 2)]) (by decide +kernel)) (fun _ _ _ _ _ => (pg_name (i := 2) nd rfl (.inl rfl))) (fun _ _ _ _ _ => pts_nil) (fun _ _ _ _ _ => (pe_tup (pa_cons (pv 2) (pa_cons (pe_op op_add (pv 2) pe_int) (pa_cons (pe_tup pa_nil) pa_nil)))))) <|
        pss_cons (ps_for PassesOwn.never rfl (pi_range1 (by rfl) B.range (pa_cons (pe_op op_sub pe_int (pe_callB call_len_seq (by rfl) B.len PySem.boot_len (pa_cons (pv 3) pa_nil))) pa_nil)) (pg_name (i := 4) nd rfl (.inl rfl)) (pss_cons (ps_set (i := 5) nd rfl (.inl rfl) (pe_call DD.ok hr1 (by rfl) DD.mg DD.kp DD.bd .nil pass0 (pa_cons (pv 0) (pa_cons (pe_callB call_len_seq (by rfl) B.len PySem.boot_len (pa_cons (pv 1) pa_nil)) pa_nil)))) <|
        pss_cons (ps_set (i := 6) nd rfl (.inl rfl) (pe_op op_add (pv 5) (pe_call DD.ok hr1 (by rfl) DD.mg DD.kp DD.bd .nil pass0 (pa_cons (pv 0) (pa_cons (pe_op op_sub (pe_callB call_len_seq (by rfl) B.len PySem.boot_len (pa_cons (pv 1) pa_nil)) (pv 5)) pa_nil))))) <|
        pss_cons (ps_set (i := 7) nd rfl (.inl rfl) (pe_call DD.ok hr1 (by rfl) DD.mg DD.kp DD.bd .nil pass0 (pa_cons (pv 0) (pa_cons pe_int pa_nil)))) <|
        Evl.pss_cut (ps_if (pt_cmpR op_eq (pv 6) (pv 5) (nomark _)) (pss_one (ps_set (i := 7) nd rfl (.inl rfl) pe_int)) pss_nil) <|
        Evl.pss_cut (ps_if (pt_cmpR op_eq (pv 6) pe_int (nomark _)) (pss_one (ps_set (i := 6) nd rfl (.inl rfl) pe_int)) pss_nil) <|
        pss_one (ps_expr (pe_bm PySem.F.plainAttrs_list PySem.F.slot_list_append PySem.F.type_list_append mt_append (pv 3) (pa_cons (pe_tup (pa_cons (pv 5) (pa_cons (pv 6) (pa_cons (pe_callTy call_tuple_of (by rfl) B.tuple (by decide +kernel) (pa_cons (pe_lc (own := [("_law_j", 8)]) (g := (gName 8)) (tt := tYes) (te := (tCall spDraw [] E0 (tCons (tVar 0) (tCons (tC (.int 97)) tNil)))) rfl nd (pi_range1 (by rfl) B.range (pa_cons (pv 7) pa_nil)) (blkOk_by (N := nLThirty) (sc := defScope sLThirty) (own := [("_law_j", 8)]) (by decide +kernel)) (fun _ _ _ _ _ => (pg_name (i := 8) nd rfl (.inl rfl))) (fun _ _ _ _ _ => pts_nil) (fun _ _ _ _ _ => (pe_call DD.ok hr1 (by rfl) DD.mg DD.kp DD.bd .nil pass0 (pa_cons (pv 0) (pa_cons pe_int pa_nil))))) pa_nil)) pa_nil)))) pa_nil))))) <|
        pss_one (ps_ret (pe_tup (pa_cons (pe_op op_cat (pv 1) (pe_lst (pa_cons (pe_tup (pa_cons pe_str (pa_cons pe_int pa_nil))) pa_nil))) (pa_cons (pv 3) pa_nil)))), ?_⟩
    -- the gates
    refine ⟨(by show 2 ≤ sizeLine; decide), fun t0 ht0 => ⟨(by show 1 ≤ sizeLine; decide), fun lg hlg => ?_⟩⟩
    have s0 : Same H (upd H t0 (.tup [.str "in", .int 0])) := same_new ht0
    have g0 : GateV K (upd H t0 (.tup [.str "in", .int 0])) (.ref t0) (("in" : Str), (0 : Int)) := ⟨t0, rfl, .inl (.inl upd_same)⟩
    generalize upd H t0 (.tup [.str "in", .int 0]) = Ha at s0 g0 hlg
    have s1 : Same Ha (upd Ha lg (.lst [.ref t0])) := same_new hlg
    have e1 : (upd Ha lg (.lst [.ref t0])) lg = some (.lst [.ref t0]) := upd_same
    have G1 : LG K (upd Ha lg (.lst [.ref t0])) lg (ioG []) := ⟨_, e1, All2.cons (g0.tk (TK.same s1)) All2.nil⟩
    generalize upd Ha lg (.lst [.ref t0]) = Hb at s1 G1 e1
    have hlg0 : H lg = none := s0.free hlg
    have nlg : lg ≠ wl := (hw.ne hlg0).symm
    have Db : Dr wl H Hb := ⟨But.same (s0.trans s1), hw.same (s0.trans s1)⟩
    refine gn_norm (σ' := [some (.ref wl), some (.ref lg), none, none, none, none, none, none, none]) rfl ?_
    refine ⟨_, rfl, wl, 5, rfl, by decide, by decide, Db.well, fun d0 H1 d00 d01 E1 => ?_⟩
    have D1 := Db.trans E1
    have G2 := G1.dr nlg Db.well E1
    refine ⟨_, _, rfl, rfl, _, rfl, by omega, by omega, ?_⟩
    obtain ⟨n, hn⟩ : ∃ n : Nat, (6 + d0).toNat = n := ⟨_, rfl⟩
    have hn1 : 6 ≤ n := by omega
    have hn2 : n ≤ 11 := by omega
    rw [hn]
    refine for_range (lo := 0) (n := n) (fun i σ Hc => ∃ (s2 : Option V) (inner : List Gt), σ = [some (.ref wl), some (.ref lg), s2, none, none, none, none, none, none] ∧ inner.length = i ∧ InOk inner ∧ LG K Hc lg (ioG inner) ∧ Dr wl H Hc)
      ⟨none, [], rfl, rfl, (fun g hg => by simp at hg), G2, D1⟩ ?_ ?_
    · rintro i σ Hc hi ⟨s2, inner, rfl, hil, hin, Gc, Dc⟩
      obtain ⟨gv, hgv, ga⟩ := id Gc
      have hgl : gv.length = i + 1 := by rw [ga.1, ← hil]; rfl
      refine gn_norm (σ' := [some (.ref wl), some (.ref lg), some (.int (0 + (i : Nat))), none, none, none, none, none, none]) rfl ?_
      refine ⟨_, rfl, .inl ⟨rfl, _, SqL.of hgv⟩, _, rfl, (by show 6 ≤ sizeLine; decide), fun l hl => ?_⟩
      have D2 := Dc.trans (Dr.new (o := .lst [.str "sum", .str "most", .str "least", .str "first", .str "times", .str "one"]) Dc.well hl)
      have nlw : l ≠ wl := (Dc.well.ne hl).symm
      refine ⟨wl, l, _, rfl, nlw, D2.well, SqL.of upd_same, by simp, by decide, fun v H3 hv E3 => ?_⟩
      obtain ⟨k, rfl, k1, k2, k3⟩ := kinds6 hv
      have D3 := D2.trans E3
      refine ⟨_, rfl, wl, 10, rfl, by decide, by decide, D3.well, fun d H4 dd0 dd1 E4 => ?_⟩
      have D4 := D3.trans E4
      refine ⟨(by show 2 ≤ sizeLine; decide), fun p hp => ?_⟩
      have E45 := (Dr.new (o := .tup [.str k, .int d]) D4.well hp)
      have Ec5 : Dr wl Hc (upd H4 p (.tup [.str k, .int d])) := (((Dr.new (o := .lst [.str "sum", .str "most", .str "least", .str "first", .str "times", .str "one"]) Dc.well hl).trans E3).trans E4).trans E45
      have D5 := D4.trans E45
      have hgv5 := Ec5.but _ _ nlg hgv
      have g5 : GateV K (upd H4 p (.tup [.str k, .int d])) (.ref p) (k, d) := ⟨p, rfl, .inl (.inl upd_same)⟩
      generalize upd H4 p (.tup [.str k, .int d]) = H5 at E45 Ec5 D5 hgv5 g5
      refine ⟨lg, gv, _, rfl, rfl, hgv5, small1000 (by omega), _, inner ++ [(k, d)], rfl, by rw [List.length_append, hil]; rfl, hin.push (gok_in k1 k2 k3 dd0 dd1), ?_, set_well D5 hlg0 nlg⟩
      exact LG.push hgv5 (ga.imp fun _ _ r => r.tk (TK.dr Dc.well Ec5.but)) g5
    rintro σ Hg ⟨s2, inner, rfl, hil, hin, Gg, Dg⟩
    obtain ⟨gv, hgv, ga⟩ := id Gg
    have hgl : gv.length = n + 1 := by rw [ga.1, ← hil]; rfl
    clear Gg G2 G1 D1 E1 Db s1 e1 s0 g0
    -- the row of wires
    refine ⟨_, rfl, lg, _, rfl, .inl (SqL.of hgv), _, rfl, by omega, by omega, fun lw hlw => ?_⟩
    have hlw0 : H lw = none := Dg.free hw hlw
    have nlw : lw ≠ wl := (hw.ne hlw0).symm
    have nlgw : lg ≠ lw := ne_of_none hgv hlw
    rw [Int.toNat_natCast, hgl]
    refine lc_range (lo := 0) (n := n + 1) (fun j Hc => ∃ (wv : List V) (ws : List Wr), Hc lw = some (.lst wv) ∧ All2 (WireV K Hc) wv ws ∧ RowW j ws ∧ Same Hg Hc) ⟨[], [], upd_same, All2.nil, RowW.nil, same_new hlw⟩ ?_ ?_
    · rintro j Hc hj ⟨wv, ws, hwv, wa, hR, sm⟩
      have ej : (0 : Int) + (j : Nat) = ((j : Nat) : Int) := Int.zero_add _
      rw [ej]
      have hwl : wv.length = j := by rw [wa.1, hR.len]
      refine ⟨rfl, tyes ?_⟩
      refine ⟨_, rfl, _, rfl, _, _, rfl, rfl, (by show 0 ≤ sizeLine; decide), fun u0 hu0 => ⟨(by show 3 ≤ sizeLine; decide), fun u1 hu1 => ?_⟩⟩
      have r1 := same_new (o := .tup []) hu0
      have w0 : SqT K (upd Hc u0 (.tup [])) u0 (([] : List Int).map V.int) := .inl (.inl upd_same)
      generalize upd Hc u0 (.tup []) = Hh at r1 w0 hu1
      have r2 := same_new (o := .tup [.int (j : Nat), .int ((j : Nat) + 1 : Int), .ref u0]) hu1
      have w1 : WireV K (upd Hh u1 (.tup [.int (j : Nat), .int ((j : Nat) + 1 : Int), .ref u0])) (.ref u1) (j, j + 1, []) := ⟨u1, u0, rfl, .inl (.inl upd_same), (TK.same r2).seq w0⟩
      generalize upd Hh u1 (.tup [.int (j : Nat), .int ((j : Nat) + 1 : Int), .ref u0]) = Hi at r2 w1
      have r := r1.trans r2
      have hwv2 := r _ _ hwv
      have W2 := LW.push hwv2 (wa.imp fun _ _ y => y.tk (TK.same r)) w1
      obtain ⟨z, hz, za⟩ := W2
      rw [upd_same] at hz
      cases hz
      exact ⟨wv, hwv2, small1000 (by omega), _, _, upd_same, za, hR.push (by intro y hy; cases hy) (by decide), same_mut (sm.trans r) hlw⟩
    rintro Hj ⟨wv0, ws0, hwv0, wa0, hR0, sj⟩
    have hwl0 : wv0.length = n + 1 := by rw [wa0.1, hR0.len]
    have Dj : Dr wl Hg Hj := ⟨But.same sj, Dg.well.same sj⟩
    have M0 : MoreW n ws0 := hR0.more (by omega) (Nat.le_refl _)
    have c0 : cnt ws0 (n + 1) = 1 := by rw [hR0.cn, if_pos (by omega)]
    have l0 := hR0.len
    refine gn_norm (σ' := [some (.ref wl), some (.ref lg), s2, some (.ref lw), none, none, none, none, none]) rfl ?_
    -- thirty of them
    refine ⟨_, rfl, lw, _, rfl, .inl (SqL.of hwv0), _, _, rfl, rfl, _, rfl, by omega, by omega, ?_⟩
    obtain ⟨m, hm⟩ : ∃ m : Nat, ((30 : Int) - ((wv0.length : Nat) : Int)).toNat = m := ⟨_, rfl⟩
    have hm30 : m ≤ 30 := by omega
    rw [hm]
    refine for_range (lo := 0) (n := m) (fun i σ Hc => ∃ (s4 s5 s6 s7 : Option V) (ws : List Wr), σ = [some (.ref wl), some (.ref lg), s2, some (.ref lw), s4, s5, s6, s7, none] ∧ MoreW n ws ∧ cnt ws (n + 1) = 1 ∧ ws.length = n + 1 + i ∧ LW K Hc lw ws ∧ Dr wl Hg Hc)
      ⟨_, _, _, _, ws0, rfl, M0, c0, l0, ⟨wv0, hwv0, wa0⟩, Dj⟩ ?_ ?_
    · rintro i σ Hc hi ⟨s4, s5, s6, s7, ws, rfl, hM, hc1, hwsl, Wc, Dc⟩
      obtain ⟨wv, hwv, wa⟩ := id Wc
      have hwl : wv.length = n + 1 + i := by rw [wa.1, hwsl]
      refine gn_norm (σ' := [some (.ref wl), some (.ref lg), s2, some (.ref lw), some (.int (0 + (i : Nat))), s5, s6, s7, none]) rfl ?_
      have hgvc := Dc.but _ _ nlg hgv
      refine ⟨_, rfl, _, rfl, lg, _, rfl, .inl (SqL.of hgvc), wl, _, rfl, by omega, by omega, Dc.well, fun st H1 d0 d1 E1 => ?_⟩
      obtain ⟨st, rfl⟩ : ∃ z : Nat, st = (z : Int) := ⟨st.toNat, by omega⟩
      have hst : st ≤ n := by omega
      have D1 := Dc.trans E1
      refine gn_norm (σ' := [some (.ref wl), some (.ref lg), s2, some (.ref lw), some (.int (0 + (i : Nat))), some (.int (st : Nat)), s6, s7, none]) rfl ?_
      refine ⟨_, rfl, _, rfl, _, rfl, lg, _, rfl, .inl (SqL.of (D1.but _ _ nlg hgv)), _, rfl, _, _, rfl, rfl, wl, _, rfl, by omega, by omega, D1.well, fun en H2 d2 d3 E2 => ?_⟩
      obtain ⟨en, rfl⟩ : ∃ z : Nat, en = (z : Int) := ⟨en.toNat, by omega⟩
      have hen : st + en ≤ n := by omega
      have D2 := D1.trans E2
      refine ⟨_, _, rfl, rfl, ?_⟩
      have ee : ((st : Nat) : Int) + ((en : Nat) : Int) = ((st + en : Nat) : Int) := by omega
      refine gn_norm (σ' := [some (.ref wl), some (.ref lg), s2, some (.ref lw), some (.int (0 + (i : Nat))), some (.int (st : Nat)), some (.int ((st + en : Nat) : Int)), s7, none]) (by show [_, _, _, _, _, _, some (V.int (((st : Nat) : Int) + ((en : Nat) : Int))), _, _] = _; rw [ee]) ?_
      refine ⟨_, rfl, wl, 3, rfl, by decide, by decide, D2.well, fun mm H3 d4 d5 E3 => ?_⟩
      have D3 := D2.trans E3
      have Ec3 := (E1.trans E2).trans E3
      clear D2 D1 E3 E2 E1
      refine gn_norm (σ' := [some (.ref wl), some (.ref lg), s2, some (.ref lw), some (.int (0 + (i : Nat))), some (.int (st : Nat)), some (.int ((st + en : Nat) : Int)), some (.int mm), none]) rfl ?_
      refine ⟨fun σ H' => ∃ q : Int, σ = [some (.ref wl), some (.ref lg), s2, some (.ref lw), some (.int (0 + (i : Nat))), some (.int (st : Nat)), some (.int ((st + en : Nat) : Int)), some (.int q), none] ∧ H' = H3 ∧ 0 ≤ q ∧ q ≤ 2 ∧ (en = 0 → q = 2), ?_, ?_⟩
      · refine ⟨_, rfl, _, rfl, rfl, _, rfl, ite2 (fun e => ?_) (fun e => ?_)⟩
        · exact ⟨2, rfl, rfl, by decide, by decide, fun _ => rfl⟩
        · refine ⟨mm, rfl, rfl, d4, by omega, fun z => ?_⟩
          exfalso
          apply e
          refine decide_eq_true ?_
          rw [z]
          rfl
      rintro σ H3' ⟨q, rfl, rfl, q0, q2, qe⟩
      refine ⟨fun σ H' => ∃ z : Nat, σ = [some (.ref wl), some (.ref lg), s2, some (.ref lw), some (.int (0 + (i : Nat))), some (.int (st : Nat)), some (.int (z : Nat)), some (.int q), none] ∧ H' = H3' ∧ 1 ≤ z ∧ z ≤ n ∧ (q = 0 → st < z), ?_, ?_⟩
      · refine ⟨_, rfl, rfl, _, rfl, ite2 (fun e => ?_) (fun e => ?_)⟩
        · have e1 := V.int.inj (of_decide_eq_true e)
          refine ⟨1, rfl, rfl, Nat.le_refl _, by omega, fun z => ?_⟩
          have := qe (by omega)
          omega
        · refine ⟨st + en, rfl, rfl, ?_, hen, fun z => ?_⟩
          · rcases Nat.eq_zero_or_pos (st + en) with h | h
            · exfalso
              apply e
              refine decide_eq_true ?_
              rw [h]
              rfl
            · exact h
          · rcases Nat.eq_zero_or_pos en with h | h
            · have := qe h
              omega
            · omega
      rintro σ H4 ⟨ez, rfl, rfl, z1, z2, zq⟩
      have hwv3 := Ec3.but _ _ nlw hwv
      refine ⟨_, rfl, .inl ⟨rfl, _, SqL.of hwv3⟩, _, rfl, _, rfl, _, rfl, _, rfl, by omega, by omega, fun R hR0' => ?_⟩
      refine draws_in (walk_range (lo := 0) (n := q.toNat)) (fun _ _ _ _ y => y.1) (by decide) rfl D3.well hR0' (by omega) (fun _ _ => trivial) fun H6 rs d6 hrs hro6 e6 => ?_
      have D6 := D3.trans d6
      refine ⟨R, _, rfl, .inl ⟨SqL.of e6, fun t1 ht1 => ?_⟩⟩
      have D7 := D6.trans (Dr.new (o := .tup (rs.map V.int)) D6.well ht1)
      refine ⟨(by show 3 ≤ sizeLine; decide), fun t2 ht2 => ?_⟩
      have E8 : Dr wl Hc (upd (upd H6 t1 (.tup (rs.map V.int))) t2 (.tup [.int ((st : Nat) : Int), .int ((ez : Nat) : Int), .ref t1])) := ((Ec3.trans d6).trans (Dr.new (o := .tup (rs.map V.int)) D6.well ht1)).trans (Dr.new (o := .tup [.int ((st : Nat) : Int), .int ((ez : Nat) : Int), .ref t1]) D7.well ht2)
      have w8 : WireV K (upd (upd H6 t1 (.tup (rs.map V.int))) t2 (.tup [.int ((st : Nat) : Int), .int ((ez : Nat) : Int), .ref t1])) (.ref t2) (st, ez, rs) := ⟨t2, t1, rfl, .inl (.inl upd_same), (TK.new ht2).seq (.inl (.inl upd_same))⟩
      generalize upd (upd H6 t1 (.tup (rs.map V.int))) t2 (.tup [.int ((st : Nat) : Int), .int ((ez : Nat) : Int), .ref t1]) = H8 at E8 w8
      have hwv8 := E8.but _ _ nlw hwv
      refine ⟨lw, wv, _, rfl, rfl, hwv8, small1000 (by omega), _, _, _, _, ws ++ [(st, ez, rs)], rfl, hM.push ⟨hst, z1, by show ez ≤ n + 1; omega, hro6, by show rs.length ≤ 200; omega, fun z => ?_⟩, ?_, by rw [List.length_append, hwsl]; rfl, LW.push hwv8 (wa.imp fun _ _ r => r.tk (TK.dr Dc.well E8.but)) w8, set_well (Dc.trans E8) hlw nlw⟩
      · have z : rs = [] := z
        rw [z] at hrs
        exact zq (by simp at hrs; omega)
      · rw [cnt_app, hc1, if_neg (by show ¬ ez = n + 1; omega)]
    rintro σ H11 ⟨s4, s5, s6, s7, ws, rfl, hM, hc1, hwsl, W11, D8⟩
    have G11 := LG.dr (gs := ioG inner) ⟨gv, hgv, ga⟩ nlg Dg.well D8
    -- the outputs
    obtain ⟨gv2, hgv2, ga2⟩ := id G11
    have hgl2 : gv2.length = n + 1 := by rw [ga2.1, ← ga.1, hgl]
    refine ⟨_, rfl, (by show 2 ≤ sizeLine; decide), fun a1 ha1 => ⟨(by show 1 ≤ sizeLine; decide), fun a2 ha2 => ?_⟩⟩
    have r1 := same_new (o := .tup [.str "out", .int 0]) ha1
    have o1 : GateV K (upd H11 a1 (.tup [.str "out", .int 0])) (.ref a1) (("out" : Str), (0 : Int)) := ⟨a1, rfl, .inl (.inl upd_same)⟩
    generalize upd H11 a1 (.tup [.str "out", .int 0]) = H12 at r1 o1 ha2
    have r2 := same_new (o := .lst [.ref a1]) ha2
    have e2 : (upd H12 a2 (.lst [.ref a1])) a2 = some (.lst [.ref a1]) := upd_same
    generalize upd H12 a2 (.lst [.ref a1]) = H13 at r2 e2
    have r12 := r1.trans r2
    refine ⟨lg, a2, gv2, _, rfl, rfl, r12 _ _ hgv2, e2, ?_, fun lg2 hlg2 => ?_⟩
    · show gv2.length + 1 ≤ sizeLine
      exact Nat.le_of_lt (small1000 (by omega))
    have r3 := same_new (o := .lst (gv2 ++ [.ref a1])) hlg2
    have r13 := r12.trans r3
    have G14 : LG K (upd H13 lg2 (.lst (gv2 ++ [.ref a1]))) lg2 (greatG inner) := ⟨_, upd_same, (ga2.imp fun _ _ r => r.tk (TK.same r13)).snoc (o1.tk (TK.same (r2.trans r3)))⟩
    generalize upd H13 lg2 (.lst (gv2 ++ [.ref a1])) = H14 at r3 r13 G14
    have hlg20 : H11 lg2 = none := r12.free hlg2
    have D14 : Dr wl Hg H14 := ⟨(fun b o n e => r13 _ _ (D8.but b o n e)), D8.well.same r13⟩
    have hlg2H : Hg lg2 = none := D8.free Dg.well hlg20
    have n2 : lg2 ≠ lw := by
      obtain ⟨z, hz, _⟩ := id W11
      exact (ne_of_none hz hlg20).symm
    refine ⟨_, rfl, (by show 2 ≤ sizeLine; decide), fun p hp => ?_⟩
    have x5 := same_new (o := .tup [.ref lg2, .ref lw]) hp
    have x45 := r13.trans x5
    have gw : GrW inner.length ws := by
      rw [hil]
      exact ⟨hM.ok, hc1, hM.some, by omega⟩
    have D19 : Dr wl Hg (upd H14 p (.tup [.ref lg2, .ref lw])) := ⟨(fun b o n e => x45 _ _ (D8.but b o n e)), D8.well.same x45⟩
    exact q _ _ lg2 lw p _ (great_net hin (by omega) gw) (fun x hx h0 => (gw.ok x hx).2.2.2.2.2 h0) (great_ins hin) (by rw [greatG_len, hil]; omega) (Dg.trans D19) (Dg.free hw hlg2H) hlw0 n2 (G14.dr ((Dg.well.ne hlg2H).symm) D14.well ⟨But.same x5, D14.well.same x5⟩) (W11.dr nlw D8.well ⟨But.same x45, D8.well.same x45⟩) upd_same
end
end Lag

set_option maxRecDepth 100000
set_option maxHeartbeats 8000000
namespace Lag
open PySem PySem.Spec PyProof.Rows L2
abbrev sRight : Stmt := topS 66 -- @_law_right
theorem RR.take {K : PySem.W.Frag} {H : Hp} {l : Addr} {rss : List (List Int)} {vs : List V} (a : All2 (RowV K H) vs rss) (k : Nat) (e : H l = some (.lst (vs.take k))) : RR K H l (rss.take k) := ⟨_, SqL.of e, a.take k⟩
def spRightG (K : PySem.W.Frag) : Sp := fun vs H Q _ => ∃ (lg lw lo lr : Addr) (d : Nat) (gs : List Gt) (ws : List Wr) (os : List Nat) (rss : List (List Int)), vs = [.ref lg, .ref lw, .ref lo, .ref lr, .int (d : Nat)] ∧ LG K H lg gs ∧ LW K H lw ws ∧ NetOk gs ws ∧ SqL K H lo (os.map fun i => V.int (i : Nat)) ∧ OrdG gs ws os ∧ RR K H lr rss ∧ (∀ rs ∈ rss, RowOk gs rs) ∧ rss.length ≤ 200 ∧ d ≤ rss.length ∧ ∀ H', Q (.bl true) H'
section
variable {P : Program} {w : World} {K : PySem.W.Frag} {mg : Str → Option Value} {base : Heap}
abbrev nRight : List Str := ["_law_gates", "_law_wires", "_law_order", "_law_rows", "_law_at", "_law_net", "_law_behind", "_law_outs", "_law_later", "_law_found", "_law_half", "_law_first", "_law_last", "_law_rest"]
theorem scRight : FnScope nRight ["_law_gates", "_law_wires", "_law_order", "_law_rows", "_law_at"] (defScope sRight) := ⟨rfl, rfl, rfl, by decide +kernel, rfl, by decide +kernel, by decide +kernel⟩
abbrev DRight (P : Program) (w : World) (K : PySem.W.Frag) (mg : Str → Option Value) (base : Heap) := Df P w K mg base 11 "_law_right" ["_law_gates", "_law_wires", "_law_order", "_law_rows", "_law_at"] (spRightG K)
theorem ok_right {f C fI fE fO fT fR fN fX : Addr} {fd fdI fdE fdO fdT fdR fdN fdX : FuncData} (F : Fun K "_law_right" "_law_right" sRight f fd) (hm : mg "_law_right" = some (.ref f)) (B : Bt mg) (Z : NC P w K mg base C fI fE fO fdI fdE fdO) (sN : PySem.W.findIn K (.ref C) "__ne__" = some (some (.builtin "object.__ne__")))
    (DTl : DLTold P w K mg base fT fdT) (DRn : DRun P w K mg base C fR fdR) (DN : DNetT P w K mg base C fN fdN) (DX : DReadNet P w K mg base C fX fdX) : DRight P w K mg base f fd := by
  refine ⟨?_, hm, F.kp, F.binds fun _ _ _ _ _ _ us hl => match us, hl with | [_, _, _, _, _], _ => rfl⟩
  refine F.ok scRight (fun vs H Q E h => ?_) (fun cdv A outer s H vs Q E hr h => ?_)
  · obtain ⟨lg, lw, lo, lr, d, gs, ws, os, rss, rfl, _⟩ := h
    rfl
  · obtain ⟨lg, lw, lo, lr, d, gs, ws, os, rss, rfl, G0, W0, N, so, hO, R0, hro, hrl, hd, q⟩ := h
    have nd := scRight.nd
    have hr8 : Room 8 _ := hr.mono (by decide)
    have hr7 : Room 7 _ := hr.mono (by decide)
    have hr2 : Room 2 _ := hr.mono (by decide)
    have hr1 : Room 1 _ := hr.mono (by decide)
    refine ⟨_, pss_cons (ps_set (i := 5) nd rfl (.inl rfl) (pe_make Z.mk0 Z.init hr7 (by rfl) Z.T.mg Z.bI .nil pass0 (pa_cons (pv 0) (pa_cons (pv 1) pa_nil)))) <|
        pss_cons (ps_asg (pe_call DTl.ok hr2 (by rfl) DTl.mg DTl.kp DTl.bd .nil pass0 (pa_cons (pv 0) (pa_cons (pv 1) (pa_cons (pv 2) (pa_cons (pv 3) pa_nil))))) (pg_tup rfl (pgs_cons (pg_name (i := 6) nd rfl (.inl rfl)) (pgs_cons (pg_name (i := 7) nd rfl (.inl rfl)) pgs_nil)))) <|
        pss_cons (ps_asg (pe_call DRn.ok hr (by rfl) DRn.mg DRn.kp DRn.bd .nil pass0 (pa_cons (pv 5) (pa_cons (pv 3) pa_nil))) (pg_tup rfl (pgs_cons (pg_name (i := 8) nd rfl (.inl rfl)) (pgs_cons (pg_name (i := 9) nd rfl (.inl rfl)) pgs_nil)))) <|
        pss_cons (ps_if (PW.pt (pw_or (pt_cmpR (op_neD hr.units) (pv 9) (pv 7) (nomark _)) (pw_or (pt_cmpR (op_neO Z.eq Z.sE sN Z.Y.hm Z.fnE Z.bE hr2) (pv 8) (pe_make Z.mk0 Z.init hr7 (by rfl) Z.T.mg Z.bI .nil pass0 (pa_cons (pv 0) (pa_cons (pv 6) pa_nil))) (nomark _)) (pw_or1 (pt_cmpR (op_neD hr.units) (pe_fld (pv 5) rfl) (pv 1) (nomark _)))))) (pss_one (ps_ret pe_bl)) pss_nil) <|
        pss_cons (ps_asg (pe_call DRn.ok hr (by rfl) DRn.mg DRn.kp DRn.bd .nil pass0 (pa_cons (pv 5) (pa_cons (pe_slice sl_list (pv 3) po_none (po_some (pv 4))) pa_nil))) (pg_tup rfl (pgs_cons (pg_name (i := 10) nd rfl (.inl rfl)) (pgs_cons (pg_name (i := 11) nd rfl (.inl rfl)) pgs_nil)))) <|
        pss_cons (ps_asg (pe_call DRn.ok hr (by rfl) DRn.mg DRn.kp DRn.bd .nil pass0 (pa_cons (pv 10) (pa_cons (pe_slice sl_list (pv 3) (po_some (pv 4)) po_none) pa_nil))) (pg_tup rfl (pgs_cons (pg_name (i := 12) nd rfl (.inl rfl)) (pgs_cons (pg_name (i := 13) nd rfl (.inl rfl)) pgs_nil)))) <|
        pss_one (ps_ret (pe_and (pe_cmpR (op_eqO Z.eq Z.sE Z.fnE Z.bE hr1) (pv 12) (pv 8) (nomark _)) (pe_and (pe_cmpR (op_eqD hr.units) (pe_op op_cat (pv 11) (pv 13)) (pv 7) (nomark _)) (pe_one (pe_cmpR (op_eqO Z.eq Z.sE Z.fnE Z.bE hr1) (pe_call DX.ok hr8 (by rfl) DX.mg DX.kp DX.bd .nil pass0 (pa_cons (pe_call DN.ok hr2 (by rfl) DN.mg DN.kp DN.bd .nil pass0 (pa_cons (pv 8) pa_nil)) pa_nil)) (pv 8) (nomark _)))))), ?_⟩
    -- net
    refine ⟨_, rfl, _, rfl, ?_⟩
    refine net_in G0.rg W0.rw N fun p ng nw H1 NA1 s1 hp hng hnw => ?_
    refine gn_norm (σ' := [some (.ref lg), some (.ref lw), some (.ref lo), some (.ref lr), some (.int (d : Nat)), some (.ref p), none, none, none, none, none, none, none, none]) rfl ?_
    -- told
    refine ⟨_, rfl, _, rfl, _, rfl, _, rfl, lg, lw, lo, lr, gs, ws, os, rss, rfl, G0.same s1, W0.same s1, N, s1.seq so, hO, R0.same s1, hro, hrl, fun t2 lb l2 H2 tss we as2 s2 run2 LB2 LL2 et2 => ?_⟩
    refine ⟨t2, _, rfl, .inl (.inl et2), rfl, _, _, rfl, _, _, rfl, rfl, ?_⟩
    have s02 := s1.trans s2
    have Nb : NetOk gs we := Run.ok N run2
    refine gn_norm (σ' := [some (.ref lg), some (.ref lw), some (.ref lo), some (.ref lr), some (.int (d : Nat)), some (.ref p), some (.ref lb), some (.ref l2), none, none, none, none, none, none]) rfl ?_
    -- run
    refine ⟨_, rfl, _, rfl, p, ng, nw, lr, gs, ws, rss, rfl, NA1.same s2, N, R0.same s02, hro, by omega, fun t3 p3 ng3 nw3 l3 H3 ts3 we3 as3 s3 run3 NA3 LL3 et3 hp3 hng3 hnw3 => ?_⟩
    obtain ⟨e3a, e3b⟩ := Run.unique N hro run2 run3
    subst e3a e3b
    refine ⟨t3, _, rfl, .inl (.inl et3), rfl, _, _, rfl, _, _, rfl, rfl, ?_⟩
    have s03 := s02.trans s3
    refine gn_norm (σ' := [some (.ref lg), some (.ref lw), some (.ref lo), some (.ref lr), some (.int (d : Nat)), some (.ref p), some (.ref lb), some (.ref l2), some (.ref p3), some (.ref l3), none, none, none, none]) rfl ?_
    -- compared
    refine ⟨_, rfl, _, rfl, _, _, LL3.rr.dp, (LL2.rr.same s3).dp, Sh.ok (sh_rows _) (by decide), Sh.ok (sh_rows _) (by decide), false, ?_, iteF ?_⟩
    · rw [rowsD_eq, decide_eq_true rfl]
      rfl
    refine ⟨_, rfl, _, rfl, _, rfl, ?_⟩
    refine net_in (G0.same s03).rg (LB2.same s3).rw Nb fun p4 ng4 nw4 H4 NA4 s4 _ _ _ => ?_
    have s04 := s03.trans s4
    have NA34 := NA3.same s4
    obtain ⟨dx3, ob3⟩ := id NA34.ob
    obtain ⟨dx4, ob4⟩ := id NA4.ob
    refine ⟨p3, dx3, _, .ref C, rfl, ob3, ty_net Z.T Z.Y ob4, first_self C, p3, ng3, nw3, gs, we, _, rfl, NA34, .inl ⟨p4, ng4, nw4, gs, we, rfl, NA4, N.gok, N.gok, true, ?_, false, rfl, iteF ?_⟩⟩
    · rw [decide_eq_true rfl, decide_eq_true rfl]
      rfl
    have NA14 := ((NA1.same s2).same s3).same s4
    obtain ⟨dx1, ob1⟩ := id NA14.ob
    refine ⟨_, rfl, p, C, dx1, _, _, rfl, ob1, Z.T.cl, Z.T.nW, nf_wires _ _, _, rfl, _, _, RW.dp NA14.w.rw, RW.dp (W0.same s04).rw, Sh.ok (sh_wires _) (by decide), Sh.ok (sh_wires _) (by decide), false, ?_, iteF ?_⟩
    · rw [wiresD_eq, decide_eq_true rfl]
      rfl
    -- half
    obtain ⟨u1, u2, wm, etss, runA, runB⟩ := Run.cut (r1 := rss.take d) (r2 := rss.drop d) (by rw [List.take_append_drop]; exact run2)
    have roA : ∀ rs ∈ rss.take d, RowOk gs rs := fun rs h => hro rs (List.mem_of_mem_take h)
    have roB : ∀ rs ∈ rss.drop d, RowOk gs rs := fun rs h => hro rs (List.mem_of_mem_drop h)
    have R4 := R0.same s04
    obtain ⟨vr, evr, avr⟩ := id R4
    refine ⟨_, rfl, _, rfl, _, rfl, _, rfl, lr, vr, rfl, evr, fun l6 hl6 => ?_⟩
    rw [cut_to]
    have s6 : Same H4 (upd H4 l6 (.lst (vr.take d))) := same_new hl6
    have R6 : RR K (upd H4 l6 (.lst (vr.take d))) l6 (rss.take d) := ⟨_, SqL.of upd_same, (avr.imp fun _ _ r => r.same s6).take d⟩
    generalize upd H4 l6 (.lst (vr.take d)) = H6 at s6 R6
    refine ⟨p, ng, nw, l6, gs, ws, rss.take d, rfl, NA14.same s6, N, R6, roA, by rw [List.length_take]; omega, fun t7 p7 ng7 nw7 l7 H7 ts7 we7 as7 s7 run7 NA7 LL7 et7 _ _ _ => ?_⟩
    obtain ⟨e7a, e7b⟩ := Run.unique N roA runA run7
    subst e7a e7b
    refine ⟨t7, _, rfl, .inl (.inl et7), rfl, _, _, rfl, _, _, rfl, rfl, ?_⟩
    have Nm : NetOk gs wm := Run.ok N runA
    have s07 := (s04.trans s6).trans s7
    refine gn_norm (σ' := [some (.ref lg), some (.ref lw), some (.ref lo), some (.ref lr), some (.int (d : Nat)), some (.ref p), some (.ref lb), some (.ref l2), some (.ref p3), some (.ref l3), some (.ref p7), some (.ref l7), none, none]) rfl ?_
    -- last, rest
    obtain ⟨vr9, evr9, avr9⟩ := R0.same s07
    refine ⟨_, rfl, _, rfl, _, rfl, _, rfl, lr, vr9, rfl, evr9, fun l10 hl10 => ?_⟩
    rw [cut_from]
    have s10 : Same H7 (upd H7 l10 (.lst (vr9.drop d))) := same_new hl10
    have R10 : RR K (upd H7 l10 (.lst (vr9.drop d))) l10 (rss.drop d) := ⟨_, SqL.of upd_same, (avr9.imp fun _ _ r => r.same s10).drop d⟩
    generalize upd H7 l10 (.lst (vr9.drop d)) = H10 at s10 R10
    refine ⟨p7, ng7, nw7, l10, gs, wm, rss.drop d, rfl, NA7.same s10, Nm, R10, roB, by rw [List.length_drop]; omega, fun t11 pq ngq nwq lq H11 ts11 we11 as11 s11 run11 NQ11 LL11 et11 _ _ _ => ?_⟩
    obtain ⟨e11a, e11b⟩ := Run.unique Nm roB runB run11
    subst e11a e11b
    refine ⟨t11, _, rfl, .inl (.inl et11), rfl, _, _, rfl, _, _, rfl, rfl, ?_⟩
    have s711 := s10.trans s11
    have s411 := (s6.trans s7).trans s711
    have s311 := s4.trans s411
    refine gn_norm (σ' := [some (.ref lg), some (.ref lw), some (.ref lo), some (.ref lr), some (.int (d : Nat)), some (.ref p), some (.ref lb), some (.ref l2), some (.ref p3), some (.ref l3), some (.ref p7), some (.ref l7), some (.ref pq), some (.ref lq)]) rfl ?_
    -- last == later
    have NB11 := NA3.same s311
    obtain ⟨dxq, obq⟩ := id NQ11.ob
    obtain ⟨dxb, obb⟩ := id NB11.ob
    refine ⟨_, rfl, _, rfl, pq, dxq, _, .ref C, rfl, obq, ty_net Z.T Z.Y obb, first_self C, pq, ngq, nwq, gs, we, _, rfl, NQ11, .inl ⟨p3, ng3, nw3, gs, we, rfl, NB11, N.gok, N.gok, _, rfl, ?_⟩⟩
    rw [decide_eq_true rfl, decide_eq_true rfl]
    refine ⟨true, rfl, iteT ?_⟩
    -- first + rest == outs
    have e7l := s711 _ _ LL7.at_
    refine ⟨_, rfl, _, rfl, l7, lq, _, _, rfl, rfl, e7l, LL11.at_, ?_, fun l12 hl12 => ?_⟩
    · have h1 := LL7.al.1
      have h2 := LL11.al.1
      rw [List.length_map] at h1 h2
      have h3 := runA.len
      have h4 := runB.len
      rw [List.length_take] at h3
      rw [List.length_drop] at h4
      rw [List.length_map, List.length_map]
      exact Nat.le_of_lt (small1000 (by omega))
    have s12 := same_new (o := .lst (as7.map V.ref ++ as11.map V.ref)) hl12
    have K12 : RR K (upd H11 l12 (.lst (as7.map V.ref ++ as11.map V.ref))) l12 ((u1 ++ u2).map (outsOf gs)) := by
      rw [List.map_append]
      exact ⟨_, SqL.of upd_same, ((LL7.rv.imp fun _ _ r => r.same s711).append LL11.rv).imp fun _ _ r => r.same s12⟩
    rw [← etss] at K12
    generalize upd H11 l12 (.lst (as7.map V.ref ++ as11.map V.ref)) = H12 at s12 K12
    have s212 := (s3.trans s311).trans s12
    refine ⟨_, rfl, _, _, K12.dp, (LL2.rr.same s212).dp, Sh.ok (sh_rows _) (by decide), Sh.ok (sh_rows _) (by decide), true, ?_, iteT ?_⟩
    · rw [rowsD_eq, decide_eq_true rfl]
    -- read_net(net_text(later)) == later
    have NB12 := NB11.same s12
    refine ⟨_, rfl, p3, ng3, nw3, gs, we, rfl, NB12, Nb, fun H13 s13 => ?_⟩
    refine ⟨gs, we, rfl, Nb, fun ph ngh nwh H14 s14 NA14' _ _ _ => ?_⟩
    have NB14 := (NB12.same s13).same s14
    obtain ⟨dxe, obe⟩ := id NA14'.ob
    obtain ⟨dxf, obf⟩ := id NB14.ob
    refine ⟨_, rfl, ph, dxe, _, .ref C, rfl, obe, ty_net Z.T Z.Y obf, first_self C, ph, ngh, nwh, gs, we, _, rfl, NA14', .inl ⟨p3, ng3, nw3, gs, we, rfl, NB14, N.gok, N.gok, _, rfl, ?_⟩⟩
    rw [decide_eq_true rfl, decide_eq_true rfl]
    exact q _
end
end Lag

set_option maxRecDepth 100000
set_option maxHeartbeats 8000000
namespace Lag
open PySem PySem.Spec PyProof.Rows L2
abbrev sLaw : Stmt := topS 67 -- @law
theorem OrdG.self {gs : List Gt} {ws : List Wr} (N : NetOk gs ws) (h : ∀ x ∈ ws, x.2.2 = [] → x.1 < x.2.1) : OrdG gs ws (List.range gs.length) := by
  have at_ : ∀ i, i < gs.length → (List.range gs.length).idxOf i = i := fun i hi => by
    have hl : i < (List.range gs.length).length := by rw [List.length_range]; exact hi
    have := List.Nodup.idxOf_getElem (List.nodup_range (n := gs.length)) i hl
    rw [List.getElem_range] at this
    exact this
  refine ⟨.refl _, fun x hx h0 => ?_⟩
  rw [at_ _ (N.wok x hx).s, at_ _ (N.wok x hx).e]
  exact h x hx h0
def three : List Wr := [(1, 1, [3, 5]), (0, 1, [7]), (1, 2, [])]
theorem three_in : InOk [(("sum" : Str), (1 : Int))] := fun g hg => by
  rw [List.mem_singleton.mp hg]
  exact ⟨⟨by decide +kernel, by decide, by decide, fun z => by rcases z with z | z; exact absurd z (by decide +kernel); exact absurd z (by decide +kernel)⟩, by decide +kernel, by decide +kernel⟩
theorem three_ok : GrW 1 three := by
  refine ⟨fun x hx => ?_, by decide, fun e h1 h2 => ?_, by decide⟩
  · simp only [three, List.mem_cons, List.not_mem_nil, or_false] at hx
    rcases hx with h | h | h
    · rw [h]
      exact ⟨by decide, by decide, by decide, (by intro y hy; simp at hy; rcases hy with e | e <;> subst e <;> decide), by decide, fun z => by cases z⟩
    · rw [h]
      exact ⟨by decide, by decide, by decide, (by intro y hy; simp at hy; subst hy; decide), by decide, fun z => by cases z⟩
    · rw [h]
      exact ⟨by decide, by decide, by decide, (by intro y hy; cases hy), by decide, fun _ => by decide⟩
  · have : e = 1 := by omega
    subst this
    decide
section
variable {P : Program} {w : World} {K : PySem.W.Frag} {mg : Str → Option Value} {base : Heap}
abbrev nLaw : List Str := ["_law_script", "_law_well_here", "_law_way", "_law_many", "_law_gates", "_law_wires", "_law_order", "_law_k", "_law_rows"]
theorem scLaw : FnScope nLaw ["_law_script"] (defScope sLaw) := ⟨rfl, rfl, rfl, by decide +kernel, rfl, by decide +kernel, by decide +kernel⟩
theorem ok_law {f fC fW fD fRg fTh fMx fR : Addr} {fd fdC fdW fdD fdRg fdTh fdMx fdR : FuncData} (F : Fun K "law" "law" sLaw f fd) (B : Bt mg) (DC : DCellAt P w K mg base fC fdC) (DW : DWell P w K mg base fW fdW) (DD : DDraw P w K mg base fD fdD) (DRg : DLRing P w K mg base fRg fdRg) (DTh : DLThirty P w K mg base fTh fdTh) (DMx : DLMixed P w K mg base fMx fdMx) (DR : DRight P w K mg base fR fdR) : FnOk P w K mg base CX0 12 f fd ["_law_script"] (spLaw K) := by
  refine F.ok scLaw (fun vs H Q E h => ?_) (fun cdv A outer s H vs Q E hr h => ?_)
  · obtain ⟨a, ns, rfl, _⟩ := h
    rfl
  · obtain ⟨a, ns, rfl, hS, hlen, q⟩ := h
    have nd := scLaw.nd
    have hr1 : Room 1 _ := hr.mono (by decide)
    have hr2 : Room 2 _ := hr.mono (by decide)
    have hr3 : Room 3 _ := hr.mono (by decide)
    refine ⟨_, pss_cons (ps_set (i := 1) nd rfl (.inr rfl) (pe_call DW.ok hr1 (by rfl) DW.mg DW.kp DW.bd .nil pass0 (pa_cons (pe_call DC.ok hr1 (by rfl) DC.mg DC.kp DC.bd .nil pass0 (pa_cons (pv 0) (pa_cons pe_int pa_nil))) pa_nil))) <|
        pss_cons (ps_set (i := 2) nd rfl (.inl rfl) (pe_call DD.ok hr1 (by rfl) DD.mg DD.kp DD.bd .nil pass0 (pa_cons (pv 1) (pa_cons pe_int pa_nil)))) <|
        pss_cons (ps_set (i := 3) nd rfl (.inl rfl) (pe_op op_add pe_int (pe_call DD.ok hr1 (by rfl) DD.mg DD.kp DD.bd .nil pass0 (pa_cons (pv 1) (pa_cons pe_int pa_nil))))) <|
        Evl.pss_cut (ps_if (pt_cmpR op_eq (pv 2) pe_int (nomark _)) (pss_one (ps_asg (pe_call DRg.ok hr3 (by rfl) DRg.mg DRg.kp DRg.bd .nil pass0 (pa_cons (pv 1) pa_nil)) (pg_tup rfl (pgs_cons (pg_name (i := 4) nd rfl (.inl rfl)) (pgs_cons (pg_name (i := 5) nd rfl (.inl rfl)) pgs_nil))))) (pss_one (ps_if (pt_cmpR op_eq (pv 2) pe_int (nomark _)) (pss_one (ps_asg (pe_call DTh.ok hr3 (by rfl) DTh.mg DTh.kp DTh.bd .nil pass0 (pa_cons (pv 1) pa_nil)) (pg_tup rfl (pgs_cons (pg_name (i := 4) nd rfl (.inl rfl)) (pgs_cons (pg_name (i := 5) nd rfl (.inl rfl)) pgs_nil))))) (pss_cons (ps_par (by rfl) nd (i := 4) (j := 5) rfl rfl (by decide) rfl rfl (pa_cons (pe_lst (pa_cons (pe_tup (pa_cons pe_str (pa_cons pe_int pa_nil))) (pa_cons (pe_tup (pa_cons pe_str (pa_cons pe_int pa_nil))) (pa_cons (pe_tup (pa_cons pe_str (pa_cons pe_int pa_nil))) pa_nil)))) (pa_cons (pe_lst (pa_cons (pe_tup (pa_cons pe_int (pa_cons pe_int (pa_cons (pe_tup (pa_cons pe_int (pa_cons pe_int pa_nil))) pa_nil)))) (pa_cons (pe_tup (pa_cons pe_int (pa_cons pe_int (pa_cons (pe_tup (pa_cons pe_int pa_nil)) pa_nil)))) (pa_cons (pe_tup (pa_cons pe_int (pa_cons pe_int (pa_cons (pe_tup pa_nil) pa_nil)))) pa_nil)))) pa_nil)) (by rfl)) <|
        pss_one (ps_set (i := 3) nd rfl (.inl rfl) (pe_op op_add pe_int (pe_call DD.ok hr1 (by rfl) DD.mg DD.kp DD.bd .nil pass0 (pa_cons (pv 1) (pa_cons pe_int pa_nil))))))))) <|
        pss_cons (ps_set (i := 6) nd rfl (.inl rfl) (pe_listRg rfl (by rfl) B.list (prg_1 (by rfl) B.range (pe_callB call_len_seq (by rfl) B.len PySem.boot_len (pa_cons (pv 4) pa_nil))))) <|
        Evl.pss_cut (ps_if (pt_cmpR op_eq (pe_call DD.ok hr1 (by rfl) DD.mg DD.kp DD.bd .nil pass0 (pa_cons (pv 1) (pa_cons pe_int pa_nil))) pe_int (nomark _)) (pss_one (ps_asg (pe_call DMx.ok hr2 (by rfl) DMx.mg DMx.kp DMx.bd .nil pass0 (pa_cons (pv 1) (pa_cons (pv 4) (pa_cons (pv 5) pa_nil)))) (pg_tup rfl (pgs_cons (pg_name (i := 4) nd rfl (.inl rfl)) (pgs_cons (pg_name (i := 5) nd rfl (.inl rfl)) (pgs_cons (pg_name (i := 6) nd rfl (.inl rfl)) pgs_nil)))))) pss_nil) <|
        pss_cons (ps_setLc (i := 8) (own := [("_law_k", 7)]) (g := (gName 7)) (tt := tYes) (te := (tLst (tCons (tCall spDraw [] E0 (tCons (tVar 1) (tCons (tC (.int 97)) tNil))) tNil))) rfl nd rfl rfl (sw_true rfl rfl rfl (by decide +kernel)) (pi_range1 (by rfl) B.range (pa_cons (pv 3) pa_nil)) (blkOk_by (N := nLaw) (sc := defScope sLaw) (own := [("_law_k", 7)]) (by decide +kernel)) (fun _ _ _ _ _ => (pg_name (i := 7) nd rfl (.inl rfl))) (fun _ _ _ _ _ => pts_nil) (fun _ _ _ _ _ => (pe_lst (pa_cons (pe_call DD.ok hr1 (by rfl) DD.mg DD.kp DD.bd .nil pass0 (pa_cons (pv 1) (pa_cons pe_int pa_nil))) pa_nil)))) <|
        pss_one (ps_ret (pe_call DR.ok hr (by rfl) DR.mg DR.kp DR.bd .nil pass0 (pa_cons (pv 4) (pa_cons (pv 5) (pa_cons (pv 6) (pa_cons (pv 8) (pa_cons (pe_call DD.ok hr1 (by rfl) DD.mg DD.kp DD.bd .nil pass0 (pa_cons (pv 1) (pa_cons (pv 3) pa_nil))) pa_nil))))))), ?_⟩
    refine ⟨_, rfl, a, ns, 0, rfl, Int.le_refl 0, hS, fun z => ⟨z, rfl, fun wl H1 hwl s1 hw => ?_⟩⟩
    refine gn_norm (σ' := [some (.ref a), some (.ref wl), none, none, none, none, none, none, none]) rfl ?_
    refine ⟨_, rfl, wl, 3, rfl, by decide, by decide, hw, fun way H2 y0 y1 E2 => ?_⟩
    refine gn_norm (σ' := [some (.ref a), some (.ref wl), some (.int way), none, none, none, none, none, none]) rfl ?_
    refine ⟨_, rfl, wl, 3, rfl, by decide, by decide, E2.well, fun mm H3 m0 m1 E3 => ?_⟩
    refine ⟨_, _, rfl, rfl, ?_⟩
    refine gn_norm (σ' := [some (.ref a), some (.ref wl), some (.int way), some (.int (6 + mm)), none, none, none, none, none]) rfl ?_
    have D3 := E2.trans E3
    -- a net of the three
    refine ⟨fun σ H' => ∃ (m : Int) (lg lw : Addr) (gs : List Gt) (ws : List Wr), σ = [some (.ref a), some (.ref wl), some (.int way), some (.int m), some (.ref lg), some (.ref lw), none, none, none] ∧ 1 ≤ m ∧ m ≤ 101 ∧ WellAt wl H' ∧ lg ≠ wl ∧ lw ≠ wl ∧ LG K H' lg gs ∧ LW K H' lw ws ∧ NetOk gs ws ∧ (∀ x ∈ ws, x.2.2 = [] → x.1 < x.2.1) ∧ (plc gs "in" gs.length).length = 1, ?_, ?_⟩
    · refine ⟨_, rfl, rfl, _, rfl, ite2 (fun e => ?_) (fun e => ?_)⟩
      · refine ⟨_, rfl, wl, rfl, D3.well, fun gs ws lg lw p H4 N hor hpl hgl E4 hlg hlw nlw G W hp => ?_⟩
        refine ⟨p, _, rfl, .inl (.inl hp), rfl, _, _, rfl, _, _, rfl, rfl, ?_⟩
        exact ⟨_, lg, lw, gs, ws, rfl, by omega, by omega, E4.well, (D3.well.ne hlg).symm, (D3.well.ne hlw).symm, G, W, N, hor, hpl⟩
      · refine ⟨_, rfl, rfl, _, rfl, ite2 (fun e2 => ?_) (fun e2 => ?_)⟩
        · refine ⟨_, rfl, wl, rfl, D3.well, fun gs ws lg lw p H4 N hor hpl hgl E4 hlg hlw nlw G W hp => ?_⟩
          refine ⟨p, _, rfl, .inl (.inl hp), rfl, _, _, rfl, _, _, rfl, rfl, ?_⟩
          exact ⟨_, lg, lw, gs, ws, rfl, by omega, by omega, E4.well, (D3.well.ne hlg).symm, (D3.well.ne hlw).symm, G, W, N, hor, hpl⟩
        · -- the literal
          have W3 := D3.well
          refine ⟨(by show 2 ≤ sizeLine; decide), fun g0 hg0 => ⟨(by show 2 ≤ sizeLine; decide), fun g1 hg1 => ⟨(by show 2 ≤ sizeLine; decide), fun g2 hg2 => ⟨(by show 3 ≤ sizeLine; decide), fun lg hlg => ?_⟩⟩⟩⟩
          have a0 := same_new (o := .tup [.str "in", .int 0]) hg0
          have b0 : GateV K (upd H3 g0 (.tup [.str "in", .int 0])) (.ref g0) (("in" : Str), (0 : Int)) := ⟨g0, rfl, .inl (.inl upd_same)⟩
          generalize upd H3 g0 (.tup [.str "in", .int 0]) = Ha at a0 b0 hg1 hg2 hlg
          have a1 := same_new (o := .tup [.str "sum", .int 1]) hg1
          have b1 : GateV K (upd Ha g1 (.tup [.str "sum", .int 1])) (.ref g1) (("sum" : Str), (1 : Int)) := ⟨g1, rfl, .inl (.inl upd_same)⟩
          generalize upd Ha g1 (.tup [.str "sum", .int 1]) = Hb at a1 b1 hg2 hlg
          have a2 := same_new (o := .tup [.str "out", .int 0]) hg2
          have b2 : GateV K (upd Hb g2 (.tup [.str "out", .int 0])) (.ref g2) (("out" : Str), (0 : Int)) := ⟨g2, rfl, .inl (.inl upd_same)⟩
          generalize upd Hb g2 (.tup [.str "out", .int 0]) = Hc at a2 b2 hlg
          have a3 := same_new (o := .lst [.ref g0, .ref g1, .ref g2]) hlg
          have G3 : LG K (upd Hc lg (.lst [.ref g0, .ref g1, .ref g2])) lg (greatG [(("sum" : Str), (1 : Int))]) := ⟨_, upd_same, All2.cons (b0.tk (TK.same ((a1.trans a2).trans a3))) (All2.cons (b1.tk (TK.same (a2.trans a3))) (All2.cons (b2.tk (TK.same a3)) All2.nil))⟩
          have hlg0 : H3 lg = none := ((a0.trans a1).trans a2).free hlg
          have a03 := ((a0.trans a1).trans a2).trans a3
          generalize upd Hc lg (.lst [.ref g0, .ref g1, .ref g2]) = Hd at a3 a03 G3
          clear a3 a2 a1 a0 b2 b1 b0
          refine ⟨(by show 2 ≤ sizeLine; decide), fun r0 hr0 => ⟨(by show 3 ≤ sizeLine; decide), fun w0 hw0 => ⟨(by show 1 ≤ sizeLine; decide), fun r1 hr1' => ⟨(by show 3 ≤ sizeLine; decide), fun w1 hw1 => ⟨(by show 0 ≤ sizeLine; decide), fun r2 hr2' => ⟨(by show 3 ≤ sizeLine; decide), fun w2 hw2 => ⟨(by show 3 ≤ sizeLine; decide), fun lw hlw => ?_⟩⟩⟩⟩⟩⟩⟩
          have c0 := same_new (o := .tup [.int 3, .int 5]) hr0
          have d0 : SqT K (upd Hd r0 (.tup [.int 3, .int 5])) r0 (([3, 5] : List Int).map V.int) := .inl (.inl upd_same)
          generalize upd Hd r0 (.tup [.int 3, .int 5]) = He at c0 d0 hw0 hr1' hw1 hr2' hw2 hlw
          have c1 := same_new (o := .tup [.int 1, .int 1, .ref r0]) hw0
          have v0 : WireV K (upd He w0 (.tup [.int 1, .int 1, .ref r0])) (.ref w0) (1, 1, [3, 5]) := ⟨w0, r0, rfl, .inl (.inl upd_same), (TK.same c1).seq d0⟩
          generalize upd He w0 (.tup [.int 1, .int 1, .ref r0]) = Hf at c1 v0 hr1' hw1 hr2' hw2 hlw
          have c2 := same_new (o := .tup [.int 7]) hr1'
          have d1 : SqT K (upd Hf r1 (.tup [.int 7])) r1 (([7] : List Int).map V.int) := .inl (.inl upd_same)
          generalize upd Hf r1 (.tup [.int 7]) = Hg at c2 d1 hw1 hr2' hw2 hlw
          have c3 := same_new (o := .tup [.int 0, .int 1, .ref r1]) hw1
          have v1 : WireV K (upd Hg w1 (.tup [.int 0, .int 1, .ref r1])) (.ref w1) (0, 1, [7]) := ⟨w1, r1, rfl, .inl (.inl upd_same), (TK.same c3).seq d1⟩
          generalize upd Hg w1 (.tup [.int 0, .int 1, .ref r1]) = Hh at c3 v1 hr2' hw2 hlw
          have c4 := same_new (o := .tup []) hr2'
          have d2 : SqT K (upd Hh r2 (.tup [])) r2 (([] : List Int).map V.int) := .inl (.inl upd_same)
          generalize upd Hh r2 (.tup []) = Hi at c4 d2 hw2 hlw
          have c5 := same_new (o := .tup [.int 1, .int 2, .ref r2]) hw2
          have v2 : WireV K (upd Hi w2 (.tup [.int 1, .int 2, .ref r2])) (.ref w2) (1, 2, []) := ⟨w2, r2, rfl, .inl (.inl upd_same), (TK.same c5).seq d2⟩
          generalize upd Hi w2 (.tup [.int 1, .int 2, .ref r2]) = Hj at c5 v2 hlw
          have c6 := same_new (o := .lst [.ref w0, .ref w1, .ref w2]) hlw
          have V6 : LW K (upd Hj lw (.lst [.ref w0, .ref w1, .ref w2])) lw three := ⟨_, upd_same, All2.cons (v0.tk (TK.same ((((c2.trans c3).trans c4).trans c5).trans c6))) (All2.cons (v1.tk (TK.same ((c4.trans c5).trans c6))) (All2.cons (v2.tk (TK.same c6)) All2.nil))⟩
          have c05 := ((((c0.trans c1).trans c2).trans c3).trans c4).trans c5
          have hlw0 : H3 lw = none := (a03.trans c05).free hlw
          have c06 := c05.trans c6
          generalize upd Hj lw (.lst [.ref w0, .ref w1, .ref w2]) = Hk at c6 c06 V6
          have W7 := (W3.same a03).same c06
          refine ⟨_, _, rfl, ?_⟩
          refine gn_norm (σ' := [some (.ref a), some (.ref wl), some (.int way), some (.int (6 + mm)), some (.ref lg), some (.ref lw), none, none, none]) rfl ?_
          refine ⟨_, rfl, wl, 41, rfl, by decide, by decide, W7, fun d H8 da db E8 => ?_⟩
          have nlg := (W3.ne hlg0).symm
          have nlw := (W3.ne hlw0).symm
          exact ⟨_, _, rfl, rfl, 60 + d, lg, lw, _, three, rfl, by omega, by omega, E8.well, nlg, nlw, (G3.dr nlg (W3.same a03) ⟨But.same c06, W7⟩).dr nlg W7 E8, V6.dr nlw W7 E8, great_net three_in (by decide) three_ok, fun x hx h0 => (three_ok.ok x hx).2.2.2.2.2 h0, great_ins three_in⟩
    rintro σ H4 ⟨m, lg, lw, gs, ws, rfl, hm1, hm2, W4, nlg, nlw, G4, L4, N, hor, hpl⟩
    have hgl := N.gl
    clear D3 E2 E3
    -- order
    obtain ⟨gv, hgv, ga⟩ := id G4
    have hlg : gv.length = gs.length := ga.1
    refine ⟨_, rfl, lg, gv, rfl, .inl (SqL.of hgv), _, rfl, RgOk.of_le (by omega) (by omega) (by omega) (by omega), fun lo hlo => ?_⟩
    rw [rgV_nat, hlg]
    have D5 : Dr wl H4 (upd H4 lo (.lst ((List.range gs.length).map fun i => V.int (i : Nat)))) := Dr.new W4 hlo
    have e5 : (upd H4 lo (.lst ((List.range gs.length).map fun i => V.int (i : Nat)))) lo = some (.lst ((List.range gs.length).map fun i => V.int (i : Nat))) := upd_same
    generalize upd H4 lo (.lst ((List.range gs.length).map fun i => V.int (i : Nat))) = H5 at D5 e5
    have nlo : lo ≠ wl := (W4.ne hlo).symm
    have G5 := G4.dr nlg W4 D5
    have L5 := L4.dr nlw W4 D5
    refine gn_norm (σ' := [some (.ref a), some (.ref wl), some (.int way), some (.int m), some (.ref lg), some (.ref lw), some (.ref lo), none, none]) rfl ?_
    -- mixed or not
    refine ⟨fun σ H' => ∃ (lg lw lo : Addr) (gs : List Gt) (ws : List Wr) (os : List Nat), σ = [some (.ref a), some (.ref wl), some (.int way), some (.int m), some (.ref lg), some (.ref lw), some (.ref lo), none, none] ∧ WellAt wl H' ∧ lg ≠ wl ∧ lw ≠ wl ∧ lo ≠ wl ∧ LG K H' lg gs ∧ LW K H' lw ws ∧ NetOk gs ws ∧ H' lo = some (.lst (os.map fun i => V.int (i : Nat))) ∧ OrdG gs ws os ∧ (plc gs "in" gs.length).length = 1, ?_, ?_⟩
    · refine ⟨_, rfl, wl, 2, rfl, by decide, by decide, D5.well, fun d H6 d0 d1 E6 => ⟨rfl, _, rfl, ite2 (fun e => ?_) (fun e => ?_)⟩⟩
      · refine ⟨_, rfl, _, rfl, _, rfl, wl, lg, lw, gs, ws, rfl, E6.well, nlg, nlw, G5.dr nlg D5.well E6, L5.dr nlw D5.well E6, N, hor, fun t lg' lw' lo' H7 gs' ws' os N' hO hpl' hgl' E7 hg' hw' ho' nlw' G7 L7 e7 et => ?_⟩
        refine ⟨t, _, rfl, .inl (.inl et), rfl, _, _, rfl, _, _, rfl, _, _, rfl, rfl, ?_⟩
        exact ⟨lg', lw', lo', gs', ws', os, rfl, E7.well, (E6.well.ne hg').symm, (E6.well.ne hw').symm, (E6.well.ne ho').symm, G7, L7, N', e7, hO, by rw [hpl', hpl]⟩
      · exact ⟨lg, lw, lo, gs, ws, _, rfl, E6.well, nlg, nlw, nlo, G5.dr nlg D5.well E6, L5.dr nlw D5.well E6, N, E6.but _ _ nlo e5, OrdG.self N hor, hpl⟩
    clear D5 e5 nlo G5 L5 hgv ga hlg G4 L4 N hor hpl hgl nlg nlw hlo W4
    rintro σ H6 ⟨lg, lw, lo, gs, ws, os, rfl, W6, nlg, nlw, nlo, G6, L6, N, e6, hO, hpl⟩
    -- rows
    refine ⟨_, rfl, _, rfl, by omega, by omega, fun D hD => ?_⟩
    obtain ⟨n, hn⟩ : ∃ n : Nat, m.toNat = n := ⟨_, rfl⟩
    have hn1 : n ≤ 101 := by omega
    have hnm : m = (n : Int) := by omega
    subst hnm
    rw [Int.toNat_natCast]
    have nD : D ≠ wl := (W6.ne hD).symm
    refine lc_range (lo := 0) (n := n) (fun j Hc => ∃ (rss : List (List Int)) (as : List Addr), LL H6 Hc D rss as ∧ rss.length = j ∧ (∀ rs ∈ rss, RowOk gs rs) ∧ Dr wl H6 Hc) ⟨[], [], ⟨upd_same, All2.nil, (fun a h => by simp at h), List.nodup_nil, (by simp), hD⟩, rfl, (fun rs h => by cases h), Dr.new W6 hD⟩ ?_ ?_
    · rintro j Hc hj ⟨rss, as, LLc, hjl, hro, Dc⟩
      refine ⟨rfl, tyes ?_⟩
      refine ⟨_, rfl, wl, 97, rfl, by decide, by decide, Dc.well, fun d H7 d0 d1 E7 => ⟨(by show 1 ≤ sizeLine; decide), fun l hl => ?_⟩⟩
      have D7 := Dc.trans E7
      have hlc : Hc l = none := E7.free Dc.well hl
      have hl6 : H6 l = none := D7.free W6 hl
      have s8 : Same H7 (upd H7 l (.lst [.int d])) := same_new hl
      have e8 : (upd H7 l (.lst [.int d])) l = some (.lst (([d] : List Int).map V.int)) := upd_same
      generalize upd H7 l (.lst [.int d]) = H8 at s8 e8
      have LL8 := (LLc.dr W6 E7).same s8
      have hal : as.length = j := by rw [LLc.al.1, hjl]
      refine ⟨_, LL8.at_, ?_, rss ++ [[d]], as ++ [l], ?_, by rw [List.length_append, hjl]; rfl, fun rs h => ?_, set_well ⟨(fun b o n e => s8 _ _ (D7.but b o n e)), D7.well.same s8⟩ hD nD⟩
      · rw [List.length_map, hal]
        exact small1000 (by omega)
      · exact (LLc.dr W6 E7).push (fun a o _ h => s8 _ _ h) hl hl6 e8
      · rcases List.mem_append.mp h with h | h
        · exact hro rs h
        · rw [List.mem_singleton.mp h]
          exact ⟨hpl.symm, fun y hy => by rw [List.mem_singleton.mp hy]; exact ⟨d0, by omega⟩⟩
    rintro H7 ⟨rss, as, LL7, hjl, hro, D7⟩
    refine gn_norm (σ' := [some (.ref a), some (.ref wl), some (.int way), some (.int (n : Nat)), some (.ref lg), some (.ref lw), some (.ref lo), none, some (.ref D)]) rfl ?_
    refine ⟨_, rfl, _, rfl, _, rfl, _, rfl, _, rfl, _, rfl, wl, _, rfl, by omega, by omega, D7.well, fun d H8 d0 d1 E8 => ?_⟩
    obtain ⟨d, rfl⟩ : ∃ z : Nat, d = (z : Int) := ⟨d.toNat, by omega⟩
    have D8 := D7.trans E8
    exact ⟨lg, lw, lo, D, d, gs, ws, os, rss, rfl, G6.dr nlg W6 D8, L6.dr nlw W6 D8, N, SqL.of (D8.but _ _ nlo e6), hO, (LL7.dr W6 E8).rr, hro, by omega, by omega, fun H' => q H'⟩
end
end Lag

set_option maxRecDepth 100000
set_option maxHeartbeats 8000000
namespace Lag
open PySem PySem.Spec PyProof.Rows L2
theorem kind_of : ∀ k ∈ kinds, k = "in" ∨ k = "out" ∨ k = "sum" ∨ k = "times" ∨ k = "most" ∨ k = "least" ∨ k = "first" ∨ k = "one" := by decide +kernel
theorem all_mk {l : PySem.W.OpenLaw} {w : World} {K : PySem.W.Frag} {h : Heap} {mg : Str → Option Value} {fa C : Addr} (X : K.In h) (G : h.Ns mainGlobals mg) (hfa : mg "law" = some (.ref fa))
    {fd0 : Addr} {odd0 and0 : Option Addr} {sld0 : Array (Option Value)} {ocd0 kVd0 dcd0 pmd0 cdd0 ctd0 : Value}
    {fd1 : Addr} {odd1 and1 : Option Addr} {sld1 : Array (Option Value)} {ocd1 kVd1 dcd1 pmd1 cdd1 ctd1 : Value}
    {fd2 : Addr} {odd2 and2 : Option Addr} {sld2 : Array (Option Value)} {ocd2 kVd2 dcd2 pmd2 cdd2 ctd2 : Value}
    {fd3 : Addr} {odd3 and3 : Option Addr} {sld3 : Array (Option Value)} {ocd3 kVd3 dcd3 pmd3 cdd3 ctd3 : Value}
    {fd4 : Addr} {odd4 and4 : Option Addr} {sld4 : Array (Option Value)} {ocd4 kVd4 dcd4 pmd4 cdd4 ctd4 : Value}
    {fd5 : Addr} {odd5 and5 : Option Addr} {sld5 : Array (Option Value)} {ocd5 kVd5 dcd5 pmd5 cdd5 ctd5 : Value}
    {fd6 : Addr} {odd6 and6 : Option Addr} {sld6 : Array (Option Value)} {ocd6 kVd6 dcd6 pmd6 cdd6 ctd6 : Value}
    {fd7 : Addr} {odd7 and7 : Option Addr} {sld7 : Array (Option Value)} {ocd7 kVd7 dcd7 pmd7 cdd7 ctd7 : Value}
    {fd8 : Addr} {odd8 and8 : Option Addr} {sld8 : Array (Option Value)} {ocd8 kVd8 dcd8 pmd8 cdd8 ctd8 : Value}
    {fd9 : Addr} {odd9 and9 : Option Addr} {sld9 : Array (Option Value)} {ocd9 kVd9 dcd9 pmd9 cdd9 ctd9 : Value}
    {fd10 : Addr} {odd10 and10 : Option Addr} {sld10 : Array (Option Value)} {ocd10 kVd10 dcd10 pmd10 cdd10 ctd10 : Value}
    {fd11 : Addr} {odd11 and11 : Option Addr} {sld11 : Array (Option Value)} {ocd11 kVd11 dcd11 pmd11 cdd11 ctd11 : Value}
    {fd12 : Addr} {odd12 and12 : Option Addr} {sld12 : Array (Option Value)} {ocd12 kVd12 dcd12 pmd12 cdd12 ctd12 : Value}
    {fd13 : Addr} {odd13 and13 : Option Addr} {sld13 : Array (Option Value)} {ocd13 kVd13 dcd13 pmd13 cdd13 ctd13 : Value}
    {fd14 : Addr} {odd14 and14 : Option Addr} {sld14 : Array (Option Value)} {ocd14 kVd14 dcd14 pmd14 cdd14 ctd14 : Value}
    {fd15 : Addr} {odd15 and15 : Option Addr} {sld15 : Array (Option Value)} {ocd15 kVd15 dcd15 pmd15 cdd15 ctd15 : Value}
    {fd16 : Addr} {odd16 and16 : Option Addr} {sld16 : Array (Option Value)} {ocd16 kVd16 dcd16 pmd16 cdd16 ctd16 : Value}
    {fd17 : Addr} {odd17 and17 : Option Addr} {sld17 : Array (Option Value)} {ocd17 kVd17 dcd17 pmd17 cdd17 ctd17 : Value}
    {fd18 : Addr} {odd18 and18 : Option Addr} {sld18 : Array (Option Value)} {ocd18 kVd18 dcd18 pmd18 cdd18 ctd18 : Value}
    {fd19 : Addr} {odd19 and19 : Option Addr} {sld19 : Array (Option Value)} {ocd19 kVd19 dcd19 pmd19 cdd19 ctd19 : Value}
    {fd20 : Addr} {odd20 and20 : Option Addr} {sld20 : Array (Option Value)} {ocd20 kVd20 dcd20 pmd20 cdd20 ctd20 : Value}
    {fd21 : Addr} {odd21 and21 : Option Addr} {sld21 : Array (Option Value)} {ocd21 kVd21 dcd21 pmd21 cdd21 ctd21 : Value}
    {fd22 : Addr} {odd22 and22 : Option Addr} {sld22 : Array (Option Value)} {ocd22 kVd22 dcd22 pmd22 cdd22 ctd22 : Value}
    {fd23 : Addr} {odd23 and23 : Option Addr} {sld23 : Array (Option Value)} {ocd23 kVd23 dcd23 pmd23 cdd23 ctd23 : Value}
    {fd24 : Addr} {odd24 and24 : Option Addr} {sld24 : Array (Option Value)} {ocd24 kVd24 dcd24 pmd24 cdd24 ctd24 : Value}
    {fd25 : Addr} {odd25 and25 : Option Addr} {sld25 : Array (Option Value)} {ocd25 kVd25 dcd25 pmd25 cdd25 ctd25 : Value}
    {fd26 : Addr} {odd26 and26 : Option Addr} {sld26 : Array (Option Value)} {ocd26 kVd26 dcd26 pmd26 cdd26 ctd26 : Value}
    {fd27 : Addr} {odd27 and27 : Option Addr} {sld27 : Array (Option Value)} {ocd27 kVd27 dcd27 pmd27 cdd27 ctd27 : Value}
    {fd28 : Addr} {odd28 and28 : Option Addr} {sld28 : Array (Option Value)} {ocd28 kVd28 dcd28 pmd28 cdd28 ctd28 : Value}
    {fd29 : Addr} {odd29 and29 : Option Addr} {sld29 : Array (Option Value)} {ocd29 kVd29 dcd29 pmd29 cdd29 ctd29 : Value}
    {fd30 : Addr} {odd30 and30 : Option Addr} {sld30 : Array (Option Value)} {ocd30 kVd30 dcd30 pmd30 cdd30 ctd30 : Value}
    {fd31 : Addr} {odd31 and31 : Option Addr} {sld31 : Array (Option Value)} {ocd31 kVd31 dcd31 pmd31 cdd31 ctd31 : Value}
    {fd32 : Addr} {odd32 and32 : Option Addr} {sld32 : Array (Option Value)} {ocd32 kVd32 dcd32 pmd32 cdd32 ctd32 : Value}
    {fd33 : Addr} {odd33 and33 : Option Addr} {sld33 : Array (Option Value)} {ocd33 kVd33 dcd33 pmd33 cdd33 ctd33 : Value}
    {fd34 : Addr} {odd34 and34 : Option Addr} {sld34 : Array (Option Value)} {ocd34 kVd34 dcd34 pmd34 cdd34 ctd34 : Value}
    {fd35 : Addr} {odd35 and35 : Option Addr} {sld35 : Array (Option Value)} {ocd35 kVd35 dcd35 pmd35 cdd35 ctd35 : Value}
    {fd36 : Addr} {odd36 and36 : Option Addr} {sld36 : Array (Option Value)} {ocd36 kVd36 dcd36 pmd36 cdd36 ctd36 : Value}
    {fd37 : Addr} {odd37 and37 : Option Addr} {sld37 : Array (Option Value)} {ocd37 kVd37 dcd37 pmd37 cdd37 ctd37 : Value}
    {fd38 : Addr} {odd38 and38 : Option Addr} {sld38 : Array (Option Value)} {ocd38 kVd38 dcd38 pmd38 cdd38 ctd38 : Value}
    {fd39 : Addr} {odd39 and39 : Option Addr} {sld39 : Array (Option Value)} {ocd39 kVd39 dcd39 pmd39 cdd39 ctd39 : Value}
    {fd40 : Addr} {odd40 and40 : Option Addr} {sld40 : Array (Option Value)} {ocd40 kVd40 dcd40 pmd40 cdd40 ctd40 : Value}
    {fd41 : Addr} {odd41 and41 : Option Addr} {sld41 : Array (Option Value)} {ocd41 kVd41 dcd41 pmd41 cdd41 ctd41 : Value}
    {fd42 : Addr} {odd42 and42 : Option Addr} {sld42 : Array (Option Value)} {ocd42 kVd42 dcd42 pmd42 cdd42 ctd42 : Value}
    {fd43 : Addr} {odd43 and43 : Option Addr} {sld43 : Array (Option Value)} {ocd43 kVd43 dcd43 pmd43 cdd43 ctd43 : Value}
    {fm0 : Addr} {odm0 anm0 : Option Addr} {slm0 : Array (Option Value)} {ocm0 kVm0 dcm0 pmm0 cdm0 ctm0 : Value}
    {fm1 : Addr} {odm1 anm1 : Option Addr} {slm1 : Array (Option Value)} {ocm1 kVm1 dcm1 pmm1 cdm1 ctm1 : Value}
    {fm2 : Addr} {odm2 anm2 : Option Addr} {slm2 : Array (Option Value)} {ocm2 kVm2 dcm2 pmm2 cdm2 ctm2 : Value}
    {fm3 : Addr} {odm3 anm3 : Option Addr} {slm3 : Array (Option Value)} {ocm3 kVm3 dcm3 pmm3 cdm3 ctm3 : Value}
    {tGW tGA tGD tMF : Tok}
    {aK nnK : Nat} {ddK : Option Addr} {ssK : Array (Option Value)} {tK0 tK1 tK2 tK3 tK4 tK5 tK6 tK7 : Tok}
    {aW nnW : Nat} {ddW : Option Addr} {ssW : Array (Option Value)} {tW0 tW1 : Tok}
    {aF nnF : Nat} {ddF : Option Addr} {ssF : Array (Option Value)} {tF0 tF1 : Tok}
    {aR nnR : Nat} {esR : Array DictEntry}
    (aC : PySem.W.nsIn K mainGlobals "Net" = some (some (.ref C)))
    (ad0 : PySem.W.nsIn K mainGlobals "is_whole" = some (some (.ref fd0)))
    (ld0 : K.lookup fd0 = some ⟨ocd0, odd0, .func (PySem.W.fnOf "is_whole" "is_whole" (defArgs sWhole) (defBody sWhole) (defScope sWhole) .none kVd0 dcd0 pmd0 and0 cdd0 ctd0), sld0⟩)
    (cd0 : PySem.W.codeIn K cdd0 "is_whole" = true)
    (kd0 : PySem.W.keepIn K (.ref fd0) = true)
    (ad1 : PySem.W.nsIn K mainGlobals "is_whole_from_to" = some (some (.ref fd1)))
    (ld1 : K.lookup fd1 = some ⟨ocd1, odd1, .func (PySem.W.fnOf "is_whole_from_to" "is_whole_from_to" (defArgs sFromTo) (defBody sFromTo) (defScope sFromTo) .none kVd1 dcd1 pmd1 and1 cdd1 ctd1), sld1⟩)
    (cd1 : PySem.W.codeIn K cdd1 "is_whole_from_to" = true)
    (kd1 : PySem.W.keepIn K (.ref fd1) = true)
    (ad2 : PySem.W.nsIn K mainGlobals "is_worth" = some (some (.ref fd2)))
    (ld2 : K.lookup fd2 = some ⟨ocd2, odd2, .func (PySem.W.fnOf "is_worth" "is_worth" (defArgs sWorth) (defBody sWorth) (defScope sWorth) .none kVd2 dcd2 pmd2 and2 cdd2 ctd2), sld2⟩)
    (cd2 : PySem.W.codeIn K cdd2 "is_worth" = true)
    (kd2 : PySem.W.keepIn K (.ref fd2) = true)
    (ad3 : PySem.W.nsIn K mainGlobals "is_gate" = some (some (.ref fd3)))
    (ld3 : K.lookup fd3 = some ⟨ocd3, odd3, .func (PySem.W.fnOf "is_gate" "is_gate" (defArgs sIsGate) (defBody sIsGate) (defScope sIsGate) .none kVd3 dcd3 pmd3 and3 cdd3 ctd3), sld3⟩)
    (cd3 : PySem.W.codeIn K cdd3 "is_gate" = true)
    (kd3 : PySem.W.keepIn K (.ref fd3) = true)
    (ad4 : PySem.W.nsIn K mainGlobals "check_gates" = some (some (.ref fd4)))
    (ld4 : K.lookup fd4 = some ⟨ocd4, odd4, .func (PySem.W.fnOf "check_gates" "check_gates" (defArgs sChkGates) (defBody sChkGates) (defScope sChkGates) .none kVd4 dcd4 pmd4 and4 cdd4 ctd4), sld4⟩)
    (cd4 : PySem.W.codeIn K cdd4 "check_gates" = true)
    (kd4 : PySem.W.keepIn K (.ref fd4) = true)
    (ad5 : PySem.W.nsIn K mainGlobals "is_wire" = some (some (.ref fd5)))
    (ld5 : K.lookup fd5 = some ⟨ocd5, odd5, .func (PySem.W.fnOf "is_wire" "is_wire" (defArgs sIsWire) (defBody sIsWire) (defScope sIsWire) .none kVd5 dcd5 pmd5 and5 cdd5 ctd5), sld5⟩)
    (cd5 : PySem.W.codeIn K cdd5 "is_wire" = true)
    (kd5 : PySem.W.keepIn K (.ref fd5) = true)
    (ad6 : PySem.W.nsIn K mainGlobals "is_taken" = some (some (.ref fd6)))
    (ld6 : K.lookup fd6 = some ⟨ocd6, odd6, .func (PySem.W.fnOf "is_taken" "is_taken" (defArgs sTaken) (defBody sTaken) (defScope sTaken) .none kVd6 dcd6 pmd6 and6 cdd6 ctd6), sld6⟩)
    (cd6 : PySem.W.codeIn K cdd6 "is_taken" = true)
    (kd6 : PySem.W.keepIn K (.ref fd6) = true)
    (ad7 : PySem.W.nsIn K mainGlobals "check_wires" = some (some (.ref fd7)))
    (ld7 : K.lookup fd7 = some ⟨ocd7, odd7, .func (PySem.W.fnOf "check_wires" "check_wires" (defArgs sChkWires) (defBody sChkWires) (defScope sChkWires) .none kVd7 dcd7 pmd7 and7 cdd7 ctd7), sld7⟩)
    (cd7 : PySem.W.codeIn K cdd7 "check_wires" = true)
    (kd7 : PySem.W.keepIn K (.ref fd7) = true)
    (ad8 : PySem.W.nsIn K mainGlobals "order_along" = some (some (.ref fd8)))
    (ld8 : K.lookup fd8 = some ⟨ocd8, odd8, .func (PySem.W.fnOf "order_along" "order_along" (defArgs sAlong) (defBody sAlong) (defScope sAlong) .none kVd8 dcd8 pmd8 and8 cdd8 ctd8), sld8⟩)
    (cd8 : PySem.W.codeIn K cdd8 "order_along" = true)
    (kd8 : PySem.W.keepIn K (.ref fd8) = true)
    (ad9 : PySem.W.nsIn K mainGlobals "bare_order" = some (some (.ref fd9)))
    (ld9 : K.lookup fd9 = some ⟨ocd9, odd9, .func (PySem.W.fnOf "bare_order" "bare_order" (defArgs sOrder) (defBody sOrder) (defScope sOrder) .none kVd9 dcd9 pmd9 and9 cdd9 ctd9), sld9⟩)
    (cd9 : PySem.W.codeIn K cdd9 "bare_order" = true)
    (kd9 : PySem.W.keepIn K (.ref fd9) = true)
    (ad10 : PySem.W.nsIn K mainGlobals "check_rings" = some (some (.ref fd10)))
    (ld10 : K.lookup fd10 = some ⟨ocd10, odd10, .func (PySem.W.fnOf "check_rings" "check_rings" (defArgs sChkRings) (defBody sChkRings) (defScope sChkRings) .none kVd10 dcd10 pmd10 and10 cdd10 ctd10), sld10⟩)
    (cd10 : PySem.W.codeIn K cdd10 "check_rings" = true)
    (kd10 : PySem.W.keepIn K (.ref fd10) = true)
    (ad11 : PySem.W.nsIn K mainGlobals "places_of" = some (some (.ref fd11)))
    (ld11 : K.lookup fd11 = some ⟨ocd11, odd11, .func (PySem.W.fnOf "places_of" "places_of" (defArgs sPlaces) (defBody sPlaces) (defScope sPlaces) .none kVd11 dcd11 pmd11 and11 cdd11 ctd11), sld11⟩)
    (cd11 : PySem.W.codeIn K cdd11 "places_of" = true)
    (kd11 : PySem.W.keepIn K (.ref fd11) = true)
    (ad12 : PySem.W.nsIn K mainGlobals "sum_of" = some (some (.ref fd12)))
    (ld12 : K.lookup fd12 = some ⟨ocd12, odd12, .func (PySem.W.fnOf "sum_of" "sum_of" (defArgs sSumOf) (defBody sSumOf) (defScope sSumOf) .none kVd12 dcd12 pmd12 and12 cdd12 ctd12), sld12⟩)
    (cd12 : PySem.W.codeIn K cdd12 "sum_of" = true)
    (kd12 : PySem.W.keepIn K (.ref fd12) = true)
    (ad13 : PySem.W.nsIn K mainGlobals "product_of" = some (some (.ref fd13)))
    (ld13 : K.lookup fd13 = some ⟨ocd13, odd13, .func (PySem.W.fnOf "product_of" "product_of" (defArgs sProdOf) (defBody sProdOf) (defScope sProdOf) .none kVd13 dcd13 pmd13 and13 cdd13 ctd13), sld13⟩)
    (cd13 : PySem.W.codeIn K cdd13 "product_of" = true)
    (kd13 : PySem.W.keepIn K (.ref fd13) = true)
    (ad14 : PySem.W.nsIn K mainGlobals "most_of" = some (some (.ref fd14)))
    (ld14 : K.lookup fd14 = some ⟨ocd14, odd14, .func (PySem.W.fnOf "most_of" "most_of" (defArgs sMostOf) (defBody sMostOf) (defScope sMostOf) .none kVd14 dcd14 pmd14 and14 cdd14 ctd14), sld14⟩)
    (cd14 : PySem.W.codeIn K cdd14 "most_of" = true)
    (kd14 : PySem.W.keepIn K (.ref fd14) = true)
    (ad15 : PySem.W.nsIn K mainGlobals "least_of" = some (some (.ref fd15)))
    (ld15 : K.lookup fd15 = some ⟨ocd15, odd15, .func (PySem.W.fnOf "least_of" "least_of" (defArgs sLeastOf) (defBody sLeastOf) (defScope sLeastOf) .none kVd15 dcd15 pmd15 and15 cdd15 ctd15), sld15⟩)
    (cd15 : PySem.W.codeIn K cdd15 "least_of" = true)
    (kd15 : PySem.W.keepIn K (.ref fd15) = true)
    (ad16 : PySem.W.nsIn K mainGlobals "first_of" = some (some (.ref fd16)))
    (ld16 : K.lookup fd16 = some ⟨ocd16, odd16, .func (PySem.W.fnOf "first_of" "first_of" (defArgs sFirstOf) (defBody sFirstOf) (defScope sFirstOf) .none kVd16 dcd16 pmd16 and16 cdd16 ctd16), sld16⟩)
    (cd16 : PySem.W.codeIn K cdd16 "first_of" = true)
    (kd16 : PySem.W.keepIn K (.ref fd16) = true)
    (ad17 : PySem.W.nsIn K mainGlobals "one_of" = some (some (.ref fd17)))
    (ld17 : K.lookup fd17 = some ⟨ocd17, odd17, .func (PySem.W.fnOf "one_of" "one_of" (defArgs sOneOf) (defBody sOneOf) (defScope sOneOf) .none kVd17 dcd17 pmd17 and17 cdd17 ctd17), sld17⟩)
    (cd17 : PySem.W.codeIn K cdd17 "one_of" = true)
    (kd17 : PySem.W.keepIn K (.ref fd17) = true)
    (ad18 : PySem.W.nsIn K mainGlobals "wire_worth" = some (some (.ref fd18)))
    (ld18 : K.lookup fd18 = some ⟨ocd18, odd18, .func (PySem.W.fnOf "wire_worth" "wire_worth" (defArgs sWireWorth) (defBody sWireWorth) (defScope sWireWorth) .none kVd18 dcd18 pmd18 and18 cdd18 ctd18), sld18⟩)
    (cd18 : PySem.W.codeIn K cdd18 "wire_worth" = true)
    (kd18 : PySem.W.keepIn K (.ref fd18) = true)
    (ad19 : PySem.W.nsIn K mainGlobals "coming_to" = some (some (.ref fd19)))
    (ld19 : K.lookup fd19 = some ⟨ocd19, odd19, .func (PySem.W.fnOf "coming_to" "coming_to" (defArgs sComing) (defBody sComing) (defScope sComing) .none kVd19 dcd19 pmd19 and19 cdd19 ctd19), sld19⟩)
    (cd19 : PySem.W.codeIn K cdd19 "coming_to" = true)
    (kd19 : PySem.W.keepIn K (.ref fd19) = true)
    (ad20 : PySem.W.nsIn K mainGlobals "check_row" = some (some (.ref fd20)))
    (ld20 : K.lookup fd20 = some ⟨ocd20, odd20, .func (PySem.W.fnOf "check_row" "check_row" (defArgs sChkRow) (defBody sChkRow) (defScope sChkRow) .none kVd20 dcd20 pmd20 and20 cdd20 ctd20), sld20⟩)
    (cd20 : PySem.W.codeIn K cdd20 "check_row" = true)
    (kd20 : PySem.W.keepIn K (.ref fd20) = true)
    (ad21 : PySem.W.nsIn K mainGlobals "worths" = some (some (.ref fd21)))
    (ld21 : K.lookup fd21 = some ⟨ocd21, odd21, .func (PySem.W.fnOf "worths" "worths" (defArgs sWorths) (defBody sWorths) (defScope sWorths) .none kVd21 dcd21 pmd21 and21 cdd21 ctd21), sld21⟩)
    (cd21 : PySem.W.codeIn K cdd21 "worths" = true)
    (kd21 : PySem.W.keepIn K (.ref fd21) = true)
    (ad22 : PySem.W.nsIn K mainGlobals "wire_behind" = some (some (.ref fd22)))
    (ld22 : K.lookup fd22 = some ⟨ocd22, odd22, .func (PySem.W.fnOf "wire_behind" "wire_behind" (defArgs sBehind) (defBody sBehind) (defScope sBehind) .none kVd22 dcd22 pmd22 and22 cdd22 ctd22), sld22⟩)
    (cd22 : PySem.W.codeIn K cdd22 "wire_behind" = true)
    (kd22 : PySem.W.keepIn K (.ref fd22) = true)
    (ad23 : PySem.W.nsIn K mainGlobals "net_behind" = some (some (.ref fd23)))
    (ld23 : K.lookup fd23 = some ⟨ocd23, odd23, .func (PySem.W.fnOf "net_behind" "net_behind" (defArgs sNetBehind) (defBody sNetBehind) (defScope sNetBehind) .none kVd23 dcd23 pmd23 and23 cdd23 ctd23), sld23⟩)
    (cd23 : PySem.W.codeIn K cdd23 "net_behind" = true)
    (kd23 : PySem.W.keepIn K (.ref fd23) = true)
    (ad24 : PySem.W.nsIn K mainGlobals "beat" = some (some (.ref fd24)))
    (ld24 : K.lookup fd24 = some ⟨ocd24, odd24, .func (PySem.W.fnOf "beat" "beat" (defArgs sBeat) (defBody sBeat) (defScope sBeat) .none kVd24 dcd24 pmd24 and24 cdd24 ctd24), sld24⟩)
    (cd24 : PySem.W.codeIn K cdd24 "beat" = true)
    (kd24 : PySem.W.keepIn K (.ref fd24) = true)
    (ad25 : PySem.W.nsIn K mainGlobals "run" = some (some (.ref fd25)))
    (ld25 : K.lookup fd25 = some ⟨ocd25, odd25, .func (PySem.W.fnOf "run" "run" (defArgs sRun) (defBody sRun) (defScope sRun) .none kVd25 dcd25 pmd25 and25 cdd25 ctd25), sld25⟩)
    (cd25 : PySem.W.codeIn K cdd25 "run" = true)
    (kd25 : PySem.W.keepIn K (.ref fd25) = true)
    (ad26 : PySem.W.nsIn K mainGlobals "numbers_text" = some (some (.ref fd26)))
    (ld26 : K.lookup fd26 = some ⟨ocd26, odd26, .func (PySem.W.fnOf "numbers_text" "numbers_text" (defArgs sNumsT) (defBody sNumsT) (defScope sNumsT) .none kVd26 dcd26 pmd26 and26 cdd26 ctd26), sld26⟩)
    (cd26 : PySem.W.codeIn K cdd26 "numbers_text" = true)
    (kd26 : PySem.W.keepIn K (.ref fd26) = true)
    (ad27 : PySem.W.nsIn K mainGlobals "net_text" = some (some (.ref fd27)))
    (ld27 : K.lookup fd27 = some ⟨ocd27, odd27, .func (PySem.W.fnOf "net_text" "net_text" (defArgs sNetT) (defBody sNetT) (defScope sNetT) .none kVd27 dcd27 pmd27 and27 cdd27 ctd27), sld27⟩)
    (cd27 : PySem.W.codeIn K cdd27 "net_text" = true)
    (kd27 : PySem.W.keepIn K (.ref fd27) = true)
    (ad28 : PySem.W.nsIn K mainGlobals "check_text" = some (some (.ref fd28)))
    (ld28 : K.lookup fd28 = some ⟨ocd28, odd28, .func (PySem.W.fnOf "check_text" "check_text" (defArgs sChkText) (defBody sChkText) (defScope sChkText) .none kVd28 dcd28 pmd28 and28 cdd28 ctd28), sld28⟩)
    (cd28 : PySem.W.codeIn K cdd28 "check_text" = true)
    (kd28 : PySem.W.keepIn K (.ref fd28) = true)
    (ad29 : PySem.W.nsIn K mainGlobals "read_number" = some (some (.ref fd29)))
    (ld29 : K.lookup fd29 = some ⟨ocd29, odd29, .func (PySem.W.fnOf "read_number" "read_number" (defArgs sReadNum) (defBody sReadNum) (defScope sReadNum) .none kVd29 dcd29 pmd29 and29 cdd29 ctd29), sld29⟩)
    (cd29 : PySem.W.codeIn K cdd29 "read_number" = true)
    (kd29 : PySem.W.keepIn K (.ref fd29) = true)
    (ad30 : PySem.W.nsIn K mainGlobals "read_gate" = some (some (.ref fd30)))
    (ld30 : K.lookup fd30 = some ⟨ocd30, odd30, .func (PySem.W.fnOf "read_gate" "read_gate" (defArgs sReadGate) (defBody sReadGate) (defScope sReadGate) .none kVd30 dcd30 pmd30 and30 cdd30 ctd30), sld30⟩)
    (cd30 : PySem.W.codeIn K cdd30 "read_gate" = true)
    (kd30 : PySem.W.keepIn K (.ref fd30) = true)
    (ad31 : PySem.W.nsIn K mainGlobals "read_wire" = some (some (.ref fd31)))
    (ld31 : K.lookup fd31 = some ⟨ocd31, odd31, .func (PySem.W.fnOf "read_wire" "read_wire" (defArgs sReadWire) (defBody sReadWire) (defScope sReadWire) .none kVd31 dcd31 pmd31 and31 cdd31 ctd31), sld31⟩)
    (cd31 : PySem.W.codeIn K cdd31 "read_wire" = true)
    (kd31 : PySem.W.keepIn K (.ref fd31) = true)
    (ad32 : PySem.W.nsIn K mainGlobals "read_net" = some (some (.ref fd32)))
    (ld32 : K.lookup fd32 = some ⟨ocd32, odd32, .func (PySem.W.fnOf "read_net" "read_net" (defArgs sReadNet) (defBody sReadNet) (defScope sReadNet) .none kVd32 dcd32 pmd32 and32 cdd32 ctd32), sld32⟩)
    (cd32 : PySem.W.codeIn K cdd32 "read_net" = true)
    (kd32 : PySem.W.keepIn K (.ref fd32) = true)
    (ad33 : PySem.W.nsIn K mainGlobals "_law_cell_at" = some (some (.ref fd33)))
    (ld33 : K.lookup fd33 = some ⟨ocd33, odd33, .func (PySem.W.fnOf "_law_cell_at" "_law_cell_at" (defArgs sCellAt) (defBody sCellAt) (defScope sCellAt) .none kVd33 dcd33 pmd33 and33 cdd33 ctd33), sld33⟩)
    (cd33 : PySem.W.codeIn K cdd33 "_law_cell_at" = true)
    (kd33 : PySem.W.keepIn K (.ref fd33) = true)
    (ad34 : PySem.W.nsIn K mainGlobals "_law_well" = some (some (.ref fd34)))
    (ld34 : K.lookup fd34 = some ⟨ocd34, odd34, .func (PySem.W.fnOf "_law_well" "_law_well" (defArgs sWell) (defBody sWell) (defScope sWell) .none kVd34 dcd34 pmd34 and34 cdd34 ctd34), sld34⟩)
    (cd34 : PySem.W.codeIn K cdd34 "_law_well" = true)
    (kd34 : PySem.W.keepIn K (.ref fd34) = true)
    (ad35 : PySem.W.nsIn K mainGlobals "_law_draw" = some (some (.ref fd35)))
    (ld35 : K.lookup fd35 = some ⟨ocd35, odd35, .func (PySem.W.fnOf "_law_draw" "_law_draw" (defArgs sDraw) (defBody sDraw) (defScope sDraw) .none kVd35 dcd35 pmd35 and35 cdd35 ctd35), sld35⟩)
    (cd35 : PySem.W.codeIn K cdd35 "_law_draw" = true)
    (kd35 : PySem.W.keepIn K (.ref fd35) = true)
    (ad36 : PySem.W.nsIn K mainGlobals "_law_one" = some (some (.ref fd36)))
    (ld36 : K.lookup fd36 = some ⟨ocd36, odd36, .func (PySem.W.fnOf "_law_one" "_law_one" (defArgs sOne) (defBody sOne) (defScope sOne) .none kVd36 dcd36 pmd36 and36 cdd36 ctd36), sld36⟩)
    (cd36 : PySem.W.codeIn K cdd36 "_law_one" = true)
    (kd36 : PySem.W.keepIn K (.ref fd36) = true)
    (ad37 : PySem.W.nsIn K mainGlobals "_law_ring" = some (some (.ref fd37)))
    (ld37 : K.lookup fd37 = some ⟨ocd37, odd37, .func (PySem.W.fnOf "_law_ring" "_law_ring" (defArgs sLRing) (defBody sLRing) (defScope sLRing) .none kVd37 dcd37 pmd37 and37 cdd37 ctd37), sld37⟩)
    (cd37 : PySem.W.codeIn K cdd37 "_law_ring" = true)
    (kd37 : PySem.W.keepIn K (.ref fd37) = true)
    (ad38 : PySem.W.nsIn K mainGlobals "_law_thirty" = some (some (.ref fd38)))
    (ld38 : K.lookup fd38 = some ⟨ocd38, odd38, .func (PySem.W.fnOf "_law_thirty" "_law_thirty" (defArgs sLThirty) (defBody sLThirty) (defScope sLThirty) .none kVd38 dcd38 pmd38 and38 cdd38 ctd38), sld38⟩)
    (cd38 : PySem.W.codeIn K cdd38 "_law_thirty" = true)
    (kd38 : PySem.W.keepIn K (.ref fd38) = true)
    (ad39 : PySem.W.nsIn K mainGlobals "_law_mixed" = some (some (.ref fd39)))
    (ld39 : K.lookup fd39 = some ⟨ocd39, odd39, .func (PySem.W.fnOf "_law_mixed" "_law_mixed" (defArgs sLMixed) (defBody sLMixed) (defScope sLMixed) .none kVd39 dcd39 pmd39 and39 cdd39 ctd39), sld39⟩)
    (cd39 : PySem.W.codeIn K cdd39 "_law_mixed" = true)
    (kd39 : PySem.W.keepIn K (.ref fd39) = true)
    (ad40 : PySem.W.nsIn K mainGlobals "_law_made" = some (some (.ref fd40)))
    (ld40 : K.lookup fd40 = some ⟨ocd40, odd40, .func (PySem.W.fnOf "_law_made" "_law_made" (defArgs sLMade) (defBody sLMade) (defScope sLMade) .none kVd40 dcd40 pmd40 and40 cdd40 ctd40), sld40⟩)
    (cd40 : PySem.W.codeIn K cdd40 "_law_made" = true)
    (kd40 : PySem.W.keepIn K (.ref fd40) = true)
    (ad41 : PySem.W.nsIn K mainGlobals "_law_told" = some (some (.ref fd41)))
    (ld41 : K.lookup fd41 = some ⟨ocd41, odd41, .func (PySem.W.fnOf "_law_told" "_law_told" (defArgs sLTold) (defBody sLTold) (defScope sLTold) .none kVd41 dcd41 pmd41 and41 cdd41 ctd41), sld41⟩)
    (cd41 : PySem.W.codeIn K cdd41 "_law_told" = true)
    (kd41 : PySem.W.keepIn K (.ref fd41) = true)
    (ad42 : PySem.W.nsIn K mainGlobals "_law_right" = some (some (.ref fd42)))
    (ld42 : K.lookup fd42 = some ⟨ocd42, odd42, .func (PySem.W.fnOf "_law_right" "_law_right" (defArgs sRight) (defBody sRight) (defScope sRight) .none kVd42 dcd42 pmd42 and42 cdd42 ctd42), sld42⟩)
    (cd42 : PySem.W.codeIn K cdd42 "_law_right" = true)
    (kd42 : PySem.W.keepIn K (.ref fd42) = true)
    (ad43 : PySem.W.nsIn K mainGlobals "law" = some (some (.ref fd43)))
    (ld43 : K.lookup fd43 = some ⟨ocd43, odd43, .func (PySem.W.fnOf "law" "law" (defArgs sLaw) (defBody sLaw) (defScope sLaw) .none kVd43 dcd43 pmd43 and43 cdd43 ctd43), sld43⟩)
    (cd43 : PySem.W.codeIn K cdd43 "law" = true)
    (kd43 : PySem.W.keepIn K (.ref fd43) = true)
    (am0 : PySem.W.findIn K (.ref C) "__init__" = some (some (.ref fm0)))
    (im0 : PySem.W.isFn K (.ref fm0) = true)
    (lm0 : K.lookup fm0 = some ⟨ocm0, odm0, .func (PySem.W.fnOf "__init__" "Net.__init__" (defArgs sInit) (defBody sInit) (defScope sInit) .none kVm0 dcm0 pmm0 anm0 cdm0 ctm0), slm0⟩)
    (cm0 : PySem.W.codeIn K cdm0 "Net.__init__" = true)
    (km0 : PySem.W.keepIn K (.ref fm0) = true)
    (am1 : PySem.W.findIn K (.ref C) "ins" = some (some (.ref fm1)))
    (im1 : PySem.W.isFn K (.ref fm1) = true)
    (lm1 : K.lookup fm1 = some ⟨ocm1, odm1, .func (PySem.W.fnOf "ins" "Net.ins" (defArgs sIns) (defBody sIns) (defScope sIns) .none kVm1 dcm1 pmm1 anm1 cdm1 ctm1), slm1⟩)
    (cm1 : PySem.W.codeIn K cdm1 "Net.ins" = true)
    (km1 : PySem.W.keepIn K (.ref fm1) = true)
    (am2 : PySem.W.findIn K (.ref C) "outs" = some (some (.ref fm2)))
    (im2 : PySem.W.isFn K (.ref fm2) = true)
    (lm2 : K.lookup fm2 = some ⟨ocm2, odm2, .func (PySem.W.fnOf "outs" "Net.outs" (defArgs sOuts) (defBody sOuts) (defScope sOuts) .none kVm2 dcm2 pmm2 anm2 cdm2 ctm2), slm2⟩)
    (cm2 : PySem.W.codeIn K cdm2 "Net.outs" = true)
    (km2 : PySem.W.keepIn K (.ref fm2) = true)
    (am3 : PySem.W.findIn K (.ref C) "__eq__" = some (some (.ref fm3)))
    (im3 : PySem.W.isFn K (.ref fm3) = true)
    (lm3 : K.lookup fm3 = some ⟨ocm3, odm3, .func (PySem.W.fnOf "__eq__" "Net.__eq__" (defArgs sEq) (defBody sEq) (defScope sEq) .none kVm3 dcm3 pmm3 anm3 cdm3 ctm3), slm3⟩)
    (cm3 : PySem.W.codeIn K cdm3 "Net.__eq__" = true)
    (km3 : PySem.W.keepIn K (.ref fm3) = true)
    (pgC : PySem.W.plainGet K C Str.empty = true)
    (hdC : PySem.W.hasDictIn K C = true)
    (poC : PySem.W.plainOver K C = true)
    (saC : PySem.W.findIn K (.ref C) "__setattr__" = some (some (.builtin "object.__setattr__")))
    (mkC : PySem.W.makesIn K C = true)
    (kcC : PySem.W.keepIn K (.ref C) = true)
    (nG : PySem.W.findIn K (.ref C) "gates" = some none)
    (nW : PySem.W.findIn K (.ref C) "wires" = some none)
    (ha : PySem.W.findIn K (.ref C) "__class__" = some (some (.builtin "object.__class__")))
    (hn : PySem.W.specialIn K (.builtin "object.__class__") "__get__" = some (some (.builtin "getset_descriptor.__get__")))
    (htk : PySem.W.takesIn K (.builtin "object.__class__") = some true)
    (hmo : PySem.W.mroIn K C (.type "object") = some true)
    (sNe : PySem.W.findIn K (.ref C) "__ne__" = some (some (.builtin "object.__ne__")))
    (zisi : PySem.W.nsIn K mainGlobals "isinstance" = some none)
    (zint : PySem.W.nsIn K mainGlobals "int" = some none)
    (zbool : PySem.W.nsIn K mainGlobals "bool" = some none)
    (zlen : PySem.W.nsIn K mainGlobals "len" = some none)
    (ztuple : PySem.W.nsIn K mainGlobals "tuple" = some none)
    (zstr : PySem.W.nsIn K mainGlobals "str" = some none)
    (zlist : PySem.W.nsIn K mainGlobals "list" = some none)
    (zall : PySem.W.nsIn K mainGlobals "all" = some none)
    (zenum : PySem.W.nsIn K mainGlobals "enumerate" = some none)
    (zzip : PySem.W.nsIn K mainGlobals "zip" = some none)
    (zrange : PySem.W.nsIn K mainGlobals "range" = some none)
    (zmax : PySem.W.nsIn K mainGlobals "max" = some none)
    (zsum : PySem.W.nsIn K mainGlobals "sum" = some none)
    (zmin : PySem.W.nsIn K mainGlobals "min" = some none)
    (gGW : PySem.W.nsIn K mainGlobals "GREATEST_WORTH" = some (some (.int 96 tGW)))
    (gGA : PySem.W.nsIn K mainGlobals "GREATEST_WAIT" = some (some (.int 100 tGA)))
    (gGD : PySem.W.nsIn K mainGlobals "DIVISOR" = some (some (.int 97 tGD)))
    (gMF : PySem.W.nsIn K mainGlobals "MOST_FIGURES" = some (some (.int 60 tMF)))
    (gK : PySem.W.nsIn K mainGlobals "KINDS" = some (some (.ref aK)))
    (oK : K.lookup aK = some ⟨.type "tuple", ddK, .seq #[.str "in" tK0, .str "out" tK1, .str "sum" tK2, .str "times" tK3, .str "most" tK4, .str "least" tK5, .str "first" tK6, .str "one" tK7] nnK, ssK⟩)
    (gW : PySem.W.nsIn K mainGlobals "OUTER_KINDS" = some (some (.ref aW)))
    (oW : K.lookup aW = some ⟨.type "tuple", ddW, .seq #[.str "in" tW0, .str "out" tW1] nnW, ssW⟩)
    (gF : PySem.W.nsIn K mainGlobals "KINDS_WITH_A_WIRE" = some (some (.ref aF)))
    (oF : K.lookup aF = some ⟨.type "tuple", ddF, .seq #[.str "out" tF0, .str "first" tF1] nnF, ssF⟩)
    (gR : PySem.W.nsIn K mainGlobals "RULES" = some (some (.ref aR)))
    (oR : K.lookup aR = some ⟨.type "dict", none, .dict esR nnR, #[]⟩)
    (lR : PySem.W.KeysLit w.params esR.toList)
    (r0 : PySem.W.nsIn K aR "out" = some (some (.ref fd16)))
    (r1 : PySem.W.nsIn K aR "sum" = some (some (.ref fd12)))
    (r2 : PySem.W.nsIn K aR "times" = some (some (.ref fd13)))
    (r3 : PySem.W.nsIn K aR "most" = some (some (.ref fd14)))
    (r4 : PySem.W.nsIn K aR "least" = some (some (.ref fd15)))
    (r5 : PySem.W.nsIn K aR "first" = some (some (.ref fd16)))
    (r6 : PySem.W.nsIn K aR "one" = some (some (.ref fd17))) :
    ∃ fd : FuncData, (∀ (s : Shared) (v : Value), BindsTo s fd ⟨[v], []⟩ [("_law_script", v)]) ∧ ∀ base : Heap, K.In base → base.Ns mainGlobals mg → FnOk l.prog w K mg base CX0 12 fa fd ["_law_script"] (spLaw K) := by
  have e := hfa.symm.trans (PySem.W.mg_of X G ad43)
  cases e
  have Fd0 := fun_mk (st := sWhole) ld0 cd0 kd0
  have Fd1 := fun_mk (st := sFromTo) ld1 cd1 kd1
  have Fd2 := fun_mk (st := sWorth) ld2 cd2 kd2
  have Fd3 := fun_mk (st := sIsGate) ld3 cd3 kd3
  have Fd4 := fun_mk (st := sChkGates) ld4 cd4 kd4
  have Fd5 := fun_mk (st := sIsWire) ld5 cd5 kd5
  have Fd6 := fun_mk (st := sTaken) ld6 cd6 kd6
  have Fd7 := fun_mk (st := sChkWires) ld7 cd7 kd7
  have Fd8 := fun_mk (st := sAlong) ld8 cd8 kd8
  have Fd9 := fun_mk (st := sOrder) ld9 cd9 kd9
  have Fd10 := fun_mk (st := sChkRings) ld10 cd10 kd10
  have Fd11 := fun_mk (st := sPlaces) ld11 cd11 kd11
  have Fd12 := fun_mk (st := sSumOf) ld12 cd12 kd12
  have Fd13 := fun_mk (st := sProdOf) ld13 cd13 kd13
  have Fd14 := fun_mk (st := sMostOf) ld14 cd14 kd14
  have Fd15 := fun_mk (st := sLeastOf) ld15 cd15 kd15
  have Fd16 := fun_mk (st := sFirstOf) ld16 cd16 kd16
  have Fd17 := fun_mk (st := sOneOf) ld17 cd17 kd17
  have Fd18 := fun_mk (st := sWireWorth) ld18 cd18 kd18
  have Fd19 := fun_mk (st := sComing) ld19 cd19 kd19
  have Fd20 := fun_mk (st := sChkRow) ld20 cd20 kd20
  have Fd21 := fun_mk (st := sWorths) ld21 cd21 kd21
  have Fd22 := fun_mk (st := sBehind) ld22 cd22 kd22
  have Fd23 := fun_mk (st := sNetBehind) ld23 cd23 kd23
  have Fd24 := fun_mk (st := sBeat) ld24 cd24 kd24
  have Fd25 := fun_mk (st := sRun) ld25 cd25 kd25
  have Fd26 := fun_mk (st := sNumsT) ld26 cd26 kd26
  have Fd27 := fun_mk (st := sNetT) ld27 cd27 kd27
  have Fd28 := fun_mk (st := sChkText) ld28 cd28 kd28
  have Fd29 := fun_mk (st := sReadNum) ld29 cd29 kd29
  have Fd30 := fun_mk (st := sReadGate) ld30 cd30 kd30
  have Fd31 := fun_mk (st := sReadWire) ld31 cd31 kd31
  have Fd32 := fun_mk (st := sReadNet) ld32 cd32 kd32
  have Fd33 := fun_mk (st := sCellAt) ld33 cd33 kd33
  have Fd34 := fun_mk (st := sWell) ld34 cd34 kd34
  have Fd35 := fun_mk (st := sDraw) ld35 cd35 kd35
  have Fd36 := fun_mk (st := sOne) ld36 cd36 kd36
  have Fd37 := fun_mk (st := sLRing) ld37 cd37 kd37
  have Fd38 := fun_mk (st := sLThirty) ld38 cd38 kd38
  have Fd39 := fun_mk (st := sLMixed) ld39 cd39 kd39
  have Fd40 := fun_mk (st := sLMade) ld40 cd40 kd40
  have Fd41 := fun_mk (st := sLTold) ld41 cd41 kd41
  have Fd42 := fun_mk (st := sRight) ld42 cd42 kd42
  have Fd43 := fun_mk (st := sLaw) ld43 cd43 kd43
  have Fm0 := fun_mk (st := sInit) lm0 cm0 km0
  have Fm1 := fun_mk (st := sIns) lm1 cm1 km1
  have Fm2 := fun_mk (st := sOuts) lm2 cm2 km2
  have Fm3 := fun_mk (st := sEq) lm3 cm3 km3
  have B : Bt mg := ⟨PySem.W.mg_none_of X G zisi, PySem.W.mg_none_of X G zint, PySem.W.mg_none_of X G zbool, PySem.W.mg_none_of X G zlen, PySem.W.mg_none_of X G ztuple, PySem.W.mg_none_of X G zstr, PySem.W.mg_none_of X G zlist, PySem.W.mg_none_of X G zall, PySem.W.mg_none_of X G zenum, PySem.W.mg_none_of X G zzip, PySem.W.mg_none_of X G zrange, PySem.W.mg_none_of X G zmax⟩
  have b_sum := PySem.W.mg_none_of X G zsum
  have b_min := PySem.W.mg_none_of X G zmin
  have Cn : Cns K mg aK aW aF := ⟨⟨_, PySem.W.mg_of X G gGW⟩, ⟨_, PySem.W.mg_of X G gGA⟩, PySem.W.mg_of X G gK, fun _ => .inr ⟨_, _, _, oK, rfl, rfl, (by show 8 ≤ sizeLine; decide), .cons ⟨_, rfl⟩ (.cons ⟨_, rfl⟩ (.cons ⟨_, rfl⟩ (.cons ⟨_, rfl⟩ (.cons ⟨_, rfl⟩ (.cons ⟨_, rfl⟩ (.cons ⟨_, rfl⟩ (.cons ⟨_, rfl⟩ (.nil))))))))⟩, PySem.W.mg_of X G gW, fun _ => .inr ⟨_, _, _, oW, rfl, rfl, (by show 2 ≤ sizeLine; decide), .cons ⟨_, rfl⟩ (.cons ⟨_, rfl⟩ (.nil))⟩, PySem.W.mg_of X G gF, fun _ => .inr ⟨_, _, _, oF, rfl, rfl, (by show 2 ≤ sizeLine; decide), .cons ⟨_, rfl⟩ (.cons ⟨_, rfl⟩ (.nil))⟩⟩
  have i_GD : ∃ t, mg "DIVISOR" = some (.int 97 t) := ⟨_, PySem.W.mg_of X G gGD⟩
  have i_MF : ∃ t, mg "MOST_FIGURES" = some (.int 60 t) := ⟨_, PySem.W.mg_of X G gMF⟩
  have T : NT K mg C := ⟨⟨pgC, hdC, poC, saC⟩, nG, nW, PySem.W.mg_of X G aC⟩
  have Y : NTy K C := ⟨ha, hn, htk, hmo⟩
  have bm0 := Fm0.binds (ps := ["self", "gates", "wires"]) fun _ _ _ _ _ _ us hl => match us, hl with | [_, _, _], _ => rfl
  have bm1 := Fm1.binds (ps := ["self"]) fun _ _ _ _ _ _ us hl => match us, hl with | [_], _ => rfl
  have bm2 := Fm2.binds (ps := ["self"]) fun _ _ _ _ _ _ us hl => match us, hl with | [_], _ => rfl
  have bm3 := Fm3.binds (ps := ["self", "other"]) fun _ _ _ _ _ _ us hl => match us, hl with | [_, _], _ => rfl
  have bd16 := Fd16.binds (ps := ["coming"]) fun _ _ _ _ _ _ us hl => match us, hl with | [_], _ => rfl
  have bd15 := Fd15.binds (ps := ["coming"]) fun _ _ _ _ _ _ us hl => match us, hl with | [_], _ => rfl
  have bd14 := Fd14.binds (ps := ["coming"]) fun _ _ _ _ _ _ us hl => match us, hl with | [_], _ => rfl
  have bd17 := Fd17.binds (ps := ["coming"]) fun _ _ _ _ _ _ us hl => match us, hl with | [_], _ => rfl
  have bd13 := Fd13.binds (ps := ["coming"]) fun _ _ _ _ _ _ us hl => match us, hl with | [_], _ => rfl
  have bd12 := Fd12.binds (ps := ["coming"]) fun _ _ _ _ _ _ us hl => match us, hl with | [_], _ => rfl
  refine ⟨PySem.W.fnOf "law" "law" (defArgs sLaw) (defBody sLaw) (defScope sLaw) .none kVd43 dcd43 pmd43 and43 cdd43 ctd43, fun s v => .of_eq rfl, fun base _ _ => ?_⟩
  have whole := ok_whole (P := l.prog) (w := w) (base := base) Fd0 (PySem.W.mg_of X G ad0) B
  have ft := ok_fromTo (P := l.prog) (w := w) (base := base) Fd1 (PySem.W.mg_of X G ad1) whole
  have wo := ok_worth (P := l.prog) (w := w) (base := base) Fd2 (PySem.W.mg_of X G ad2) Cn ft
  have ig := ok_isGate (P := l.prog) (w := w) (base := base) Fd3 (PySem.W.mg_of X G ad3) B Cn ft
  have cg := ok_chkGates (P := l.prog) (w := w) (base := base) Fd4 (PySem.W.mg_of X G ad4) B ig
  have iw := ok_isWire (P := l.prog) (w := w) (base := base) Fd5 (PySem.W.mg_of X G ad5) B ft wo
  have tk := ok_taken (P := l.prog) (w := w) (base := base) Fd6 (PySem.W.mg_of X G ad6)
  have cw := ok_chkWires (P := l.prog) (w := w) (base := base) Fd7 (PySem.W.mg_of X G ad7) B Cn iw tk
  have al := ok_along (P := l.prog) (w := w) (base := base) Fd8 (PySem.W.mg_of X G ad8) B
  have od := ok_order (P := l.prog) (w := w) (base := base) Fd9 (PySem.W.mg_of X G ad9) B al
  have cr := ok_chkRings (P := l.prog) (w := w) (base := base) Fd10 (PySem.W.mg_of X G ad10) B od
  have init := ok_init (P := l.prog) (w := w) (base := base) Fm0 T B cg cw cr
  have MK : Mk K C fm0 := ⟨mkC, am0, im0, kcC⟩
  have pl := ok_places (P := l.prog) (w := w) (base := base) Fd11 (PySem.W.mg_of X G ad11) B
  have RL : Rl l.prog w K mg base aR := by
    refine ⟨PySem.W.mg_of X G gR, fun k hk hki => ?_⟩
    rcases kind_of k hk with h | h | h | h | h | h | h | h
    · exact absurd h hki
    · subst h
      exact ⟨fd16, _, ⟨esR, nnR, _, oR, lR, r0, rfl⟩, ok_firstOf (k := "out") (.inl rfl) Fd16, kd16, bd16⟩
    · subst h
      exact ⟨fd12, _, ⟨esR, nnR, _, oR, lR, r1, rfl⟩, ok_sumOf Fd12 b_sum i_GD, kd12, bd12⟩
    · subst h
      exact ⟨fd13, _, ⟨esR, nnR, _, oR, lR, r2, rfl⟩, ok_prodOf Fd13 i_GD, kd13, bd13⟩
    · subst h
      exact ⟨fd14, _, ⟨esR, nnR, _, oR, lR, r3, rfl⟩, ok_mostOf Fd14 B.max, kd14, bd14⟩
    · subst h
      exact ⟨fd15, _, ⟨esR, nnR, _, oR, lR, r4, rfl⟩, ok_leastOf Fd15 b_min ⟨_, PySem.W.mg_of X G gGW⟩, kd15, bd15⟩
    · subst h
      exact ⟨fd16, _, ⟨esR, nnR, _, oR, lR, r5, rfl⟩, ok_firstOf (k := "first") (.inr rfl) Fd16, kd16, bd16⟩
    · subst h
      exact ⟨fd17, _, ⟨esR, nnR, _, oR, lR, r6, rfl⟩, ok_oneOf Fd17 B.max, kd17, bd17⟩
  have ins := ok_ins (P := l.prog) (w := w) (base := base) Fm1 T pl
  have outs := ok_outs (P := l.prog) (w := w) (base := base) Fm2 T pl
  have mN : Meth K C "ins" fm1 := ⟨am1, im1, km1⟩
  have mO : Meth K C "outs" fm2 := ⟨am2, im2, km2⟩
  have ww := ok_wireWorth (P := l.prog) (w := w) (base := base) Fd18 (PySem.W.mg_of X G ad18) B
  have cm := ok_coming (P := l.prog) (w := w) (base := base) Fd19 (PySem.W.mg_of X G ad19) ww
  have chr := ok_chkRow (P := l.prog) (w := w) (base := base) Fd20 (PySem.W.mg_of X G ad20) B T wo ins mN bm1
  have wsx := ok_worths (P := l.prog) (w := w) (base := base) Fd21 (PySem.W.mg_of X G ad21) B T RL chr od cm ins mN bm1
  have bhd := ok_behind (P := l.prog) (w := w) (base := base) Fd22 (PySem.W.mg_of X G ad22) B
  have nbh := ok_netBehind (P := l.prog) (w := w) (base := base) Fd23 (PySem.W.mg_of X G ad23) T bhd MK init bm0
  have bt := ok_beat (P := l.prog) (w := w) (base := base) Fd24 (PySem.W.mg_of X G ad24) T wsx nbh outs mO bm2
  have rn := ok_run (P := l.prog) (w := w) (base := base) Fd25 (PySem.W.mg_of X G ad25) B T bt MK init bm0
  have Z : NC l.prog w K mg base C fm0 fm3 fm2 _ _ _ := ⟨T, Y, MK, init, bm0, ok_eqN Fm3 T Y B, am3, im3, bm3, outs, mO, bm2⟩
  have nt_ := ok_numsT (P := l.prog) (w := w) (base := base) Fd26 (PySem.W.mg_of X G ad26) B
  have ne_ := ok_netT (P := l.prog) (w := w) (base := base) Fd27 (PySem.W.mg_of X G ad27) B T nt_
  have ct_ := ok_chkText (P := l.prog) (w := w) (base := base) Fd28 (PySem.W.mg_of X G ad28) B
  have rn_ := ok_readNum (P := l.prog) (w := w) (base := base) Fd29 (PySem.W.mg_of X G ad29) B i_MF
  have rg_ := ok_readGate (P := l.prog) (w := w) (base := base) Fd30 (PySem.W.mg_of X G ad30) B rn_
  have rw_ := ok_readWire (P := l.prog) (w := w) (base := base) Fd31 (PySem.W.mg_of X G ad31) B rn_
  have rd_ := ok_readNet (P := l.prog) (w := w) (base := base) Fd32 (PySem.W.mg_of X G ad32) B T ct_ rg_ rw_ ne_ MK init bm0
  have ca := ok_cellAt (P := l.prog) (w := w) (base := base) Fd33 (PySem.W.mg_of X G ad33) B.len
  have we := ok_well (P := l.prog) (w := w) (base := base) Fd34 (PySem.W.mg_of X G ad34) B.int
  have dr := ok_draw (P := l.prog) (w := w) (base := base) Fd35 (PySem.W.mg_of X G ad35)
  have on := ok_one (P := l.prog) (w := w) (base := base) Fd36 (PySem.W.mg_of X G ad36) dr B.len
  have rng := ok_lring (P := l.prog) (w := w) (base := base) Fd37 (PySem.W.mg_of X G ad37) B dr on
  have th := ok_lthirty (P := l.prog) (w := w) (base := base) Fd38 (PySem.W.mg_of X G ad38) B dr on
  have mx := ok_lmixed (P := l.prog) (w := w) (base := base) Fd39 (PySem.W.mg_of X G ad39) B dr
  have md := ok_lmade (P := l.prog) (w := w) (base := base) Fd40 (PySem.W.mg_of X G ad40) B b_sum b_min
  have tl := ok_ltold (P := l.prog) (w := w) (base := base) Fd41 (PySem.W.mg_of X G ad41) B md
  have ri := ok_right (P := l.prog) (w := w) (base := base) Fd42 (PySem.W.mg_of X G ad42) B Z sNe tl rn ne_ rd_
  exact ok_law Fd43 B ca we dr rng th mx ri
end Lag

set_option maxRecDepth 100000
open PySem PySem.W PyProof.Rows
set_option maxRecDepth 100000 in
set_option maxHeartbeats 0 in
theorem PySem.Challenge.cw_lagshift_k05_great_nets_run_holds : PySem.Challenge.rw_lagshift_k05_great_nets_run.Holds := by
  w_on; o_law; k_head; (case hw => w_witness2)
  k_fill
  refine L2.walk_of (l := PySem.Challenge.rw_lagshift_k05_great_nets_run) (n := 63) (k := 12) (x := "_law_script") (CX := fun _ => L2.CX0) (sp := fun w => Lag.spLaw _) rfl (by decide) rfl ⟨rfl, by decide, by decide⟩ (fun w h Y => PySem.W.kIn_of Y) ?F (fun _ _ a ns hl _ hS => ⟨a, ns, rfl, hS, hl, fun _ => rfl⟩) (fun _ _ _ _ _ h => h)
  case F =>
    intro w mg fa h KX G hmg
    refine' Lag.all_mk KX G hmg ?aC ?ad0 ?ld0 ?cd0 ?kd0 ?ad1 ?ld1 ?cd1 ?kd1 ?ad2 ?ld2 ?cd2 ?kd2 ?ad3 ?ld3 ?cd3 ?kd3 ?ad4 ?ld4 ?cd4 ?kd4 ?ad5 ?ld5 ?cd5 ?kd5 ?ad6 ?ld6 ?cd6 ?kd6 ?ad7 ?ld7 ?cd7 ?kd7 ?ad8 ?ld8 ?cd8 ?kd8 ?ad9 ?ld9 ?cd9 ?kd9 ?ad10 ?ld10 ?cd10 ?kd10 ?ad11 ?ld11 ?cd11 ?kd11 ?ad12 ?ld12 ?cd12 ?kd12 ?ad13 ?ld13 ?cd13 ?kd13 ?ad14 ?ld14 ?cd14 ?kd14 ?ad15 ?ld15 ?cd15 ?kd15 ?ad16 ?ld16 ?cd16 ?kd16 ?ad17 ?ld17 ?cd17 ?kd17 ?ad18 ?ld18 ?cd18 ?kd18 ?ad19 ?ld19 ?cd19 ?kd19 ?ad20 ?ld20 ?cd20 ?kd20 ?ad21 ?ld21 ?cd21 ?kd21 ?ad22 ?ld22 ?cd22 ?kd22 ?ad23 ?ld23 ?cd23 ?kd23 ?ad24 ?ld24 ?cd24 ?kd24 ?ad25 ?ld25 ?cd25 ?kd25 ?ad26 ?ld26 ?cd26 ?kd26 ?ad27 ?ld27 ?cd27 ?kd27 ?ad28 ?ld28 ?cd28 ?kd28 ?ad29 ?ld29 ?cd29 ?kd29 ?ad30 ?ld30 ?cd30 ?kd30 ?ad31 ?ld31 ?cd31 ?kd31 ?ad32 ?ld32 ?cd32 ?kd32 ?ad33 ?ld33 ?cd33 ?kd33 ?ad34 ?ld34 ?cd34 ?kd34 ?ad35 ?ld35 ?cd35 ?kd35 ?ad36 ?ld36 ?cd36 ?kd36 ?ad37 ?ld37 ?cd37 ?kd37 ?ad38 ?ld38 ?cd38 ?kd38 ?ad39 ?ld39 ?cd39 ?kd39 ?ad40 ?ld40 ?cd40 ?kd40 ?ad41 ?ld41 ?cd41 ?kd41 ?ad42 ?ld42 ?cd42 ?kd42 ?ad43 ?ld43 ?cd43 ?kd43 ?am0 ?im0 ?lm0 ?cm0 ?km0 ?am1 ?im1 ?lm1 ?cm1 ?km1 ?am2 ?im2 ?lm2 ?cm2 ?km2 ?am3 ?im3 ?lm3 ?cm3 ?km3 ?pgC ?hdC ?poC ?saC ?mkC ?kcC ?nG ?nW ?ha ?hn ?htk ?hmo ?sNe ?zisi ?zint ?zbool ?zlen ?ztuple ?zstr ?zlist ?zall ?zenum ?zzip ?zrange ?zmax ?zsum ?zmin ?gGW ?gGA ?gGD ?gMF ?gK ?oK ?gW ?oW ?gF ?oF ?gR ?oR ?lR ?r0 ?r1 ?r2 ?r3 ?r4 ?r5 ?r6
    (case aC => k_is)
    (case ad0 => k_is)
    (case ld0 => k_is)
    (case cd0 => k_is)
    (case kd0 => k_is)
    (case ad1 => k_is)
    (case ld1 => k_is)
    (case cd1 => k_is)
    (case kd1 => k_is)
    (case ad2 => k_is)
    (case ld2 => k_is)
    (case cd2 => k_is)
    (case kd2 => k_is)
    (case ad3 => k_is)
    (case ld3 => k_is)
    (case cd3 => k_is)
    (case kd3 => k_is)
    (case ad4 => k_is)
    (case ld4 => k_is)
    (case cd4 => k_is)
    (case kd4 => k_is)
    (case ad5 => k_is)
    (case ld5 => k_is)
    (case cd5 => k_is)
    (case kd5 => k_is)
    (case ad6 => k_is)
    (case ld6 => k_is)
    (case cd6 => k_is)
    (case kd6 => k_is)
    (case ad7 => k_is)
    (case ld7 => k_is)
    (case cd7 => k_is)
    (case kd7 => k_is)
    (case ad8 => k_is)
    (case ld8 => k_is)
    (case cd8 => k_is)
    (case kd8 => k_is)
    (case ad9 => k_is)
    (case ld9 => k_is)
    (case cd9 => k_is)
    (case kd9 => k_is)
    (case ad10 => k_is)
    (case ld10 => k_is)
    (case cd10 => k_is)
    (case kd10 => k_is)
    (case ad11 => k_is)
    (case ld11 => k_is)
    (case cd11 => k_is)
    (case kd11 => k_is)
    (case ad12 => k_is)
    (case ld12 => k_is)
    (case cd12 => k_is)
    (case kd12 => k_is)
    (case ad13 => k_is)
    (case ld13 => k_is)
    (case cd13 => k_is)
    (case kd13 => k_is)
    (case ad14 => k_is)
    (case ld14 => k_is)
    (case cd14 => k_is)
    (case kd14 => k_is)
    (case ad15 => k_is)
    (case ld15 => k_is)
    (case cd15 => k_is)
    (case kd15 => k_is)
    (case ad16 => k_is)
    (case ld16 => k_is)
    (case cd16 => k_is)
    (case kd16 => k_is)
    (case ad17 => k_is)
    (case ld17 => k_is)
    (case cd17 => k_is)
    (case kd17 => k_is)
    (case ad18 => k_is)
    (case ld18 => k_is)
    (case cd18 => k_is)
    (case kd18 => k_is)
    (case ad19 => k_is)
    (case ld19 => k_is)
    (case cd19 => k_is)
    (case kd19 => k_is)
    (case ad20 => k_is)
    (case ld20 => k_is)
    (case cd20 => k_is)
    (case kd20 => k_is)
    (case ad21 => k_is)
    (case ld21 => k_is)
    (case cd21 => k_is)
    (case kd21 => k_is)
    (case ad22 => k_is)
    (case ld22 => k_is)
    (case cd22 => k_is)
    (case kd22 => k_is)
    (case ad23 => k_is)
    (case ld23 => k_is)
    (case cd23 => k_is)
    (case kd23 => k_is)
    (case ad24 => k_is)
    (case ld24 => k_is)
    (case cd24 => k_is)
    (case kd24 => k_is)
    (case ad25 => k_is)
    (case ld25 => k_is)
    (case cd25 => k_is)
    (case kd25 => k_is)
    (case ad26 => k_is)
    (case ld26 => k_is)
    (case cd26 => k_is)
    (case kd26 => k_is)
    (case ad27 => k_is)
    (case ld27 => k_is)
    (case cd27 => k_is)
    (case kd27 => k_is)
    (case ad28 => k_is)
    (case ld28 => k_is)
    (case cd28 => k_is)
    (case kd28 => k_is)
    (case ad29 => k_is)
    (case ld29 => k_is)
    (case cd29 => k_is)
    (case kd29 => k_is)
    (case ad30 => k_is)
    (case ld30 => k_is)
    (case cd30 => k_is)
    (case kd30 => k_is)
    (case ad31 => k_is)
    (case ld31 => k_is)
    (case cd31 => k_is)
    (case kd31 => k_is)
    (case ad32 => k_is)
    (case ld32 => k_is)
    (case cd32 => k_is)
    (case kd32 => k_is)
    (case ad33 => k_is)
    (case ld33 => k_is)
    (case cd33 => k_is)
    (case kd33 => k_is)
    (case ad34 => k_is)
    (case ld34 => k_is)
    (case cd34 => k_is)
    (case kd34 => k_is)
    (case ad35 => k_is)
    (case ld35 => k_is)
    (case cd35 => k_is)
    (case kd35 => k_is)
    (case ad36 => k_is)
    (case ld36 => k_is)
    (case cd36 => k_is)
    (case kd36 => k_is)
    (case ad37 => k_is)
    (case ld37 => k_is)
    (case cd37 => k_is)
    (case kd37 => k_is)
    (case ad38 => k_is)
    (case ld38 => k_is)
    (case cd38 => k_is)
    (case kd38 => k_is)
    (case ad39 => k_is)
    (case ld39 => k_is)
    (case cd39 => k_is)
    (case kd39 => k_is)
    (case ad40 => k_is)
    (case ld40 => k_is)
    (case cd40 => k_is)
    (case kd40 => k_is)
    (case ad41 => k_is)
    (case ld41 => k_is)
    (case cd41 => k_is)
    (case kd41 => k_is)
    (case ad42 => k_is)
    (case ld42 => k_is)
    (case cd42 => k_is)
    (case kd42 => k_is)
    (case ad43 => k_is)
    (case ld43 => k_is)
    (case cd43 => k_is)
    (case kd43 => k_is)
    (case am0 => k_is)
    (case im0 => k_is)
    (case lm0 => k_is)
    (case cm0 => k_is)
    (case km0 => k_is)
    (case am1 => k_is)
    (case im1 => k_is)
    (case lm1 => k_is)
    (case cm1 => k_is)
    (case km1 => k_is)
    (case am2 => k_is)
    (case im2 => k_is)
    (case lm2 => k_is)
    (case cm2 => k_is)
    (case km2 => k_is)
    (case am3 => k_is)
    (case im3 => k_is)
    (case lm3 => k_is)
    (case cm3 => k_is)
    (case km3 => k_is)
    (case pgC => k_is)
    (case hdC => k_is)
    (case poC => k_is)
    (case saC => k_is)
    (case mkC => k_is)
    (case kcC => k_is)
    (case nG => k_is)
    (case nW => k_is)
    (case ha => k_is)
    (case hn => k_is)
    (case htk => k_is)
    (case hmo => k_is)
    (case sNe => k_is)
    (case zisi => k_is)
    (case zint => k_is)
    (case zbool => k_is)
    (case zlen => k_is)
    (case ztuple => k_is)
    (case zstr => k_is)
    (case zlist => k_is)
    (case zall => k_is)
    (case zenum => k_is)
    (case zzip => k_is)
    (case zrange => k_is)
    (case zmax => k_is)
    (case zsum => k_is)
    (case zmin => k_is)
    (case gGW => k_is)
    (case gGA => k_is)
    (case gGD => k_is)
    (case gMF => k_is)
    (case gK => k_is)
    (case oK => k_is)
    (case gW => k_is)
    (case oW => k_is)
    (case gF => k_is)
    (case oF => k_is)
    (case gR => k_is)
    (case oR => k_is)
    (case lR => exact ⟨⟨_, _, rfl, rfl⟩, ⟨_, _, rfl, rfl⟩, ⟨_, _, rfl, rfl⟩, ⟨_, _, rfl, rfl⟩, ⟨_, _, rfl, rfl⟩, ⟨_, _, rfl, rfl⟩, ⟨_, _, rfl, rfl⟩, trivial⟩)
    (case r0 => k_is)
    (case r1 => k_is)
    (case r2 => k_is)
    (case r3 => k_is)
    (case r4 => k_is)
    (case r5 => k_is)
    (case r6 => k_is)

