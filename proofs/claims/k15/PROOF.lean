import PyProof.Rows.All
import Wide.All
import OpenK.AllK
import Wide.FinOn
import HandS.ForMost
import HandS.IsInst
import HandS.Evl
import HandS.Flow
import HandS.Conv
import HandS.Wide
import HandS.Walk
import HandS.Zip
import HandS.OwnEq
import HandS.Style
import HandS.TupAny
import KE.KMinKey
import HandS.SortKw
import HandS.CallLocal
import HandS.More
import HandS.Iter
import HandS.SortInts
import HandS.Dict
import PySem.Challenge.RW_lagshift_k15_whole_nets_told_otherwise
set_option Elab.async false
set_option linter.all false
set_option maxRecDepth 100000
set_option maxHeartbeats 4000000
namespace Lag
open PySem PySem.Spec PyProof.Rows L2
/-! ### the text by its places -/
def topS (i : Nat) : Stmt := PySem.Challenge.pw_lagshift_k15_whole_nets_told_otherwise.main.body.getD i (.Pass ⟨0, 0, 0, 0⟩)
abbrev sCellAt : Stmt := topS 47
abbrev sWell : Stmt := topS 48
abbrev sDraw : Stmt := topS 49
abbrev sOne : Stmt := topS 50
abbrev sGate : Stmt := topS 51
/-! ### heaps -/
/-- all stands as it stood but at w -/
def But (w : Addr) (H H' : Hp) : Prop := ∀ b o, b ≠ w → H b = some o → H' b = some o
theorem But.refl (w : Addr) (H : Hp) : But w H H := fun _ _ _ h => h
theorem But.trans {w : Addr} {H H1 H2 : Hp} (a : But w H H1) (b : But w H1 H2) : But w H H2 := fun c o n h => b c o n (a c o n h)
theorem But.same {w : Addr} {H H1 : Hp} (a : Same H H1) : But w H H1 := fun c o _ h => a c o h
theorem But.upd {w : Addr} {H : Hp} {o : HO} : But w H (upd H w o) := fun c u n h => by rw [upd_ne n]; exact h
theorem But.new {w p : Addr} {H : Hp} {o : HO} (h : H p = none) : But w H (L2.upd H p o) := fun c u n e => by rw [upd_ne (ne_of_none e h)]; exact e
theorem same_new {H : Hp} {p : Addr} {o : HO} (h : H p = none) : Same H (upd H p o) := fun b x e => by rw [upd_ne (ne_of_none e h)]; exact e
/-- an object that H does not know may be changed -/
theorem same_mut {H H' : Hp} {p : Addr} {o : HO} (e : Same H H') (h : H p = none) : Same H (upd H' p o) := fun a u ha => by rw [upd_ne (ne_of_none ha h)]; exact e a u ha
theorem But.mut {w p : Addr} {H H' : Hp} {o : HO} (e : But w H H') (h : H p = none) : But w H (L2.upd H' p o) := fun a u n ha => by rw [upd_ne (ne_of_none ha h)]; exact e a u n ha
theorem But.seq {K : PySem.W.Frag} {w a : Addr} {H H' : Hp} {xs : List V} (e : But w H H') (n : a ≠ w) (h : SqL K H a xs) : SqL K H' a xs := by
  rcases h with (h | ⟨o, h⟩) | h
  · exact .inl (.inl (e _ _ n h))
  · exact .inl (.inr ⟨o, e _ _ n h⟩)
  · exact .inr h
/-- at w the well: three numbers -/
def WellAt (w : Addr) (H : Hp) : Prop := ∃ a b c : Int, H w = some (.lst [.int a, .int b, .int c])
theorem WellAt.new {w p : Addr} {H : Hp} {o : HO} (W : WellAt w H) (h : H p = none) : WellAt w (upd H p o) := by
  obtain ⟨a, b, c, e⟩ := W
  exact ⟨a, b, c, by rw [upd_ne (ne_of_none e h)]; exact e⟩
theorem WellAt.same {w : Addr} {H H' : Hp} (W : WellAt w H) (s : Same H H') : WellAt w H' := by
  obtain ⟨a, b, c, e⟩ := W
  exact ⟨a, b, c, s _ _ e⟩
theorem WellAt.ne {w p : Addr} {H : Hp} (W : WellAt w H) (h : H p = none) : w ≠ p := by
  obtain ⟨a, b, c, e⟩ := W
  exact ne_of_none e h
theorem WellAt.tup {K : PySem.W.Frag} {w p : Addr} {H : Hp} {xs : List V} (W : WellAt w H) (h : H p = some (.tup xs)) : p ≠ w := by
  obtain ⟨a, b, c, e⟩ := W
  exact ne_of h e (by intro q; cases q)
/-- a draw of the well: what stood stands, the well is one -/
structure Dr (w : Addr) (H H' : Hp) : Prop where
  but : But w H H'
  well : WellAt w H'
theorem Dr.trans {w : Addr} {H H1 H2 : Hp} (a : Dr w H H1) (b : Dr w H1 H2) : Dr w H H2 := ⟨a.but.trans b.but, b.well⟩
theorem Dr.free {w p : Addr} {H H' : Hp} (d : Dr w H H') (W : WellAt w H) (h : H' p = none) : H p = none := by
  cases q : H p with
  | none => rfl
  | some o =>
    have n : p ≠ w := (d.well.ne h).symm
    rw [d.but _ _ n q] at h
    cases h
/-! ### the promises of the draws -/
def spCellAt (K : PySem.W.Frag) : Sp := fun vs H Q _ => ∃ (a : Addr) (ns : List Int) (k : Int), vs = [.ref a, .int k] ∧ 0 ≤ k ∧ SqL K H a (ns.map V.int) ∧ ∀ z : Int, Q (.int z) H
def spWell : Sp := fun vs H Q _ => ∃ z : Int, vs = [.int z] ∧ ∀ p H', H p = none → Same H H' → WellAt p H' → Q (.ref p) H'
def spDraw : Sp := fun vs H Q _ => ∃ (w : Addr) (n : Int), vs = [.ref w, .int n] ∧ 0 < n ∧ n < 1000000 ∧ WellAt w H ∧ ∀ d H', 0 ≤ d → d < n → Dr w H H' → Q (.int d) H'
def spOne (K : PySem.W.Frag) : Sp := fun vs H Q _ => ∃ (w l : Addr) (xs : List V), vs = [.ref w, .ref l] ∧ l ≠ w ∧ WellAt w H ∧ SqL K H l xs ∧ xs ≠ [] ∧ xs.length < 1000000 ∧ ∀ v H', v ∈ xs → Dr w H H' → Q v H'
section
variable {P : Program} {w : World} {K : PySem.W.Frag} {mg : Str → Option Value} {base : Heap}
/-- a def at its name: it keeps its promise, its name holds it, its arguments bind -/
structure Df (P : Program) (w : World) (K : PySem.W.Frag) (mg : Str → Option Value) (base : Heap) (k : Nat) (name : Str) (ps : List Str) (sp : Sp) (f : Addr) (fd : FuncData) : Prop where
  ok : FnOk P w K mg base CX0 k f fd ps sp
  mg : mg name = some (.ref f)
  kp : PySem.W.keepIn K (.ref f) = true
  bd : Binds K fd ps []
/-! ### _law_cell_at -/
theorem scCellAt : FnScope ["_law_script", "_law_k"] ["_law_script", "_law_k"] (defScope sCellAt) := ⟨rfl, rfl, rfl, by decide +kernel, rfl, by decide +kernel, by decide +kernel⟩
abbrev DCellAt (P : Program) (w : World) (K : PySem.W.Frag) (mg : Str → Option Value) (base : Heap) := Df P w K mg base 1 "_law_cell_at" ["_law_script", "_law_k"] (spCellAt K)
theorem ok_cellAt {f : Addr} {fd : FuncData} (F : Fun K "_law_cell_at" "_law_cell_at" sCellAt f fd) (hm : mg "_law_cell_at" = some (.ref f)) (ml : mg "len" = none) : DCellAt P w K mg base f fd := by
  refine ⟨?_, hm, F.kp, F.binds fun _ _ _ _ _ _ us hl => match us, hl with | [_, _], _ => rfl⟩
  refine F.ok scCellAt (fun vs H Q E h => ?_) (fun cdv A outer s H vs Q E hr h => ?_)
  · obtain ⟨a, ns, k, rfl, _⟩ := h
    rfl
  · obtain ⟨a, ns, k, rfl, hk, hS, q⟩ := h
    refine ⟨_, pss_cons (ps_if (pt_cmpR op_lt (pv 1) (pe_callB call_len_seq (by rfl) ml PySem.boot_len (pa_cons (pv 0) pa_nil)) (nomark _))
        (pss_one (ps_ret (pe_ix ix_list (pv 0) (pv 1) (fun _ _ => rfl)))) pss_nil)
      (pss_one (ps_ret pe_int)), ?_⟩
    refine ⟨_, rfl, .ref a, rfl, a, _, rfl, .inl hS, _, _, rfl, rfl, _, rfl, ite2 (fun e => ?_) (fun e => ?_)⟩
    · have e1 : k < ((ns.map V.int).length : Int) := of_decide_eq_true e
      rw [List.length_map] at e1
      have hj : k.toNat < ns.length := by omega
      refine ⟨_, rfl, _, rfl, a, _, k, .int (ns[k.toNat]), rfl, rfl, hS, at_of (j := k.toNat) (by omega) ?_, q _⟩
      rw [List.getElem?_map, List.getElem?_eq_getElem hj]
      rfl
    · exact q 0
/-! ### _law_well -/
theorem scWell : FnScope ["_law_cell"] ["_law_cell"] (defScope sWell) := ⟨rfl, rfl, rfl, by decide +kernel, rfl, by decide +kernel, by decide +kernel⟩
abbrev DWell (P : Program) (w : World) (K : PySem.W.Frag) (mg : Str → Option Value) (base : Heap) := Df P w K mg base 1 "_law_well" ["_law_cell"] spWell
theorem ok_well {f : Addr} {fd : FuncData} (F : Fun K "_law_well" "_law_well" sWell f fd) (hm : mg "_law_well" = some (.ref f)) (mi : mg "int" = none) : DWell P w K mg base f fd := by
  refine ⟨?_, hm, F.kp, F.binds fun _ _ _ _ _ _ us hl => match us, hl with | [_], _ => rfl⟩
  refine F.ok scWell (fun vs H Q E h => ?_) (fun cdv A outer s H vs Q E hr h => ?_)
  · obtain ⟨z, rfl, _⟩ := h
    rfl
  · obtain ⟨z, rfl, q⟩ := h
    refine ⟨_, pss_one (ps_ret (pe_lst (pa_cons (pe_op op_mul (pv 0) (pe_callTy call_int1 (by rfl) mi (by decide +kernel) (pa_cons (pe_cmpR op_ge (pv 0) (pe_op op_pow pe_int pe_int) (nomark _)) pa_nil)))
      (pa_cons (pe_op op_mod (pv 0) pe_int) (pa_cons pe_int pa_nil))))), ?_⟩
    refine ⟨_, rfl, _, rfl, _, _, rfl, rfl, ⟨by decide, by decide, by decide⟩, _, _, rfl, rfl, .inr ⟨_, rfl, _, _, rfl, rfl, .inr ?_, ?_⟩⟩
    · cases decide (10 ^ (18 : Int).toNat ≤ z) with
      | true => exact ⟨by decide, by decide⟩
      | false => exact ⟨by decide, by decide⟩
    · refine ⟨_, rfl, _, _, rfl, rfl, (by show (0 : Int) < 2147483629; decide), (by show 3 ≤ sizeLine; decide), fun p hp => ?_⟩
      exact q p _ hp (same_new hp) ⟨_, _, _, upd_same⟩
end
end Lag

set_option maxRecDepth 100000
set_option maxHeartbeats 4000000
namespace Lag
open PySem PySem.Spec PyProof.Rows L2
section
variable {P : Program} {w : World} {K : PySem.W.Frag} {mg : Str → Option Value} {base : Heap}
/-! ### _law_draw -/
theorem scDraw : FnScope ["_law_well_here", "_law_many", "_law_found", "_law_number"] ["_law_well_here", "_law_many"] (defScope sDraw) := ⟨rfl, rfl, rfl, by decide +kernel, rfl, by decide +kernel, by decide +kernel⟩
theorem mod_b {x n : Int} (h : 0 < n) (hn : n ≤ 4294967296) : -(2 ^ 64) < x % n ∧ x % n < 2 ^ 64 := by
  have h1 := Int.emod_nonneg x (show n ≠ 0 by omega)
  have h2 := Int.emod_lt_of_pos x h
  constructor
  · have e : (-(2 ^ 64) : Int) = -18446744073709551616 := by decide
    omega
  · have e : (2 ^ 64 : Int) = 18446744073709551616 := by decide
    omega
abbrev DDraw (P : Program) (w : World) (K : PySem.W.Frag) (mg : Str → Option Value) (base : Heap) := Df P w K mg base 1 "_law_draw" ["_law_well_here", "_law_many"] spDraw
theorem ok_draw {f : Addr} {fd : FuncData} (F : Fun K "_law_draw" "_law_draw" sDraw f fd) (hm : mg "_law_draw" = some (.ref f)) : DDraw P w K mg base f fd := by
  refine ⟨?_, hm, F.kp, F.binds fun _ _ _ _ _ _ us hl => match us, hl with | [_, _], _ => rfl⟩
  refine F.ok scDraw (fun vs H Q E h => ?_) (fun cdv A outer s H vs Q E hr h => ?_)
  · obtain ⟨wl, n, rfl, _⟩ := h
    rfl
  · obtain ⟨wl, n, rfl, hn, hn2, ⟨a, b, c, hw⟩, q⟩ := h
    refine ⟨_, pss_cons (ps_if (pt_cmpR op_gt (pe_ix ix_list (pv 0) pe_int (fun _ _ => rfl)) pe_int (nomark _))
        (pss_cons (ps_set (i := 2) scDraw.nd rfl (Or.inl rfl) (pe_op op_mod (pe_ix ix_list (pv 0) pe_int (fun _ _ => rfl)) (pv 1)))
        (pss_cons (ps_asg (pe_op op_fdiv (pe_ix ix_list (pv 0) pe_int (fun _ _ => rfl)) (pv 1)) (pg_sub (pv 0) pe_int set_list))
        (pss_one (ps_ret (pv 2))))) pss_nil)
      (pss_cons (ps_asg (pe_op op_add (pe_ix ix_list (pv 0) pe_int (fun _ _ => rfl)) pe_int) (pg_sub (pv 0) pe_int set_list))
      (pss_cons (ps_set (i := 3) scDraw.nd rfl (Or.inl rfl) (pe_op op_mod (pe_op op_mul (pe_op op_add (pe_op op_add (pe_ix ix_list (pv 0) pe_int (fun _ _ => rfl)) (pe_op op_mul pe_int (pe_ix ix_list (pv 0) pe_int (fun _ _ => rfl)))) pe_int) pe_int) pe_int))
      (pss_cons (ps_set (i := 3) scDraw.nd rfl (Or.inl rfl) (pe_op op_mod (pe_op op_mul (pv 3) (pe_op op_add (pe_op op_add (pe_op op_fdiv (pv 3) pe_int) pe_int) (pe_ix ix_list (pv 0) pe_int (fun _ _ => rfl)))) pe_int))
      (pss_one (ps_ret (pe_op op_mod (pe_op op_fdiv (pe_op op_mod (pe_op op_mul (pv 3) (pe_op op_add (pe_op op_fdiv (pv 3) pe_int) pe_int)) pe_int) pe_int) (pv 1))))))), ?_⟩
    refine ⟨_, rfl, wl, _, 0, .int a, rfl, rfl, SqL.of hw, atI_nat (j := 0) rfl, _, _, rfl, rfl, _, rfl, ite2 (fun e => ?_) (fun e => ?_)⟩
    · refine ⟨_, rfl, wl, _, 0, .int a, rfl, rfl, SqL.of hw, atI_nat (j := 0) rfl, _, rfl, _, _, rfl, rfl, hn, ?_⟩
      refine ⟨_, rfl, wl, _, 0, .int a, rfl, rfl, SqL.of hw, atI_nat (j := 0) rfl, _, rfl, _, _, rfl, rfl, ⟨hn, by omega⟩, ?_⟩
      refine ⟨_, rfl, wl, _, 0, 0, rfl, rfl, hw, rfl, ?_⟩
      refine ⟨_, rfl, ?_⟩
      exact q _ _ (Int.emod_nonneg _ (by omega)) (Int.emod_lt_of_pos _ hn) ⟨But.upd, ⟨_, _, _, upd_same⟩⟩
    · have h1 : (upd H wl (HO.lst [.int a, .int b, .int (c + 1)])) wl = some (.lst [.int a, .int b, .int (c + 1)]) := upd_same
      refine ⟨_, rfl, wl, _, 2, .int c, rfl, rfl, SqL.of hw, atI_nat (j := 2) rfl, _, _, rfl, rfl, ?_⟩
      refine ⟨_, rfl, wl, _, 2, 2, rfl, rfl, hw, rfl, ?_⟩
      refine ⟨_, rfl, wl, _, 1, .int b, rfl, rfl, SqL.of h1, atI_nat (j := 1) rfl, _, rfl, wl, _, 2, .int (c + 1), rfl, rfl, SqL.of h1, atI_nat (j := 2) rfl, _, _, rfl, rfl, .inl ⟨by decide, by decide⟩, _, _, rfl, rfl, _, _, rfl, rfl, _, _, rfl, rfl, .inr ⟨by decide, by decide⟩, _, _, rfl, rfl, (by show (0 : Int) < 2147483629; decide), ?_⟩
      refine ⟨_, rfl, _, rfl, _, _, rfl, rfl, ⟨by decide, by decide⟩, _, _, rfl, rfl, _, rfl, wl, _, 2, .int (c + 1), rfl, rfl, SqL.of h1, atI_nat (j := 2) rfl, _, _, rfl, rfl, _, _, rfl, rfl, .inl (mod_b (by decide) (by decide)), _, _, rfl, rfl, (by show (0 : Int) < 2147483587; decide), ?_⟩
      refine ⟨_, rfl, _, rfl, _, _, rfl, rfl, ⟨by decide, by decide⟩, _, _, rfl, rfl, _, _, rfl, rfl, .inl (mod_b (by decide) (by decide)), _, _, rfl, rfl, (by show (0 : Int) < 2147483563; decide), _, _, rfl, rfl, ⟨by decide, by decide⟩, _, rfl, _, _, rfl, rfl, hn, ?_⟩
      exact q _ _ (Int.emod_nonneg _ (by omega)) (Int.emod_lt_of_pos _ hn) ⟨But.upd, ⟨_, _, _, h1⟩⟩
/-! ### _law_one -/
theorem scOne : FnScope ["_law_well_here", "_law_some"] ["_law_well_here", "_law_some"] (defScope sOne) := ⟨rfl, rfl, rfl, by decide +kernel, rfl, by decide +kernel, by decide +kernel⟩
abbrev DOne (P : Program) (w : World) (K : PySem.W.Frag) (mg : Str → Option Value) (base : Heap) := Df P w K mg base 2 "_law_one" ["_law_well_here", "_law_some"] (spOne K)
theorem ok_one {f fD : Addr} {fd fdD : FuncData} (F : Fun K "_law_one" "_law_one" sOne f fd) (hm : mg "_law_one" = some (.ref f)) (D0 : DDraw P w K mg base fD fdD) (ml : mg "len" = none) : DOne P w K mg base f fd := by
  refine ⟨?_, hm, F.kp, F.binds fun _ _ _ _ _ _ us hl => match us, hl with | [_, _], _ => rfl⟩
  refine F.ok scOne (fun vs H Q E h => ?_) (fun cdv A outer s H vs Q E hr h => ?_)
  · obtain ⟨wl, l, xs, rfl, _⟩ := h
    rfl
  · obtain ⟨wl, l, xs, rfl, hl, hw, hS, h0, hz, q⟩ := h
    refine ⟨_, pss_one (ps_ret (pe_ix ix_list (pv 1) (pe_call D0.ok hr (by rfl) D0.mg D0.kp D0.bd .nil pass0 (pa_cons (pv 0) (pa_cons (pe_callB call_len_seq (by rfl) ml PySem.boot_len (pa_cons (pv 1) pa_nil)) pa_nil))) (fun _ _ => rfl))), ?_⟩
    have hp : 0 < xs.length := by
      cases xs with
      | nil => exact absurd rfl h0
      | cons x r => simp
    refine ⟨_, rfl, _, rfl, _, rfl, l, xs, rfl, .inl hS, wl, _, rfl, by omega, by omega, hw, fun d H' d0 d1 D => ?_⟩
    have hj : d.toNat < xs.length := by omega
    refine ⟨l, xs, d, xs[d.toNat], rfl, rfl, D.but.seq hl hS, at_of (j := d.toNat) (by omega) (List.getElem?_eq_getElem hj), ?_⟩
    exact q _ _ (List.getElem_mem hj) D
end
end Lag

set_option maxRecDepth 100000
set_option maxHeartbeats 4000000
namespace Lag
open PySem PySem.Spec PyProof.Rows L2
/-! ### what is kept of tuples -/
def isT : HO → Prop
  | .tup _ => True
  | .frz _ _ => True
  | _ => False
/-- tuples, and what is locked, stand as they stood -/
def TK (H H' : Hp) : Prop := ∀ a o, isT o → H a = some o → H' a = some o
theorem TK.refl (H : Hp) : TK H H := fun _ _ _ h => h
theorem TK.trans {H H1 H2 : Hp} (a : TK H H1) (b : TK H1 H2) : TK H H2 := fun c o t h => b c o t (a c o t h)
theorem TK.same {H H1 : Hp} (a : Same H H1) : TK H H1 := fun c o _ h => a c o h
theorem TK.new {p : Addr} {H : Hp} {o : HO} (h : H p = none) : TK H (upd H p o) := TK.same (same_new h)
theorem TK.lst {l : Addr} {H : Hp} {xs : List V} {o : HO} (h : H l = some (.lst xs)) : TK H (upd H l o) := fun c u t e => by
  have n : c ≠ l := fun z => by
    rw [z, h] at e
    cases e
    exact t
  rw [upd_ne n]
  exact e
theorem TK.dr {w : Addr} {H H' : Hp} (W : WellAt w H) (d : But w H H') : TK H H' := fun c u t e => by
  obtain ⟨x, y, z, h⟩ := W
  have n : c ≠ w := fun z => by
    rw [z, h] at e
    cases e
    exact t
  exact d _ _ n e
theorem TK.seq {K : PySem.W.Frag} {H H' : Hp} {a : Addr} {xs : List V} (t : TK H H') (h : SqT K H a xs) : SqT K H' a xs := by
  rcases h with (h | ⟨o, h⟩) | h
  · exact .inl (.inl (t _ _ trivial h))
  · exact .inl (.inr ⟨o, t _ _ trivial h⟩)
  · exact .inr h
/-! ### gates and wires as data -/
abbrev Gt := Str × Int
abbrev Wr := Nat × Nat × List Int
def kinds : List Str := ["in", "out", "sum", "times", "most", "least", "first", "one"]
def portK (k : Str) : Prop := k = "in" ∨ k = "out"
/-- a gate -/
def GOk (g : Gt) : Prop := g.1 ∈ kinds ∧ 0 ≤ g.2 ∧ g.2 ≤ 100 ∧ (portK g.1 → g.2 = 0)
def GateV (K : PySem.W.Frag) (H : Hp) (v : V) (g : Gt) : Prop := ∃ a, v = .ref a ∧ SqT K H a [.str g.1, .int g.2]
def WireV (K : PySem.W.Frag) (H : Hp) (v : V) (x : Wr) : Prop := ∃ a b, v = .ref a ∧ SqT K H a [.int x.1, .int x.2.1, .ref b] ∧ SqT K H b (x.2.2.map V.int)
theorem GateV.tk {K : PySem.W.Frag} {H H' : Hp} {v : V} {g : Gt} (t : TK H H') (h : GateV K H v g) : GateV K H' v g := by
  obtain ⟨a, e, s⟩ := h
  exact ⟨a, e, t.seq s⟩
theorem WireV.tk {K : PySem.W.Frag} {H H' : Hp} {v : V} {x : Wr} (t : TK H H') (h : WireV K H v x) : WireV K H' v x := by
  obtain ⟨a, b, e, s, s2⟩ := h
  exact ⟨a, b, e, t.seq s, t.seq s2⟩
/-! ### _law_gate -/
def kinds11 : List Str := ["in", "in", "sum", "times", "most", "least", "first", "one", "sum", "out", "out"]
theorem k11 : ∀ k ∈ kinds11, k ∈ kinds := by decide +kernel
abbrev sGate' : Stmt := sGate
def spGate (K : PySem.W.Frag) : Sp := fun vs H Q _ => ∃ (wl : Addr) (b : Bool), vs = [.ref wl, .bl b] ∧ WellAt wl H ∧ ∀ (g : Gt) p H', GOk g → (b = true → g.1 ≠ "out") → Dr wl H H' → H p = none → H' p = some (.tup [.str g.1, .int g.2]) → Q (.ref p) H'
section
variable {P : Program} {w : World} {K : PySem.W.Frag} {mg : Str → Option Value} {base : Heap}
theorem scGate : FnScope ["_law_well_here", "_law_first", "_law_kind"] ["_law_well_here", "_law_first"] (defScope sGate) := ⟨rfl, rfl, rfl, by decide +kernel, rfl, by decide +kernel, by decide +kernel⟩
abbrev DGate (P : Program) (w : World) (K : PySem.W.Frag) (mg : Str → Option Value) (base : Heap) := Df P w K mg base 3 "_law_gate" ["_law_well_here", "_law_first"] (spGate K)
theorem Dr.new {wl p : Addr} {H : Hp} {o : HO} (W : WellAt wl H) (h : H p = none) : Dr wl H (upd H p o) := ⟨But.new h, W.new h⟩
theorem ok_gate {f fD fO : Addr} {fd fdD fdO : FuncData} (F : Fun K "_law_gate" "_law_gate" sGate f fd) (hm : mg "_law_gate" = some (.ref f)) (DD : DDraw P w K mg base fD fdD) (DO : DOne P w K mg base fO fdO) : DGate P w K mg base f fd := by
  refine ⟨?_, hm, F.kp, F.binds fun _ _ _ _ _ _ us hl => match us, hl with | [_, _], _ => rfl⟩
  refine F.ok scGate (fun vs H Q E h => ?_) (fun cdv A outer s H vs Q E hr h => ?_)
  · obtain ⟨wl, b, rfl, _⟩ := h
    rfl
  · obtain ⟨wl, b, rfl, hw, q⟩ := h
    have hr1 : Room 1 _ := hr.mono (by decide)
    refine ⟨_, pss_cons (ps_set (i := 2) scGate.nd rfl (Or.inl rfl) (pe_call DO.ok hr (by rfl) DO.mg DO.kp DO.bd .nil pass0 (pa_cons (pv 0) (pa_cons (pe_lst
        (pa_cons pe_str (pa_cons pe_str (pa_cons pe_str (pa_cons pe_str (pa_cons pe_str (pa_cons pe_str (pa_cons pe_str (pa_cons pe_str (pa_cons pe_str (pa_cons pe_str (pa_cons pe_str pa_nil)))))))))))) pa_nil))))
      (Evl.pss_cut (ps_if (PW.pt (pw_and (pt_val (pv 1)) (pw_and1 (pt_cmpR op_eq (pv 2) pe_str (nomark _))))) (pss_one (ps_set (i := 2) scGate.nd rfl (Or.inl rfl) pe_str)) pss_nil)
      (pss_cons (ps_if (pt_cmpR op_in_seq (pv 2) (pe_tup (pa_cons pe_str (pa_cons pe_str pa_nil))) (by rfl)) (pss_one (ps_ret (pe_tup (pa_cons (pv 2) (pa_cons pe_int pa_nil))))) pss_nil)
      (pss_one (ps_ret (pe_tup (pa_cons (pv 2) (pa_cons (pe_call DO.ok hr (by rfl) DO.mg DO.kp DO.bd .nil pass0 (pa_cons (pv 0) (pa_cons (pe_lst
        (pa_cons (pe_call DD.ok hr1 (by rfl) DD.mg DD.kp DD.bd .nil pass0 (pa_cons (pv 0) (pa_cons pe_int pa_nil))) (pa_cons (pe_call DD.ok hr1 (by rfl) DD.mg DD.kp DD.bd .nil pass0 (pa_cons (pv 0) (pa_cons pe_int pa_nil))) (pa_cons pe_int (pa_cons pe_int pa_nil))))) pa_nil))) pa_nil))))))), ?_⟩
    refine ⟨_, rfl, (by show 11 ≤ sizeLine; decide), fun l hl => ?_⟩
    refine ⟨wl, l, kinds11.map V.str, rfl, (hw.ne hl).symm, hw.new hl, SqL.of upd_same, by decide, by decide, fun v H1 hv D1 => ?_⟩
    have D1 : Dr wl H H1 := (Dr.new hw hl).trans D1
    obtain ⟨k0, hk0, rfl⟩ := List.mem_map.mp hv
    have hk0 := k11 k0 hk0
    -- if first and kind == 'out'
    refine ⟨fun σ H2 => ∃ k : Str, k ∈ kinds ∧ (b = true → k ≠ "out") ∧ σ = [some (.ref wl), some (.bl b), some (.str k)] ∧ H2 = H1, ?_, ?_⟩
    · refine ⟨_, rfl, b, rfl, ?_⟩
      refine ite2 (fun e => ?_) (fun e => ?_)
      · refine ⟨_, rfl, rfl, _, rfl, ite2 (fun e2 => ?_) (fun e2 => ?_)⟩
        · exact ⟨"in", by decide +kernel, fun _ => by decide +kernel, rfl, rfl⟩
        · exact ⟨k0, hk0, fun _ z => e2 (decide_eq_true (by rw [z])), rfl, rfl⟩
      · exact iteF ⟨k0, hk0, fun z => absurd z e, rfl, rfl⟩
    · rintro σ H2 ⟨k, hk, hb, rfl, rfl⟩
      -- if kind in ('in', 'out')
      refine ⟨_, rfl, (by show 2 ≤ sizeLine; decide), fun t ht => ?_⟩
      have Dt : Dr wl H (upd H2 t (.tup [.str "in", .str "out"])) := D1.trans (Dr.new D1.well ht)
      refine ⟨t, _, rfl, .inr (.inl (.inl upd_same)), rfl, rfl, _, rfl, ite2 (fun e => ?_) (fun e => ?_)⟩
      · refine ⟨_, rfl, (by show 2 ≤ sizeLine; decide), fun p hp => ?_⟩
        exact q (k, 0) p _ ⟨hk, Int.le_refl 0, (by show (0 : Int) ≤ 100; decide), fun _ => rfl⟩ hb (Dt.trans (Dr.new Dt.well hp)) (Dt.free hw hp) upd_same
      · refine ⟨_, rfl, _, rfl, _, rfl, wl, 10, rfl, by decide, by decide, Dt.well, fun d1 H3 a1 b1 E1 => ?_⟩
        have D3 := Dt.trans E1
        refine ⟨_, rfl, wl, 101, rfl, by decide, by decide, D3.well, fun d2 H4 a2 b2 E2 => ?_⟩
        have D4 := D3.trans E2
        refine ⟨(by show 4 ≤ sizeLine; decide), fun l2 hl2 => ?_⟩
        have D5 := D4.trans (Dr.new (o := .lst [.int d1, .int d2, .int 0, .int 100]) D4.well hl2)
        refine ⟨wl, l2, [.int d1, .int d2, .int 0, .int 100], rfl, (D4.well.ne hl2).symm, D5.well, SqL.of upd_same, by simp, by show 4 < 1000000; decide, fun v H6 hv E3 => ?_⟩
        have D6 := D5.trans E3
        obtain ⟨wt, rfl, w0, w1⟩ : ∃ wt, v = V.int wt ∧ 0 ≤ wt ∧ wt ≤ 100 := by
          simp only [List.mem_cons, List.not_mem_nil, or_false] at hv
          rcases hv with rfl | rfl | rfl | rfl
          · exact ⟨d1, rfl, a1, by omega⟩
          · exact ⟨d2, rfl, a2, by omega⟩
          · exact ⟨0, rfl, by decide, by decide⟩
          · exact ⟨100, rfl, by decide, by decide⟩
        refine ⟨(by show 2 ≤ sizeLine; decide), fun p hp => ?_⟩
        refine q (k, wt) p _ ⟨hk, w0, w1, fun hpk => ?_⟩ hb (D6.trans (Dr.new D6.well hp)) (D6.free hw hp) upd_same
        exact absurd (by rcases hpk with z | z <;> (have z' : k = _ := z; rw [z']; decide +kernel)) e
end
end Lag

set_option maxRecDepth 100000
set_option maxHeartbeats 4000000
namespace Lag
open PySem PySem.Spec PyProof.Rows L2
abbrev sWire : Stmt := topS 52
/-- registers' worths -/
def ROk (r : List Int) : Prop := ∀ x ∈ r, 0 ≤ x ∧ x ≤ 96
def spWire (K : PySem.W.Frag) : Sp := fun vs H Q _ => ∃ (wl : Addr) (a b : Nat), vs = [.ref wl, .int a, .int b] ∧ WellAt wl H ∧ ∀ (r : List Int) v H', ROk r → r.length ≤ 2 → (b ≤ a → r ≠ []) → Dr wl H H' → WireV K H' v (a, b, r) → Q v H'
/-- a comprehension without a test keeps each item -/
theorem tyes {σ : L2.St} {H : Hp} {A B : Hp → Prop} (h : A H) : tYes σ H (fun b H3 => if b = true then A H3 else B H3) := by
  show if true = true then A H else B H
  rw [if_pos rfl]
  exact h
theorem menu3 {d1 d2 : Int} {v : V} (hv : v ∈ [V.int d1, V.int d2, V.int 96]) (a1 : 0 ≤ d1) (b1 : d1 < 97) (a2 : 0 ≤ d2) (b2 : d2 < 97) : ∃ x, v = V.int x ∧ 0 ≤ x ∧ x ≤ 96 := by
  simp only [List.mem_cons, List.not_mem_nil, or_false] at hv
  rcases hv with rfl | rfl | rfl
  · exact ⟨d1, rfl, a1, by omega⟩
  · exact ⟨d2, rfl, a2, by omega⟩
  · exact ⟨96, rfl, by decide, by decide⟩
section
variable {P : Program} {w : World} {K : PySem.W.Frag} {mg : Str → Option Value} {base : Heap}
theorem scWire : FnScope ["_law_well_here", "_law_start", "_law_end", "_law_many", "_law_k"] ["_law_well_here", "_law_start", "_law_end"] (defScope sWire) := ⟨rfl, rfl, rfl, by decide +kernel, rfl, by decide +kernel, by decide +kernel⟩
abbrev DWire (P : Program) (w : World) (K : PySem.W.Frag) (mg : Str → Option Value) (base : Heap) := Df P w K mg base 3 "_law_wire" ["_law_well_here", "_law_start", "_law_end"] (spWire K)
theorem ok_wire {f fD fO : Addr} {fd fdD fdO : FuncData} (F : Fun K "_law_wire" "_law_wire" sWire f fd) (hm : mg "_law_wire" = some (.ref f)) (DD : DDraw P w K mg base fD fdD) (DO : DOne P w K mg base fO fdO) (mx : mg "max" = none) (mt : mg "tuple" = none) (mr : mg "range" = none) : DWire P w K mg base f fd := by
  refine ⟨?_, hm, F.kp, F.binds fun _ _ _ _ _ _ us hl => match us, hl with | [_, _, _], _ => rfl⟩
  refine F.ok scWire (fun vs H Q E h => ?_) (fun cdv A outer s H vs Q E hr h => ?_)
  · obtain ⟨wl, a, b, rfl, _⟩ := h
    rfl
  · obtain ⟨wl, a, b, rfl, hw, q⟩ := h
    have hr1 : Room 1 _ := hr.mono (by decide)
    refine ⟨_, pss_cons (ps_set (i := 3) scWire.nd rfl (Or.inl rfl) (pe_call DO.ok hr (by rfl) DO.mg DO.kp DO.bd .nil pass0 (pa_cons (pv 0) (pa_cons (pe_lst
        (pa_cons pe_int (pa_cons pe_int (pa_cons pe_int (pa_cons pe_int pa_nil))))) pa_nil))))
      (Evl.pss_cut (ps_if (pt_cmpR op_ge (pv 1) (pv 2) (nomark _)) (pss_one (ps_set (i := 3) scWire.nd rfl (Or.inl rfl) (pe_callB (call_max2 rfl) (by rfl) mx (by decide +kernel) (pa_cons pe_int (pa_cons (pv 3) pa_nil))))) pss_nil)
      (pss_one (ps_ret (pe_tup (pa_cons (pv 1) (pa_cons (pv 2) (pa_cons (pe_callTy call_tuple_of (by rfl) mt (by decide +kernel) (pa_cons
        (pe_lc (own := [("_law_k", 4)]) (g := gName 4) (tt := tYes) rfl scWire.nd (pi_range1 (by rfl) mr (pa_cons (pv 3) pa_nil)) (blkOk_by (N := ["_law_well_here", "_law_start", "_law_end", "_law_many", "_law_k"]) (sc := defScope sWire) (own := [("_law_k", 4)]) (by decide +kernel)) (fun _ _ _ _ _ => pg_name (i := 4) scWire.nd rfl (Or.inl rfl)) (fun _ _ _ _ _ => pts_nil)
          (fun _ _ _ _ _ => pe_call DO.ok hr (by rfl) DO.mg DO.kp DO.bd .nil pass0 (pa_cons (pv 0) (pa_cons (pe_lst
            (pa_cons (pe_call DD.ok hr1 (by rfl) DD.mg DD.kp DD.bd .nil pass0 (pa_cons (pv 0) (pa_cons pe_int pa_nil))) (pa_cons (pe_call DD.ok hr1 (by rfl) DD.mg DD.kp DD.bd .nil pass0 (pa_cons (pv 0) (pa_cons pe_int pa_nil))) (pa_cons pe_int pa_nil)))) pa_nil)))) pa_nil)) pa_nil))))))), ?_⟩
    refine ⟨_, rfl, (by show 4 ≤ sizeLine; decide), fun l hl => ?_⟩
    refine ⟨wl, l, [.int 0, .int 0, .int 1, .int 2], rfl, (hw.ne hl).symm, hw.new hl, SqL.of upd_same, by simp, by show 4 < 1000000; decide, fun v H1 hv D1 => ?_⟩
    have D1 : Dr wl H H1 := (Dr.new hw hl).trans D1
    obtain ⟨m0, rfl, m1, m2⟩ : ∃ m0, v = V.int m0 ∧ 0 ≤ m0 ∧ m0 ≤ 2 := by
      simp only [List.mem_cons, List.not_mem_nil, or_false] at hv
      rcases hv with rfl | rfl | rfl | rfl
      · exact ⟨0, rfl, by decide, by decide⟩
      · exact ⟨0, rfl, by decide, by decide⟩
      · exact ⟨1, rfl, by decide, by decide⟩
      · exact ⟨2, rfl, by decide, by decide⟩
    refine ⟨fun σ H2 => ∃ m : Int, 0 ≤ m ∧ m ≤ 2 ∧ (b ≤ a → 1 ≤ m) ∧ σ = [some (.ref wl), some (.int a), some (.int b), some (.int m), none] ∧ H2 = H1, ?_, ?_⟩
    · refine ⟨_, rfl, _, rfl, _, _, rfl, rfl, _, rfl, ite2 (fun e => ?_) (fun e => ?_)⟩
      · refine ⟨_, rfl, _, _, rfl, ?_⟩
        refine ⟨_, ?_, ?_, ?_, rfl, rfl⟩
        · split <;> omega
        · split <;> omega
        · intro _; split <;> omega
      · exact ⟨m0, m1, m2, fun z => absurd (decide_eq_true (by omega)) e, rfl, rfl⟩
    · rintro σ H2 ⟨m, m1, m2, m3, rfl, rfl⟩
      refine ⟨_, rfl, _, rfl, _, rfl, m, rfl, by omega, by omega, fun D hD => ?_⟩
      refine lc_range (lo := 0) (n := m.toNat) (fun i H3 => ∃ r : List Int, r.length = i ∧ ROk r ∧ H3 D = some (.lst (r.map V.int)) ∧ Dr wl H H3) ⟨[], rfl, by simp [ROk], upd_same, D1.trans (Dr.new D1.well hD)⟩ ?_ ?_
      · rintro i H3 hi ⟨r, hrl, hrk, hrD, D3⟩
        refine ⟨rfl, tyes ?_⟩
        refine ⟨_, rfl, _, rfl, wl, 97, rfl, by decide, by decide, D3.well, fun d1 H4 a1 b1 E1 => ?_⟩
        have D4 := D3.trans E1
        refine ⟨_, rfl, wl, 3, rfl, by decide, by decide, D4.well, fun d2 H5 a2 b2 E2 => ?_⟩
        have D5 := D4.trans E2
        refine ⟨(by show 3 ≤ sizeLine; decide), fun l2 hl2 => ?_⟩
        refine ⟨wl, l2, [.int d1, .int d2, .int 96], rfl, (D5.well.ne hl2).symm, D5.well.new hl2, SqL.of upd_same, by simp, by show 3 < 1000000; decide, fun v H6 hv E3 => ?_⟩
        have D6 := (D5.trans (Dr.new D5.well hl2)).trans E3
        obtain ⟨x, rfl, x0, x1⟩ := menu3 hv a1 b1 a2 (by omega)
        have nD : D ≠ wl := (D1.well.ne hD).symm
        have h6 : H6 D = some (.lst (r.map V.int)) := by
          refine E3.but _ _ nD ?_
          have h5 := E2.but _ _ nD (E1.but _ _ nD hrD)
          rw [upd_ne (ne_of_none h5 hl2)]
          exact h5
        refine ⟨_, h6, by rw [List.length_map, hrl]; exact small1000 (by omega), r ++ [x], by simp [hrl], ?_, ?_, ?_⟩
        · intro y hy
          rcases List.mem_append.mp hy with hy | hy
          · exact hrk y hy
          · simp at hy; subst hy; exact ⟨x0, x1⟩
        · rw [upd_same, List.map_append]; rfl
        · refine ⟨fun c o n e => ?_, ?_⟩
          · rw [upd_ne (ne_of_none e (D1.free hw hD))]
            exact D6.but c o n e
          · obtain ⟨x1, x2, x3, hx⟩ := D6.well
            exact ⟨x1, x2, x3, by rw [upd_ne nD.symm]; exact hx⟩
      · rintro H3 ⟨r, hrl, hrk, hrD, D3⟩
        refine ⟨D, _, rfl, .inl ⟨SqL.of hrD, fun t ht => ⟨(by show 3 ≤ sizeLine; decide), fun p hp => ?_⟩⟩⟩
        have D4 := D3.trans (Dr.new (o := .tup (r.map V.int)) D3.well ht)
        refine q r (.ref p) _ hrk (by omega) (fun z => ?_) (D4.trans (Dr.new D4.well hp)) ⟨p, t, rfl, .inl (.inl upd_same), ?_⟩
        · intro z2
          have := m3 z
          rw [z2] at hrl
          simp at hrl
          omega
        · have e : (upd H3 t (.tup (r.map V.int))) t = some (.tup (r.map V.int)) := upd_same
          exact .inl (.inl (by rw [upd_ne (ne_of_none e hp)]; exact e))
end
end Lag

set_option maxRecDepth 100000
set_option maxHeartbeats 4000000
namespace Lag
open PySem PySem.Spec PyProof.Rows L2
/-! ### two lists, place by place -/
def All2 {α β : Type} (R : α → β → Prop) (xs : List α) (ys : List β) : Prop := xs.length = ys.length ∧ ∀ (i : Nat) (x : α) (y : β), xs[i]? = some x → ys[i]? = some y → R x y
section
variable {α β : Type} {R S : α → β → Prop} {xs : List α} {ys : List β} {x : α} {y : β}
theorem All2.nil : All2 R [] [] := ⟨rfl, fun i x y h => by simp at h⟩
theorem All2.imp (h : All2 R xs ys) (f : ∀ x y, R x y → S x y) : All2 S xs ys := ⟨h.1, fun i x y a b => f x y (h.2 i x y a b)⟩
theorem All2.snoc (h : All2 R xs ys) (r : R x y) : All2 R (xs ++ [x]) (ys ++ [y]) := by
  refine ⟨by simp [h.1], fun i a b ha hb => ?_⟩
  by_cases hi : i < xs.length
  · rw [List.getElem?_append_left hi] at ha
    rw [List.getElem?_append_left (by rw [← h.1]; exact hi)] at hb
    exact h.2 i a b ha hb
  · rw [List.getElem?_append_right (by omega)] at ha
    rw [List.getElem?_append_right (by rw [← h.1]; omega), ← h.1] at hb
    cases e : i - xs.length with
    | zero =>
      rw [e] at ha hb
      simp at ha hb
      subst ha hb
      exact r
    | succ n =>
      rw [e] at ha
      simp at ha
theorem All2.cons (r : R x y) (h : All2 R xs ys) : All2 R (x :: xs) (y :: ys) := by
  refine ⟨by simp [h.1], fun i a b ha hb => ?_⟩
  cases i with
  | zero =>
    simp at ha hb
    subst ha hb
    exact r
  | succ n => exact h.2 n a b (by simpa using ha) (by simpa using hb)
theorem All2.head {x : α} {y : β} (h : All2 R (x :: xs) (y :: ys)) : R x y := h.2 0 x y rfl rfl
theorem All2.tail {x : α} {y : β} (h : All2 R (x :: xs) (y :: ys)) : All2 R xs ys := ⟨by have := h.1; simp at this; exact this, fun i a b ha hb => h.2 (i + 1) a b (by simpa using ha) (by simpa using hb)⟩
theorem All2.get (h : All2 R xs ys) {i : Nat} {x : α} (e : xs[i]? = some x) : ∃ y, ys[i]? = some y ∧ R x y := by
  have hi := (List.getElem?_eq_some_iff.mp e).1
  have hj : i < ys.length := by rw [← h.1]; exact hi
  exact ⟨ys[i], List.getElem?_eq_getElem hj, h.2 i x _ e (List.getElem?_eq_getElem hj)⟩
theorem All2.getR (h : All2 R xs ys) {i : Nat} {y : β} (e : ys[i]? = some y) : ∃ x, xs[i]? = some x ∧ R x y := by
  have hi := (List.getElem?_eq_some_iff.mp e).1
  have hj : i < xs.length := by rw [h.1]; exact hi
  exact ⟨xs[i], List.getElem?_eq_getElem hj, h.2 i _ y (List.getElem?_eq_getElem hj) e⟩
theorem All2.perm {xs' : List α} (p : xs'.Perm xs) : ∀ {ys : List β}, All2 R xs ys → ∃ ys', ys'.Perm ys ∧ All2 R xs' ys' := by
  induction p with
  | nil => intro ys h; exact ⟨ys, .refl _, h⟩
  | @cons a l1 l2 p ih =>
    intro ys h
    cases ys with
    | nil => have := h.1; simp at this
    | cons y ys =>
      obtain ⟨ys', p', h'⟩ := ih h.tail
      exact ⟨y :: ys', p'.cons y, h'.cons h.head⟩
  | swap a b l =>
    intro ys h
    match ys, h with
    | [], h => have := h.1; simp at this
    | [_], h => have := h.1; simp at this
    | y :: z :: ys, h => exact ⟨z :: y :: ys, .swap _ _ _, All2.cons h.tail.head (All2.cons h.head h.tail.tail)⟩
  | trans p1 p2 ih1 ih2 =>
    intro ys h
    obtain ⟨ys1, q1, h1⟩ := ih2 h
    obtain ⟨ys2, q2, h2⟩ := ih1 h1
    exact ⟨ys2, q2.trans q1, h2⟩
end
/-! ### nets as data -/
def kindAt (gs : List Gt) (i : Nat) : Str := (gs.getD i ("", 0)).1
def cnt (ws : List Wr) (e : Nat) : Nat := ws.countP (fun x => x.2.1 == e)
/-- a wire between these gates -/
structure WOk (gs : List Gt) (x : Wr) : Prop where
  s : x.1 < gs.length
  e : x.2.1 < gs.length
  ks : kindAt gs x.1 ≠ "out"
  ke : kindAt gs x.2.1 ≠ "in"
  r : ROk x.2.2
  rl : x.2.2.length ≤ 100
structure NetOk (gs : List Gt) (ws : List Wr) : Prop where
  ne : gs ≠ []
  gl : gs.length ≤ 100
  wl : ws.length ≤ 1000
  gok : ∀ g ∈ gs, GOk g
  wok : ∀ x ∈ ws, WOk gs x
  one : ∀ e, e < gs.length → kindAt gs e = "out" → cnt ws e = 1
  some : ∀ e, e < gs.length → kindAt gs e = "first" → 1 ≤ cnt ws e
  rank : ∃ ρ : Nat → Nat, ∀ x ∈ ws, x.2.2 = [] → ρ x.1 < ρ x.2.1
/-- numbered anew: the gate k is the old gate at left's place k -/
theorem NetOk.anew {gs : List Gt} {ws : List Wr} {left : List Nat} (N : NetOk gs ws) (p : left.Perm (List.range gs.length)) {ws' : List Wr} (pw : ws'.Perm ws) :
    NetOk (left.map fun k => gs.getD k ("", 0)) (ws'.map fun x => (left.idxOf x.1, left.idxOf x.2.1, x.2.2)) := by
  have hl : left.length = gs.length := by rw [p.length_eq, List.length_range]
  have nd : left.Nodup := p.nodup_iff.mpr List.nodup_range
  have mem : ∀ i, i < gs.length → i ∈ left := fun i hi => p.mem_iff.mpr (List.mem_range.mpr hi)
  have memb : ∀ i, i ∈ left → i < gs.length := fun i hi => List.mem_range.mp (p.mem_iff.mp hi)
  have il : ∀ i, i < gs.length → left.idxOf i < left.length := fun i hi => List.idxOf_lt_length_iff.mpr (mem i hi)
  have ge : ∀ i (h : i < gs.length), left[left.idxOf i]? = Option.some i := fun i h => by
    rw [List.getElem?_eq_getElem (il i h), List.getElem_idxOf]
  have kk : ∀ i, i < gs.length → kindAt (left.map fun k => gs.getD k ("", 0)) (left.idxOf i) = kindAt gs i := fun i h => by
    unfold kindAt
    rw [List.getD_eq_getElem?_getD, List.getElem?_map, ge i h]
    rfl
  have inj : ∀ i j, i < gs.length → j < gs.length → left.idxOf i = left.idxOf j → i = j := fun i j hi hj e => by
    have h1 := ge i hi
    rw [e, ge j hj] at h1
    exact (Option.some.inj h1).symm
  have cc : ∀ e, e < gs.length → cnt (ws'.map fun x => (left.idxOf x.1, left.idxOf x.2.1, x.2.2)) (left.idxOf e) = cnt ws e := fun e he => by
    unfold cnt
    rw [List.countP_map, ← pw.countP_eq]
    refine List.countP_congr fun x hx => ?_
    have := (N.wok x (pw.mem_iff.mp hx)).e
    simp only [Function.comp, beq_iff_eq]
    exact ⟨fun z => inj _ _ this he z, fun z => by rw [z]⟩
  have back : ∀ e, e < left.length → ∃ i, i < gs.length ∧ left.idxOf i = e := fun e he => by
    refine ⟨left[e], memb _ (List.getElem_mem he), ?_⟩
    exact List.Nodup.idxOf_getElem nd e he
  obtain ⟨ρ, hρ⟩ := N.rank
  refine ⟨?_, by simpa [hl] using N.gl, by simpa [pw.length_eq] using N.wl, ?_, ?_, ?_, ?_, ?_⟩
  · intro z
    have := congrArg List.length z
    simp [hl] at this
    exact N.ne this
  · intro g hg
    obtain ⟨k, hk, rfl⟩ := List.mem_map.mp hg
    refine N.gok _ ?_
    rw [List.getD_eq_getElem?_getD, List.getElem?_eq_getElem (memb k hk)]
    exact List.getElem_mem _
  · intro y hy
    obtain ⟨x, hx, rfl⟩ := List.mem_map.mp hy
    have W := N.wok x (pw.mem_iff.mp hx)
    refine ⟨by simpa using il _ W.s, by simpa using il _ W.e, ?_, ?_, W.r, W.rl⟩
    · show kindAt _ (left.idxOf x.1) ≠ _
      rw [kk _ W.s]
      exact W.ks
    · show kindAt _ (left.idxOf x.2.1) ≠ _
      rw [kk _ W.e]
      exact W.ke
  · intro e he hk
    obtain ⟨i, hi, rfl⟩ := back e (by simpa using he)
    rw [kk i hi] at hk
    rw [cc i hi]
    exact N.one i hi hk
  · intro e he hk
    obtain ⟨i, hi, rfl⟩ := back e (by simpa using he)
    rw [kk i hi] at hk
    rw [cc i hi]
    exact N.some i hi hk
  · refine ⟨fun k => ρ (left.getD k 0), fun y hy h => ?_⟩
    obtain ⟨x, hx, rfl⟩ := List.mem_map.mp hy
    have W := N.wok x (pw.mem_iff.mp hx)
    have := hρ x (pw.mem_iff.mp hx) h
    simp only [List.getD_eq_getElem?_getD, ge _ W.s, ge _ W.e, Option.getD_some]
    exact this
end Lag

set_option maxRecDepth 100000
set_option maxHeartbeats 4000000
namespace Lag
open PySem PySem.Spec PyProof.Rows L2
/-! ### [left.pop(draw(well, len(left))) for k in range(len(left))] -/
theorem set_well {wl D : Addr} {H0 H : Hp} {o : HO} (d : Dr wl H0 H) (h0 : H0 D = none) (n : D ≠ wl) : Dr wl H0 (upd H D o) := by
  refine ⟨fun c u nc e => ?_, ?_⟩
  · rw [upd_ne (ne_of_none e h0)]
    exact d.but c u nc e
  · obtain ⟨x1, x2, x3, hx⟩ := d.well
    exact ⟨x1, x2, x3, by rw [upd_ne n.symm]; exact hx⟩
theorem perm_erase {α : Type} : ∀ (l : List α) (k : Nat) (h : k < l.length), (l[k] :: l.eraseIdx k).Perm l
  | [], k, h => by simp at h
  | a :: l, 0, _ => .refl _
  | a :: l, k + 1, h => by
    have h' : k < l.length := by simpa using h
    show (l[k] :: a :: l.eraseIdx k).Perm (a :: l)
    exact (List.Perm.swap _ _ _).trans ((perm_erase l k h').cons a)
theorem perm_pop {α : Type} {acc rem xs : List α} {k : Nat} {y : α} (h : (acc ++ rem).Perm xs) (e : rem[k]? = some y) : ((acc ++ [y]) ++ rem.eraseIdx k).Perm xs := by
  obtain ⟨hk, rfl⟩ := List.getElem?_eq_some_iff.mp e
  refine List.Perm.trans ?_ h
  rw [List.append_assoc]
  refine List.Perm.append_left acc ?_
  exact perm_erase rem k hk
def tLen (K : PySem.W.Frag) (i : Nat) : TE := tCB (Evl.rLenS K) (tCons (tVar i) tNil)
def popT (K : PySem.W.Frag) : TE := tLc (iRng1 (tCons (tLen K 10) tNil)) (gName 3) tYes (tBM K "list" rPopAt (tVar 10) (tCons (tCall spDraw [] E0 (tCons (tVar 0) (tCons (tLen K 10) tNil))) tNil)) [3]
theorem popAll {K : PySem.W.Frag} {σ : L2.St} {H : Hp} {Q : VK} {wl L : Addr} {vs : List V} (h0 : σ[0]? = some (some (.ref wl))) (h10 : σ[10]? = some (some (.ref L))) (hL : H L = some (.lst vs)) (hw : WellAt wl H) (hn : L ≠ wl) (hz : vs.length ≤ 1000)
    (q : ∀ D vs' H', vs'.Perm vs → H D = none → H' D = some (.lst vs') → (∀ b o, b ≠ wl → b ≠ L → H b = some o → H' b = some o) → WellAt wl H' → Q (.ref D) H') : popT K σ H Q := by
  have s0 : ∀ x, (((wipe σ [3]).set 3 x))[0]? = some (some (.ref wl)) := fun x => by
    show (((σ.set 3 none).set 3 x))[0]? = _
    rw [List.getElem?_set_ne (by decide), List.getElem?_set_ne (by decide)]
    exact h0
  have s10 : ∀ x, (((wipe σ [3]).set 3 x))[10]? = some (some (.ref L)) := fun x => by
    show (((σ.set 3 none).set 3 x))[10]? = _
    rw [List.getElem?_set_ne (by decide), List.getElem?_set_ne (by decide)]
    exact h10
  refine ⟨_, h10, L, vs, rfl, .inl (SqL.of hL), _, rfl, by omega, by omega, fun D hD => ?_⟩
  have nDL : L ≠ D := ne_of_none hL hD
  have nDw : D ≠ wl := (hw.ne hD).symm
  refine lc_range (lo := 0) (n := ((vs.length : Int)).toNat) (fun i H3 => ∃ acc rem : List V, acc.length = i ∧ (acc ++ rem).Perm vs ∧ H3 D = some (.lst acc) ∧ H3 L = some (.lst rem) ∧ (∀ b o, b ≠ wl → b ≠ L → H b = some o → H3 b = some o) ∧ WellAt wl H3)
    ⟨[], vs, rfl, by simp, upd_same, by rw [upd_ne nDL]; exact hL, fun b o _ _ e => by rw [upd_ne (ne_of_none e hD)]; exact e, hw.new hD⟩ ?_ ?_
  · rintro i H3 hi ⟨acc, rem, hal, hp, hDa, hLr, hk, hw3⟩
    have hlen : acc.length + rem.length = vs.length := by
      have := hp.length_eq
      simpa using this
    have hrem : 0 < rem.length := by omega
    refine ⟨?_, tyes ?_⟩
    · show ((σ.set 3 none).set 3 _).set 3 none = σ.set 3 none
      simp
    refine ⟨_, s10 _, .inl ⟨rfl, _, SqL.of hLr⟩, _, s0 _, _, s10 _, L, rem, rfl, .inl (SqL.of hLr), wl, _, rfl, by omega, by omega, hw3, fun d H4 d0 d1 E1 => ?_⟩
    have hj : d.toNat < rem.length := by omega
    have hLr4 := E1.but _ _ hn hLr
    have hDa4 := E1.but _ _ nDw hDa
    have hg : rem[d.toNat]? = some rem[d.toNat] := List.getElem?_eq_getElem hj
    refine ⟨L, rem, d, d.toNat, rem[d.toNat], rfl, rfl, hLr4, by omega, by omega, PySem.seqIndex_of d0 d1, hg, ?_⟩
    refine ⟨acc, by rw [upd_ne nDL.symm]; exact hDa4, small1000 (by omega), acc ++ [rem[d.toNat]], rem.eraseIdx d.toNat, by simp [hal], perm_pop hp hg, upd_same, ?_, ?_, ?_⟩
    · rw [upd_ne nDL, upd_same]
    · intro b o nb nL e
      rw [upd_ne (ne_of_none e hD), upd_ne nL]
      exact E1.but _ _ nb (hk b o nb nL e)
    · obtain ⟨x1, x2, x3, hx⟩ := E1.well
      exact ⟨x1, x2, x3, by rw [upd_ne nDw.symm, upd_ne hn.symm]; exact hx⟩
  · rintro H3 ⟨acc, rem, hal, hp, hDa, hLr, hk, hw3⟩
    have hlen : acc.length + rem.length = vs.length := by
      have := hp.length_eq
      simpa using this
    have hr : rem = [] := by
      cases rem with
      | nil => rfl
      | cons _ _ => simp at hlen; omega
    subst hr
    rw [List.append_nil] at hp
    exact q D acc H3 hp hD hDa hk hw3
end Lag

set_option maxRecDepth 100000
set_option maxHeartbeats 4000000
namespace Lag
open PySem PySem.Spec PyProof.Rows L2
abbrev sParts : Stmt := topS 53
/-! ### what stands while the parts are made -/
structure PS1 (K : PySem.W.Frag) (wl : Addr) (H0 H : Hp) (g : Addr) (gs : List Gt) : Prop where
  w0 : WellAt wl H0
  dr : Dr wl H0 H
  gn : H0 g = none
  gl : ∃ vs, H g = some (.lst vs) ∧ All2 (GateV K H) vs gs
  gok : ∀ x ∈ gs, GOk x
  g0 : ∀ x : Gt, gs[0]? = some x → x.1 ≠ ("out" : Str)
theorem PS1.step {K : PySem.W.Frag} {wl g : Addr} {H0 H H' : Hp} {gs : List Gt} (p : PS1 K wl H0 H g gs) (d : Dr wl H H') : PS1 K wl H0 H' g gs := by
  obtain ⟨vs, h, a⟩ := p.gl
  exact ⟨p.w0, p.dr.trans d, p.gn, ⟨vs, d.but _ _ (p.w0.ne p.gn).symm h, a.imp fun _ _ r => r.tk (TK.dr p.dr.well d.but)⟩, p.gok, p.g0⟩
structure PS2 (K : PySem.W.Frag) (wl : Addr) (H0 H : Hp) (g st wi : Addr) (gs : List Gt) (sts : List Nat) (ws : List Wr) : Prop extends PS1 K wl H0 H g gs where
  sn : H0 st = none
  sl : H st = some (.lst (sts.map fun i => V.int (i : Nat)))
  wn : H0 wi = none
  wv : ∃ vs, H wi = some (.lst vs) ∧ All2 (WireV K H) vs ws
  nsw : st ≠ wi
  ngw : g ≠ wi
theorem PS2.step {K : PySem.W.Frag} {wl g st wi : Addr} {H0 H H' : Hp} {gs : List Gt} {sts : List Nat} {ws : List Wr} (p : PS2 K wl H0 H g st wi gs sts ws) (d : Dr wl H H') : PS2 K wl H0 H' g st wi gs sts ws := by
  obtain ⟨vs, h, a⟩ := p.wv
  exact ⟨p.toPS1.step d, p.sn, d.but _ _ (p.w0.ne p.sn).symm p.sl, p.wn, ⟨vs, d.but _ _ (p.w0.ne p.wn).symm h, a.imp fun _ _ r => r.tk (TK.dr p.dr.well d.but)⟩, p.nsw, p.ngw⟩
theorem PS2.app {K : PySem.W.Frag} {wl g st wi : Addr} {H0 H : Hp} {gs : List Gt} {sts : List Nat} {ws : List Wr} {vs : List V} {v : V} {x : Wr} (p : PS2 K wl H0 H g st wi gs sts ws) (hv : H wi = some (.lst vs)) (hx : WireV K H v x) :
    PS2 K wl H0 (upd H wi (.lst (vs ++ [v]))) g st wi gs sts (ws ++ [x]) := by
  obtain ⟨vs', h, a⟩ := p.wv
  obtain ⟨gv, hg, ag⟩ := p.gl
  rw [hv] at h
  cases h
  have t : TK H (upd H wi (.lst (vs ++ [v]))) := TK.lst hv
  exact ⟨⟨p.w0, set_well p.dr p.wn (p.w0.ne p.wn).symm, p.gn, ⟨gv, by rw [upd_ne p.ngw]; exact hg, ag.imp fun _ _ r => r.tk t⟩, p.gok, p.g0⟩, p.sn, by rw [upd_ne p.nsw]; exact p.sl, p.wn, ⟨_, upd_same, (a.imp fun _ _ r => r.tk t).snoc (hx.tk t)⟩, p.nsw, p.ngw⟩
/-- the wires into the gates ahead of i -/
structure WInv (gs : List Gt) (ws : List Wr) (i : Nat) : Prop where
  ok : ∀ x ∈ ws, WOk gs x ∧ (x.2.2 = [] → x.1 < x.2.1) ∧ x.2.1 < i
  one : ∀ e, e < i → kindAt gs e = "out" → cnt ws e = 1
  some : ∀ e, e < i → kindAt gs e = "first" → 1 ≤ cnt ws e
  len : ws.length ≤ 3 * i
  r2 : ∀ x ∈ ws, x.2.2.length ≤ 2
/-- .. and j wires into the gate i -/
structure WInv2 (gs : List Gt) (ws : List Wr) (i j : Nat) : Prop where
  ok : ∀ x ∈ ws, WOk gs x ∧ (x.2.2 = [] → x.1 < x.2.1) ∧ x.2.1 < i + 1
  one : ∀ e, e < i → kindAt gs e = "out" → cnt ws e = 1
  some : ∀ e, e < i → kindAt gs e = "first" → 1 ≤ cnt ws e
  here : cnt ws i = j
  len : ws.length ≤ 3 * i + j
  r2 : ∀ x ∈ ws, x.2.2.length ≤ 2
theorem WInv.go {gs : List Gt} {ws : List Wr} {i : Nat} (h : WInv gs ws i) : WInv2 gs ws i 0 := by
  refine ⟨fun x hx => ⟨(h.ok x hx).1, (h.ok x hx).2.1, by have := (h.ok x hx).2.2; omega⟩, h.one, h.some, ?_, h.len, h.r2⟩
  unfold cnt
  rw [List.countP_eq_zero]
  intro x hx z
  have := (h.ok x hx).2.2
  simp at z
  omega
theorem WInv2.app {gs : List Gt} {ws : List Wr} {i j : Nat} {x : Wr} (h : WInv2 gs ws i j) (hx : WOk gs x) (hr : x.2.2 = [] → x.1 < x.2.1) (he : x.2.1 = i) (h2 : x.2.2.length ≤ 2) : WInv2 gs (ws ++ [x]) i (j + 1) := by
  have c : ∀ e, e < i → cnt (ws ++ [x]) e = cnt ws e := fun e he' => by
    unfold cnt
    rw [List.countP_append]
    have : (x.2.1 == e) = false := by simp; omega
    simp [List.countP_cons, this]
  refine ⟨fun y hy => ?_, fun e h1 h2 => by rw [c e h1]; exact h.one e h1 h2, fun e h1 h2 => by rw [c e h1]; exact h.some e h1 h2, ?_, by have := h.len; simp; omega, fun y hy => ?_⟩
  · rcases List.mem_append.mp hy with hy | hy
    · exact h.ok y hy
    · simp at hy
      subst hy
      exact ⟨hx, hr, by omega⟩
  · have := h.here
    unfold cnt at this ⊢
    rw [List.countP_append, this]
    simp [List.countP_cons, he]
  · rcases List.mem_append.mp hy with hy | hy
    · exact h.r2 y hy
    · simp at hy
      subst hy
      exact h2
theorem WInv2.done {gs : List Gt} {ws : List Wr} {i j : Nat} (h : WInv2 gs ws i j) (h1 : kindAt gs i = "out" → j = 1) (h2 : kindAt gs i = "first" → 1 ≤ j) (hj : j ≤ 3) : WInv gs ws (i + 1) := by
  refine ⟨fun x hx => h.ok x hx, fun e he hk => ?_, fun e he hk => ?_, by have := h.len; omega, h.r2⟩
  · by_cases hi : e = i
    · subst hi
      rw [h.here]
      exact h1 hk
    · exact h.one e (by omega) hk
  · by_cases hi : e = i
    · subst hi
      rw [h.here]
      exact h2 hk
    · exact h.some e (by omega) hk
theorem WInv.net {gs : List Gt} {ws : List Wr} (h : WInv gs ws gs.length) (ne : gs ≠ []) (gl : gs.length ≤ 100) (gok : ∀ g ∈ gs, GOk g) : NetOk gs ws :=
  ⟨ne, gl, by have := h.len; omega, gok, fun x hx => (h.ok x hx).1, h.one, h.some, id, fun x hx hr => (h.ok x hx).2.1 hr⟩
theorem many_ok (k : Str) (d2 d4 : Int) (a2 : 0 ≤ d2) (b2 : d2 < 2) (a4 : 0 ≤ d4) (b4 : d4 < 4) :
    ∃ m : Int, (valV (mergeK [] [((Sum.inr "in" : Key), V.int 0), (Sum.inr "out", V.int 1), (Sum.inr "first", V.int (1 + d2))]) (Sum.inr k)).getD (V.int d4) = V.int m ∧ 0 ≤ m ∧ m ≤ 3 ∧ (k = "in" → m = 0) ∧ (k = "out" → m = 1) ∧ (k = "first" → 1 ≤ m) := by
  have n1 : ¬ (("in" : Str) = "out") := by decide +kernel
  have n2 : ¬ (("in" : Str) = "first") := by decide +kernel
  have n3 : ¬ (("out" : Str) = "first") := by decide +kernel
  have e : mergeK [] [((Sum.inr "in" : Key), V.int 0), (Sum.inr "out", V.int 1), (Sum.inr "first", V.int (1 + d2))] = [((Sum.inr "in" : Key), V.int 0), (Sum.inr "out", V.int 1), (Sum.inr "first", V.int (1 + d2))] := by
    simp [mergeK, putK, n1, n2, n3]
  rw [e]
  by_cases h1 : k = "in"
  · subst h1
    rw [valV_pos rfl]
    exact ⟨0, rfl, by decide, by decide, fun _ => rfl, fun z => absurd z n1, fun z => absurd z n2⟩
  · rw [valV_neg (by intro z; exact h1 (Sum.inr.inj z).symm)]
    by_cases h2 : k = "out"
    · subst h2
      rw [valV_pos rfl]
      exact ⟨1, rfl, by decide, by decide, fun z => absurd z h1, fun _ => rfl, fun z => absurd z n3⟩
    · rw [valV_neg (by intro z; exact h2 (Sum.inr.inj z).symm)]
      by_cases h3 : k = "first"
      · subst h3
        rw [valV_pos rfl]
        exact ⟨1 + d2, rfl, by omega, by omega, fun z => absurd z h1, fun z => absurd z h2, fun _ => by omega⟩
      · rw [valV_neg (by intro z; exact h3 (Sum.inr.inj z).symm), valV_nil]
        exact ⟨d4, rfl, by omega, by omega, fun z => absurd z h1, fun z => absurd z h2, fun z => absurd z h3⟩
end Lag

set_option maxRecDepth 100000
set_option maxHeartbeats 8000000
namespace Lag
open PySem PySem.Spec PyProof.Rows L2
/-- lists of gates, of wires, that stand tracked -/
def LG (K : PySem.W.Frag) (H : Hp) (l : Addr) (gs : List Gt) : Prop := ∃ vs, H l = some (.lst vs) ∧ All2 (GateV K H) vs gs
def LW (K : PySem.W.Frag) (H : Hp) (l : Addr) (ws : List Wr) : Prop := ∃ vs, H l = some (.lst vs) ∧ All2 (WireV K H) vs ws
def spParts (K : PySem.W.Frag) : Sp := fun vs H Q _ => ∃ (wl : Addr) (m : Int), vs = [.ref wl, .int m] ∧ 0 < m ∧ m ≤ 20 ∧ WellAt wl H ∧
  ∀ (gs : List Gt) (ws : List Wr) (lg lw p : Addr) (H' : Hp), NetOk gs ws → gs.length ≤ 20 → (∀ x ∈ ws, x.2.2.length ≤ 2) → ws.length ≤ 100 → Dr wl H H' → H lg = none → H lw = none → lg ≠ lw → LG K H' lg gs → LW K H' lw ws → H' p = some (.tup [.ref lg, .ref lw]) → Q (.ref p) H'
abbrev nParts : List Str := ["_law_well_here", "_law_most", "_law_gates", "_law_k", "_law_starts", "_law_wires", "_law_end", "_law_kind", "_law_wait", "_law_many", "_law_left", "_law_gate_here", "_law_start", "_law_row"]
theorem scParts : FnScope nParts ["_law_well_here", "_law_most"] (defScope sParts) := ⟨rfl, rfl, rfl, by decide +kernel, rfl, by decide +kernel, by decide +kernel⟩
theorem kindAt_get {gs : List Gt} {i : Nat} {g : Gt} (h : gs[i]? = some g) : kindAt gs i = g.1 := by
  unfold kindAt
  rw [List.getD_eq_getElem?_getD, h]
  rfl
/-- all but the well and one list is kept -/
theorem TK.two {wl L : Addr} {H H' : Hp} {vs : List V} (W : WellAt wl H) (hL : H L = some (.lst vs)) (k : ∀ b o, b ≠ wl → b ≠ L → H b = some o → H' b = some o) : TK H H' := fun c u t e => by
  obtain ⟨x, y, z, h⟩ := W
  refine k c u (fun z => ?_) (fun z => ?_) e
  · rw [z, h] at e
    cases e
    exact t
  · rw [z, hL] at e
    cases e
    exact t
theorem PS1.two {K : PySem.W.Frag} {wl g L : Addr} {H0 H H' : Hp} {gs : List Gt} {vs : List V} (p : PS1 K wl H0 H g gs) (hL : H L = some (.lst vs)) (h0 : H0 L = none) (ng : g ≠ L) (k : ∀ b o, b ≠ wl → b ≠ L → H b = some o → H' b = some o) (W : WellAt wl H') : PS1 K wl H0 H' g gs := by
  obtain ⟨gv, h, a⟩ := p.gl
  exact ⟨p.w0, ⟨fun b o n e => k b o n (ne_of_none e h0) (p.dr.but b o n e), W⟩, p.gn, ⟨gv, k _ _ (p.w0.ne p.gn).symm ng h, a.imp fun _ _ r => r.tk (TK.two p.dr.well hL k)⟩, p.gok, p.g0⟩
theorem all2_eq {α β : Type} {f : β → α} : ∀ {xs : List α} {ys : List β}, All2 (fun x y => x = f y) xs ys → xs = ys.map f
  | [], [], _ => rfl
  | [], _ :: _, h => by have := h.1; simp at this
  | _ :: _, [], h => by have := h.1; simp at this
  | x :: xs, y :: ys, h => by rw [List.map_cons, ← all2_eq h.tail, ← h.head]
theorem eq_all2 {α β : Type} {f : β → α} (ys : List β) : All2 (fun x y => x = f y) (ys.map f) ys := ⟨by simp, fun i x y h1 h2 => by
  rw [List.getElem?_map, h2] at h1
  exact (Option.some.inj h1).symm⟩
theorem rgV_nat (n : Nat) : rgV 0 (n : Int) = (List.range n).map fun i => V.int (i : Nat) := by
  unfold rgV
  have : ((n : Int) - 0).toNat = n := by omega
  rw [this]
  refine List.map_congr_left fun i _ => ?_
  rw [Int.zero_add]
theorem flat_ints (l : List Nat) : (l.map fun i => V.int (i : Nat)).all flatV = true := by
  rw [List.all_eq_true]
  intro x hx
  obtain ⟨i, _, rfl⟩ := List.mem_map.mp hx
  rfl
/-- where a number stands among numbers without two alike -/
theorem idx_at {left : List Nat} {a : Nat} (h : a ∈ left) : (left.map fun i => V.int (i : Nat))[left.idxOf a]? = some (V.int (a : Nat)) := by
  rw [List.getElem?_map, List.getElem?_eq_getElem (List.idxOf_lt_length_iff.mpr h), List.getElem_idxOf]
  rfl
theorem eqV_int (a b : Int) : eqV (V.int a) (V.int b) = decide (a = b) := rfl
theorem idx_no {left : List Nat} {a m : Nat} {z : V} (nd : left.Nodup) (hm : m < left.idxOf a) (h : (left.map fun i => V.int (i : Nat))[m]? = some z) : eqV z (V.int (a : Nat)) = false := by
  rw [List.getElem?_map] at h
  cases e : left[m]? with
  | none =>
    rw [e] at h
    cases h
  | some b =>
    rw [e] at h
    cases h
    rw [eqV_int]
    refine decide_eq_false fun z => ?_
    have z : b = a := by omega
    obtain ⟨hm', eb⟩ := List.getElem?_eq_some_iff.mp e
    have := List.Nodup.idxOf_getElem nd m hm'
    rw [eb, z] at this
    omega
section
variable {P : Program} {w : World} {K : PySem.W.Frag} {mg : Str → Option Value} {base : Heap}
abbrev DParts (P : Program) (w : World) (K : PySem.W.Frag) (mg : Str → Option Value) (base : Heap) := Df P w K mg base 4 "_law_parts" ["_law_well_here", "_law_most"] (spParts K)
theorem ok_parts {f fD fO fG fW : Addr} {fd fdD fdO fdG fdW : FuncData} (F : Fun K "_law_parts" "_law_parts" sParts f fd) (hm : mg "_law_parts" = some (.ref f)) (DD : DDraw P w K mg base fD fdD) (DO : DOne P w K mg base fO fdO)
    (DG : DGate P w K mg base fG fdG) (DW : DWire P w K mg base fW fdW) (me : mg "enumerate" = none) (mr : mg "range" = none) (ml : mg "len" = none) (mls : mg "list" = none) : DParts P w K mg base f fd := by
  refine ⟨?_, hm, F.kp, F.binds fun _ _ _ _ _ _ us hl => match us, hl with | [_, _], _ => rfl⟩
  refine F.ok scParts (fun vs H Q E h => ?_) (fun cdv A outer s H vs Q E hr h => ?_)
  · obtain ⟨wl, m, rfl, _⟩ := h
    rfl
  · obtain ⟨wl, m, rfl, hm0, hm1, hw, q⟩ := h
    have hr1 : Room 1 _ := hr.mono (by decide)
    have hr2 : Room 2 _ := hr.mono (by decide)
    have nd := scParts.nd
    refine ⟨_, pss_cons (ps_set (i := 2) nd rfl (Or.inr rfl) (pe_lst pa_nil)) <|
      pss_cons (ps_for PassesOwn.never rfl (pi_range1 (by rfl) mr (pa_cons (pe_op op_add pe_int (pe_call DD.ok hr1 (by rfl) DD.mg DD.kp DD.bd .nil pass0 (pa_cons (pv 0) (pa_cons (pv 1) pa_nil)))) pa_nil)) (pg_name (i := 3) nd rfl (Or.inl rfl)) <|
        pss_one <| ps_expr <| pe_bm PySem.F.plainAttrs_list PySem.F.slot_list_append PySem.F.type_list_append mt_append (pv 2) <| (pa_cons · pa_nil) <| pe_call DG.ok hr (by rfl) DG.mg DG.kp DG.bd .nil pass0 <| pa_cons (pv 0) <| pa_cons (pe_cmpR op_eq (pv 3) pe_int (nomark _)) pa_nil) <|
      pss_cons (ps_setLc (i := 4) (own := [("_law_k", 3), ("_law_gate_here", 11)]) (g := gTup K 2 (gCons (gName 3) (gCons (gName 11) gNil))) (tt := tTest (tOp rNe (tOp (rIxT K) (tVar 11) (tC (.int 0))) (tC (.str "out")))) (te := tVar 3) rfl nd rfl rfl (sw_true rfl rfl rfl (by decide +kernel))
          (pi_enum (by rfl) me (pa_cons (pv 2) pa_nil)) (blkOk_by (N := nParts) (sc := defScope sParts) (own := [("_law_k", 3), ("_law_gate_here", 11)]) (by decide +kernel))
          (fun _ _ _ _ _ => pg_tup rfl (pgs_cons (pg_name (i := 3) nd rfl (Or.inl rfl)) (pgs_cons (pg_name (i := 11) nd rfl (Or.inl rfl)) pgs_nil)))
          (fun _ _ _ _ _ => pts_one (pt_cmpR op_ne (pe_ix ix_tup (pv 11) pe_int (fun _ _ => rfl)) pe_str (nomark _))) (fun _ _ _ _ _ => pv 3)) <|
      pss_cons (ps_set (i := 5) nd rfl (Or.inl rfl) (pe_lst pa_nil)) <|
      pss_cons (ps_for PassesOwn.never rfl (pi_enum (by rfl) me (pa_cons (pv 2) pa_nil)) (pg_tup rfl (pgs_cons (pg_name (i := 6) nd rfl (Or.inl rfl)) (pgs_cons (pg_tup rfl (pgs_cons (pg_name (i := 7) nd rfl (Or.inl rfl)) (pgs_cons (pg_name (i := 8) nd rfl (Or.inl rfl)) pgs_nil))) pgs_nil))) <|
        pss_cons (ps_set (i := 9) nd rfl (Or.inl rfl) (pe_dget2 (hu_of hr) (pe_disp (pps_cons pe_str pe_int (pps_cons pe_str pe_int (pps_cons pe_str (pe_op op_add pe_int (pe_call DD.ok hr1 (by rfl) DD.mg DD.kp DD.bd .nil pass0 (pa_cons (pv 0) (pa_cons pe_int pa_nil)))) pps_nil))) (by rfl) (by rfl) (fun z => by cases z) (by decide))
            (pv 7) (pe_call DD.ok hr1 (by rfl) DD.mg DD.kp DD.bd .nil pass0 (pa_cons (pv 0) (pa_cons pe_int pa_nil))) ⟨rfl, rfl, rfl, rfl⟩)) <|
        pss_one <| ps_for PassesOwn.never rfl (pi_range1 (by rfl) mr (pa_cons (pv 9) pa_nil)) (pg_name (i := 3) nd rfl (Or.inl rfl)) <|
          pss_one <| ps_expr <| pe_bm PySem.F.plainAttrs_list PySem.F.slot_list_append PySem.F.type_list_append mt_append (pv 5) <| (pa_cons · pa_nil) <| pe_call DW.ok hr (by rfl) DW.mg DW.kp DW.bd .nil pass0 <|
            pa_cons (pv 0) <| pa_cons (pe_call DO.ok hr2 (by rfl) DO.mg DO.kp DO.bd .nil pass0 (pa_cons (pv 0) (pa_cons (pv 4) pa_nil))) <| pa_cons (pv 6) pa_nil) <|
      pss_cons (ps_set (i := 10) nd rfl (Or.inr rfl) (pe_callTy call_list_of (by rfl) mls (by decide +kernel) (pa_cons (pv 5) pa_nil))) <|
      Evl.pss_cut (ps_if (pt_cmpR op_eq (pe_call DD.ok hr1 (by rfl) DD.mg DD.kp DD.bd .nil pass0 (pa_cons (pv 0) (pa_cons pe_int pa_nil))) pe_int (nomark _))
        (pss_one (ps_setLc (i := 5) (own := [("_law_k", 3)]) (g := gName 3) (tt := tYes) (te := tBM K "list" rPopAt (tVar 10) (tCons (tCall spDraw [] E0 (tCons (tVar 0) (tCons (tLen K 10) tNil))) tNil)) rfl nd rfl rfl (sw_true rfl rfl rfl (by decide +kernel))
          (pi_range1 (by rfl) mr (pa_cons (pe_callB call_len_seq (by rfl) ml PySem.boot_len (pa_cons (pv 10) pa_nil)) pa_nil)) (blkOk_by (N := nParts) (sc := defScope sParts) (own := [("_law_k", 3)]) (by decide +kernel)) (fun _ _ _ _ _ => pg_name (i := 3) nd rfl (Or.inl rfl)) (fun _ _ _ _ _ => pts_nil)
          (fun _ _ _ _ _ => pe_bm PySem.F.plainAttrs_list PySem.F.slot_list_pop PySem.F.type_list_pop mt_popAt (pv 10) (pa_cons (pe_call DD.ok hr1 (by rfl) DD.mg DD.kp DD.bd .nil pass0 (pa_cons (pv 0) (pa_cons (pe_callB call_len_seq (by rfl) ml PySem.boot_len (pa_cons (pv 10) pa_nil)) pa_nil))) pa_nil)))) pss_nil) <|
      pss_cons (ps_set (i := 10) nd rfl (Or.inr rfl) (pe_listRg rfl (by rfl) mls (prg_1 (by rfl) mr (pe_callB call_len_seq (by rfl) ml PySem.boot_len (pa_cons (pv 2) pa_nil))))) <|
      Evl.pss_cut (ps_if (pt_cmpR op_eq (pe_call DD.ok hr1 (by rfl) DD.mg DD.kp DD.bd .nil pass0 (pa_cons (pv 0) (pa_cons pe_int pa_nil))) pe_int (nomark _))
        (pss_one (ps_set (i := 10) nd rfl (Or.inr rfl) (pe_lc (own := [("_law_k", 3)]) (g := gName 3) (tt := tYes) (te := tBM K "list" rPopAt (tVar 10) (tCons (tCall spDraw [] E0 (tCons (tVar 0) (tCons (tLen K 10) tNil))) tNil)) rfl nd
          (pi_range1 (by rfl) mr (pa_cons (pe_callB call_len_seq (by rfl) ml PySem.boot_len (pa_cons (pv 10) pa_nil)) pa_nil)) (blkOk_by (N := nParts) (sc := defScope sParts) (own := [("_law_k", 3)]) (by decide +kernel)) (fun _ _ _ _ _ => pg_name (i := 3) nd rfl (Or.inl rfl)) (fun _ _ _ _ _ => pts_nil)
          (fun _ _ _ _ _ => pe_bm PySem.F.plainAttrs_list PySem.F.slot_list_pop PySem.F.type_list_pop mt_popAt (pv 10) (pa_cons (pe_call DD.ok hr1 (by rfl) DD.mg DD.kp DD.bd .nil pass0 (pa_cons (pv 0) (pa_cons (pe_callB call_len_seq (by rfl) ml PySem.boot_len (pa_cons (pv 10) pa_nil)) pa_nil))) pa_nil))))) pss_nil) <|
      pss_one <| ps_ret <| pe_tup <| pa_cons
        (pe_lc (own := [("_law_k", 3)]) (g := gName 3) (tt := tYes) (te := tOp (rIxL K) (tVar 2) (tVar 3)) rfl nd (pi_list (pv 10)) (blkOk_by (N := nParts) (sc := defScope sParts) (own := [("_law_k", 3)]) (by decide +kernel)) (fun _ _ _ _ _ => pg_name (i := 3) nd rfl (Or.inl rfl)) (fun _ _ _ _ _ => pts_nil)
          (fun _ _ _ _ _ => pe_ix ix_list (pv 2) (pv 3) (fun _ _ => rfl))) <|
        (pa_cons · pa_nil) <| pe_lc (own := [("_law_start", 12), ("_law_end", 6), ("_law_row", 13)]) (g := gTup K 3 (gCons (gName 12) (gCons (gName 6) (gCons (gName 13) gNil)))) (tt := tYes)
            (te := tTup (tCons (tBM K "list" (rIndex K) (tVar 10) (tCons (tVar 12) tNil)) (tCons (tBM K "list" (rIndex K) (tVar 10) (tCons (tVar 6) tNil)) (tCons (tVar 13) tNil)))) rfl nd (pi_list (pv 5))
          (blkOk_by (N := nParts) (sc := defScope sParts) (own := [("_law_start", 12), ("_law_end", 6), ("_law_row", 13)]) (by decide +kernel))
          (fun _ _ _ _ _ => pg_tup rfl (pgs_cons (pg_name (i := 12) nd rfl (Or.inl rfl)) (pgs_cons (pg_name (i := 6) nd rfl (Or.inl rfl)) (pgs_cons (pg_name (i := 13) nd rfl (Or.inl rfl)) pgs_nil)))) (fun _ _ _ _ _ => pts_nil)
          (fun _ _ _ _ _ => pe_tup (pa_cons (pe_bm PySem.F.plainAttrs_list PySem.F.slot_list_index PySem.F.type_list_index mt_index (pv 10) (pa_cons (pv 12) pa_nil)) (pa_cons (pe_bm PySem.F.plainAttrs_list PySem.F.slot_list_index PySem.F.type_list_index mt_index (pv 10) (pa_cons (pv 6) pa_nil)) (pa_cons (pv 13) pa_nil)))), ?_⟩
    -- gates = []
    refine ⟨Nat.zero_le _, fun g hg => ?_⟩
    have ngw : g ≠ wl := (hw.ne hg).symm
    refine ⟨_, rfl, _, rfl, wl, m, rfl, hm0, by omega, hw.new hg, fun d H1 d0 d1 E1 => ?_⟩
    have D1 := (Dr.new (o := .lst []) hw hg).trans E1
    refine ⟨_, _, rfl, rfl, _, rfl, by omega, by omega, ?_⟩
    refine for_range (lo := 0) (n := (1 + d).toNat) (fun i σ H2 => ∃ (k3 : Option V) (gs : List Gt), σ = [some (.ref wl), some (.int m), some (.ref g), k3, none, none, none, none, none, none, none, none, none, none] ∧ gs.length = i ∧ PS1 K wl H H2 g gs)
      ⟨none, [], rfl, rfl, ⟨hw, D1, hg, ⟨[], E1.but _ _ ngw upd_same, All2.nil⟩, by simp, by simp⟩⟩ ?_ ?_
    · rintro i σ H2 hi ⟨k3, gs, rfl, hgl, p1⟩
      obtain ⟨vs, hgv, hga⟩ := p1.gl
      refine ⟨_, rfl, .inl ⟨rfl, _, SqL.of hgv⟩, _, rfl, _, rfl, rfl, wl, _, rfl, p1.dr.well, fun gt p H3 gok gne E2 hp hp3 => ?_⟩
      have hg3 := E2.but _ _ ngw hgv
      have npg : p ≠ g := fun z => by
        rw [z, hgv] at hp
        cases hp
      have t3 : TK H2 H3 := TK.dr p1.dr.well E2.but
      have hlv : vs.length = i := by rw [hga.1, hgl]
      refine ⟨g, vs, _, rfl, rfl, hg3, small1000 (by omega), _, gs ++ [gt], rfl, by simp [hgl], ⟨hw, set_well (p1.dr.trans E2) hg ngw, hg, ⟨_, upd_same, ((hga.imp fun _ _ r => r.tk t3).imp fun _ _ r => r.tk (TK.lst hg3)).snoc ⟨p, rfl, .inl (.inl (by rw [upd_ne npg]; exact hp3))⟩⟩, ?_, ?_⟩⟩
      · intro x hx
        rcases List.mem_append.mp hx with hx | hx
        · exact p1.gok x hx
        · simp at hx
          subst hx
          exact gok
      · intro x hx
        by_cases hi0 : gs.length = 0
        · have : gs = [] := List.length_eq_zero_iff.mp hi0
          subst this
          simp at hx
          subst hx
          refine gne (decide_eq_true ?_)
          have : i = 0 := by simpa using hgl.symm
          subst this
          rfl
        · rw [List.getElem?_append_left (by omega)] at hx
          exact p1.g0 x hx
    · rintro σ H2 ⟨k3, gs, rfl, hgl, p1⟩
      obtain ⟨vs, hgv, hga⟩ := p1.gl
      have hlv : vs.length = gs.length := hga.1
      have hn : gs.length ≤ 20 := by omega
      have hpos : 0 < gs.length := by omega
      -- starts = [k for k, gate in enumerate(gates) if gate[0] != 'out']
      refine ⟨_, rfl, g, vs, rfl, SqL.of hgv, fun st hst => ?_⟩
      refine lc_it (walk_enum (K := K) (a := g) (xs := vs)) (fun i H3 => ∃ sts : List Nat, H3 st = some (.lst (sts.map fun i => V.int (i : Nat))) ∧ (∀ k ∈ sts, k < gs.length ∧ kindAt gs k ≠ "out") ∧ (0 < i → sts ≠ []) ∧ sts.length ≤ i ∧ Same H2 H3)
        ⟨[], upd_same, by simp, by simp, Nat.le_refl _, same_new hst⟩ (fun i H3 _ ⟨_, _, _, _, _, sm⟩ => sm.seq (SqL.of hgv)) ?_ ?_
      · rintro i x H3 H3' hi ⟨sts, hs3, hsk, hs0, hsl, sm⟩ ⟨T, x1, y, rfl, hT, rfl, ex, ey⟩
        cases ex
        obtain ⟨gt, hgt, ga, rfl, sq⟩ := hga.get ey
        have smT : Same H3 (upd H3 T (.tup [.int (i : Nat), .ref ga])) := same_new hT
        have t : TK H2 (upd H3 T (.tup [.int (i : Nat), .ref ga])) := TK.same (sm.trans smT)
        have hsT := smT _ _ hs3
        refine ⟨T, _, rfl, .inl (.inl upd_same), rfl, _, _, rfl, _, _, rfl, rfl, rfl, ?_⟩
        refine ⟨_, rfl, ga, _, 0, .str gt.1, rfl, rfl, t.seq sq, atI_nat (j := 0) rfl, rfl, _, rfl, ite2 (fun e => ?_) (fun e => ?_)⟩
        · have hk : kindAt gs i ≠ "out" := by
            rw [kindAt_get hgt]
            intro z
            rw [z] at e
            simp at e
          refine ⟨_, rfl, _, hsT, by rw [List.length_map]; exact small1000 (by omega), sts ++ [i], ?_, ?_, by simp, by simp; omega, same_mut (sm.trans smT) hst⟩
          · rw [upd_same, List.map_append]
            rfl
          · intro k hk'
            rcases List.mem_append.mp hk' with hk' | hk'
            · exact hsk k hk'
            · simp at hk'
              subst hk'
              exact ⟨by rw [← hlv]; exact hi, hk⟩
        · refine ⟨sts, hsT, hsk, fun _ => ?_, by omega, sm.trans smT⟩
          by_cases hi0 : i = 0
          · subst hi0
            have := p1.g0 gt hgt
            exfalso
            apply e
            simp [this]
          · exact hs0 (by omega)
      · rintro H3 ⟨sts, hs3, hsk, hs0, hsl, sm⟩
        have hsne : sts ≠ [] := hs0 (by omega)
        have p3 : PS1 K wl H H3 g gs := p1.step ⟨But.same sm, p1.dr.well.same sm⟩
        have hst0 : H st = none := p1.dr.free hw hst
        -- wires = []
        refine ⟨Nat.zero_le _, fun wi hwi => ?_⟩
        have p4 : PS2 K wl H (upd H3 wi (.lst [])) g st wi gs sts [] := by
          have d4 : Dr wl H3 (upd H3 wi (.lst [])) := Dr.new p3.dr.well hwi
          obtain ⟨gv, hgv3, _⟩ := p3.gl
          exact ⟨p3.step d4, hst0, same_new hwi _ _ hs3, p3.dr.free hw hwi, ⟨[], upd_same, All2.nil⟩, ne_of_none hs3 hwi, ne_of_none hgv3 hwi⟩
        obtain ⟨gv, hgv4, hga4⟩ := p4.gl
        refine ⟨_, rfl, g, gv, rfl, SqL.of hgv4, for_it (walk_enum (K := K) (a := g) (xs := gv)) (fun i σ H5 => ∃ (k3 s6 s7 s8 s9 : Option V) (ws : List Wr), σ = [some (.ref wl), some (.int m), some (.ref g), k3, some (.ref st), some (.ref wi), s6, s7, s8, s9, none, none, none, none] ∧
            PS2 K wl H H5 g st wi gs sts ws ∧ WInv gs ws i ∧ H5 g = some (.lst gv) ∧ All2 (GateV K H5) gv gs)
          ⟨_, _, _, _, _, [], rfl, p4, ⟨by simp, by simp, by simp, by simp, by simp⟩, hgv4, hga4⟩ (fun i σ H5 _ ⟨_, _, _, _, _, _, _, _, _, e, _⟩ => SqL.of e) ?_ ?_⟩
        · rintro i x σ H5 H5' hi ⟨k3, s6, s7, s8, s9, ws, rfl, p5, hW, hg5, ha5⟩ ⟨T, x1, y, rfl, hT, rfl, ex, ey⟩
          cases ex
          have hlg : gv.length = gs.length := ha5.1
          obtain ⟨gt, hgt, ga, rfl, sq⟩ := ha5.get ey
          have d6 : Dr wl H5 (upd H5 T (.tup [.int (i : Nat), .ref ga])) := Dr.new p5.dr.well hT
          have t6 : TK H5 (upd H5 T (.tup [.int (i : Nat), .ref ga])) := TK.new hT
          refine ⟨T, _, rfl, .inl (.inl upd_same), rfl, _, _, rfl, _, _, rfl, ga, _, rfl, t6.seq sq, rfl, _, _, rfl, _, _, rfl, rfl, rfl, ?_⟩
          have p6 := p5.step d6
          -- many = {..}.get(kind, draw(well, 4))
          intro p hp
          have d7 := Dr.new (o := .dK []) p6.dr.well hp
          have npw : p ≠ wl := (p6.dr.well.ne hp).symm
          refine ⟨_, rfl, wl, 2, rfl, by decide, by decide, d7.well, fun d2 H7 a2 b2 E2 => ⟨_, _, rfl, rfl, ?_⟩⟩
          have d8 := d7.trans E2
          refine ⟨E2.but _ _ npw upd_same, [(Sum.inr "in", V.int 0), (Sum.inr "out", V.int 1), (Sum.inr "first", V.int (1 + d2))], rfl, (by show 3 ≤ 15; decide), ?_⟩
          have np5 := hp
          have d9 : Dr wl (upd H5 T (.tup [.int (i : Nat), .ref ga])) (upd H7 p (.dK (mergeK [] [(Sum.inr "in", V.int 0), (Sum.inr "out", V.int 1), (Sum.inr "first", V.int (1 + d2))]))) := set_well d8 hp npw
          refine ⟨p, rfl, .inl ⟨_, .inl upd_same⟩, _, rfl, _, rfl, wl, 4, rfl, by decide, by decide, d9.well, fun d4 H8 a4 b4 E4 => ?_⟩
          have d10 := d9.trans E4
          refine ⟨_, .inl ⟨_, Sum.inr gt.1, .inl (E4.but _ _ npw upd_same), rfl, rfl⟩, ?_⟩
          obtain ⟨mm, hmm, mm0, mm3, mi, mo, mf⟩ := many_ok gt.1 d2 d4 a2 b2 a4 b4
          rw [hmm]
          have p8 := p6.step d10
          have hk : kindAt gs i = gt.1 := kindAt_get hgt
          have hg8 : H8 g = some (.lst gv) := d10.but _ _ (p6.w0.ne p6.gn).symm (d6.but _ _ (p6.w0.ne p6.gn).symm hg5)
          have t8 : TK H5 H8 := t6.trans (TK.dr p6.dr.well d10.but)
          refine ⟨_, rfl, mm, rfl, by omega, by omega, for_range (lo := 0) (n := mm.toNat) (fun j σ H9 => ∃ (k3 : Option V) (ws : List Wr), σ = [some (.ref wl), some (.int m), some (.ref g), k3, some (.ref st), some (.ref wi), some (.int (i : Nat)), some (.str gt.1), some (.int gt.2), some (.int mm), none, none, none, none] ∧
              PS2 K wl H H9 g st wi gs sts ws ∧ WInv2 gs ws i j ∧ H9 g = some (.lst gv) ∧ All2 (GateV K H9) gv gs)
            ⟨_, ws, rfl, p8, hW.go, hg8, ha5.imp fun _ _ r => r.tk t8⟩ ?_ ?_⟩
          · rintro j σ H9 hj ⟨k3, ws, rfl, p9, hW2, hg9, ha9⟩
            obtain ⟨wv, hwv, hwa⟩ := p9.wv
            have nwl : wi ≠ wl := (p9.w0.ne p9.wn).symm
            refine ⟨_, rfl, .inl ⟨rfl, _, SqL.of hwv⟩, _, rfl, _, rfl, _, rfl, wl, st, _, rfl, (p9.w0.ne p9.sn).symm, p9.dr.well, SqL.of p9.sl, by simpa using hsne, by rw [List.length_map]; omega, fun v H10 hv E10 => ?_⟩
            obtain ⟨a, hak, rfl⟩ := List.mem_map.mp hv
            have p10 := p9.step E10
            refine ⟨_, rfl, wl, a, i, rfl, p10.dr.well, fun r v H11 rok rlen rne E11 hx => ?_⟩
            have p11 := p10.step E11
            have hwv11 := E11.but _ _ nwl (E10.but _ _ nwl hwv)
            have hlw : wv.length = ws.length := hwa.1
            have hg11 := E11.but _ _ (p9.w0.ne p9.gn).symm (E10.but _ _ (p9.w0.ne p9.gn).symm hg9)
            have t11 : TK H9 H11 := (TK.dr p9.dr.well E10.but).trans (TK.dr p10.dr.well E11.but)
            have hil : i < gs.length := by omega
            refine ⟨wi, wv, _, rfl, rfl, hwv11, small1000 (by have := hW2.len; omega), _, ws ++ [(a, i, r)], rfl, p11.app hwv11 hx, hW2.app ⟨(hsk a hak).1, hil, (hsk a hak).2, ?_, rok, by show r.length ≤ 100; omega⟩ ?_ rfl rlen, by rw [upd_ne p9.ngw]; exact hg11, (ha9.imp fun _ _ r => r.tk t11).imp fun _ _ r => r.tk (TK.lst hwv11)⟩
            · show kindAt gs i ≠ "in"
              intro z
              have := mi (by rw [← hk]; exact z)
              omega
            · intro z
              show a < i
              exact Nat.lt_of_not_le fun z2 => rne z2 z
          · rintro σ H9 ⟨k3, ws, rfl, p9, hW2, hg9, ha9⟩
            refine ⟨_, _, _, _, _, ws, rfl, p9, hW2.done (fun z => ?_) (fun z => ?_) (by omega), hg9, ha9⟩
            · have := mo (by rw [← hk]; exact z)
              omega
            · have := mf (by rw [← hk]; exact z)
              omega
        · rintro σ H5 ⟨k3, s6, s7, s8, s9, ws, rfl, p5, hW, hg5, ha5⟩
          have hlg : gv.length = gs.length := ha5.1
          rw [hlg] at hW
          have N : NetOk gs ws := hW.net (by intro z; rw [z] at hpos; simp at hpos) (by omega) p5.gok
          obtain ⟨wv, hwv, hwa⟩ := p5.wv
          have hlw : wv.length = ws.length := hwa.1
          have hws := N.wl
          have nwl : wi ≠ wl := (p5.w0.ne p5.wn).symm
          -- left = list(wires)
          refine ⟨_, rfl, wi, wv, rfl, .inl (SqL.of hwv), fun L hL => ?_⟩
          have d6 : Dr wl H5 (upd H5 L (.lst wv)) := Dr.new p5.dr.well hL
          have p6 := p5.step d6
          have hL0 : H L = none := p5.dr.free hw hL
          have nLw : L ≠ wl := (p5.dr.well.ne hL).symm
          have nwL : wi ≠ L := ne_of_none hwv hL
          have ngL : g ≠ L := ne_of_none hg5 hL
          -- if draw(well, 2) == 0: wires = [..]
          refine ⟨fun σ H7 => ∃ (wi' L' : Addr) (wv' : List V) (ws' : List Wr), σ = [some (.ref wl), some (.int m), some (.ref g), k3, some (.ref st), some (.ref wi'), s6, s7, s8, s9, some (.ref L'), none, none, none] ∧
            H7 wi' = some (.lst wv') ∧ All2 (WireV K H7) wv' ws' ∧ ws'.Perm ws ∧ PS1 K wl H H7 g gs ∧ H wi' = none, ?_, ?_⟩
          · refine ⟨_, rfl, wl, 2, rfl, by decide, by decide, p6.dr.well, fun d H7 d0 d1 E7 => ⟨rfl, _, rfl, ite2 (fun e => ?_) (fun e => ?_)⟩⟩
            · have p7 := p6.step E7
              have hL7 : H7 L = some (.lst wv) := E7.but _ _ nLw upd_same
              have t7 : TK H5 H7 := (TK.new hL).trans (TK.dr p6.dr.well E7.but)
              refine popAll (K := K) (wl := wl) (L := L) (vs := wv) rfl rfl hL7 E7.well nLw (by omega) fun D wv' H8 pm hD hD8 hk8 hw8 => ?_
              obtain ⟨ws', pw, hwa'⟩ := (hwa.imp fun _ _ r => r.tk t7).perm pm
              exact ⟨D, L, wv', ws', rfl, hD8, hwa'.imp fun _ _ r => r.tk (TK.two E7.well hL7 hk8), pw, p7.toPS1.two hL7 hL0 ngL hk8 hw8, p7.dr.free hw hD⟩
            · have p7 := p6.step E7
              have t7 : TK H5 H7 := (TK.new hL).trans (TK.dr p6.dr.well E7.but)
              exact ⟨wi, L, wv, ws, rfl, E7.but _ _ nwl (by rw [upd_ne nwL]; exact hwv), hwa.imp fun _ _ r => r.tk t7, .refl _, p7.toPS1, p5.wn⟩
          · rintro σ H7 ⟨wi', L', wv', ws', rfl, hwv', hwa', pw, p7, hwi0⟩
            obtain ⟨gv7, hg7, ha7⟩ := p7.gl
            have hlg7 : gv7.length = gs.length := ha7.1
            have nwl' : wi' ≠ wl := (hw.ne hwi0).symm
            -- left = list(range(len(gates)))
            refine ⟨_, rfl, g, gv7, rfl, .inl (SqL.of hg7), _, rfl, RgOk.of_le (by omega) (by omega) (by omega) (by omega), fun L2 hL2 => ?_⟩
            rw [rgV_nat, hlg7]
            have d8 : Dr wl H7 (upd H7 L2 (.lst ((List.range gs.length).map fun i => V.int (i : Nat)))) := Dr.new p7.dr.well hL2
            have p8 := p7.step d8
            have hL20 : H L2 = none := p7.dr.free hw hL2
            have nL2w : L2 ≠ wl := (p7.dr.well.ne hL2).symm
            have nwL2 : wi' ≠ L2 := ne_of_none hwv' hL2
            have ngL2 : g ≠ L2 := ne_of_none hg7 hL2
            refine ⟨fun σ H9 => ∃ (L3 : Addr) (left : List Nat), σ = [some (.ref wl), some (.int m), some (.ref g), k3, some (.ref st), some (.ref wi'), s6, s7, s8, s9, some (.ref L3), none, none, none] ∧
              H9 L3 = some (.lst (left.map fun i => V.int (i : Nat))) ∧ left.Perm (List.range gs.length) ∧ H9 wi' = some (.lst wv') ∧ All2 (WireV K H9) wv' ws' ∧ PS1 K wl H H9 g gs, ?_, ?_⟩
            · refine ⟨_, rfl, wl, 2, rfl, by decide, by decide, p8.dr.well, fun d H9 d0 d1 E9 => ⟨rfl, _, rfl, ite2 (fun e => ?_) (fun e => ?_)⟩⟩
              · have p9 := p8.step E9
                have hL9 : H9 L2 = some (.lst ((List.range gs.length).map fun i => V.int (i : Nat))) := E9.but _ _ nL2w upd_same
                have t9 : TK H7 H9 := (TK.new hL2).trans (TK.dr p8.dr.well E9.but)
                have hw9 : H9 wi' = some (.lst wv') := E9.but _ _ nwl' (by rw [upd_ne nwL2]; exact hwv')
                refine popAll (K := K) (wl := wl) (L := L2) rfl rfl hL9 E9.well nL2w (by simp; omega) fun D vs' H10 pm hD hD10 hk10 hw10 => ?_
                obtain ⟨left, pl, al⟩ := (eq_all2 (f := fun i : Nat => V.int (i : Nat)) (List.range gs.length)).perm pm
                refine ⟨D, left, rfl, by rw [← all2_eq al]; exact hD10, pl, hk10 _ _ nwl' nwL2 hw9, (hwa'.imp fun _ _ r => r.tk t9).imp fun _ _ r => r.tk (TK.two E9.well hL9 hk10), p9.two hL9 hL20 ngL2 hk10 hw10⟩
              · have p9 := p8.step E9
                have t9 : TK H7 H9 := (TK.new hL2).trans (TK.dr p8.dr.well E9.but)
                exact ⟨L2, List.range gs.length, rfl, E9.but _ _ nL2w upd_same, .refl _, E9.but _ _ nwl' (by rw [upd_ne nwL2]; exact hwv'), hwa'.imp fun _ _ r => r.tk t9, p9⟩
            · rintro σ H9 ⟨L3, left, rfl, hL3, pl, hw9, hwa9, p9⟩
              obtain ⟨gv9, hg9, ha9⟩ := p9.gl
              have hlg9 : gv9.length = gs.length := ha9.1
              have hll : left.length = gs.length := by rw [pl.length_eq, List.length_range]
              have ndl : left.Nodup := pl.nodup_iff.mpr List.nodup_range
              have memb : ∀ k, k ∈ left → k < gs.length := fun k hk => List.mem_range.mp (pl.mem_iff.mp hk)
              have memr : ∀ k, k < gs.length → k ∈ left := fun k hk => pl.mem_iff.mpr (List.mem_range.mpr hk)
              have hlw9 : wv'.length = ws'.length := hwa9.1
              have hlws : ws'.length = ws.length := pw.length_eq
              -- [gates[k] for k in left]
              refine ⟨_, rfl, L3, rfl, ⟨_, SqL.of hL3⟩, fun D4 hD4 => ?_⟩
              refine lc_list (K := K) (a := L3) (xs := left.map fun i => V.int (i : Nat)) (fun i Hc => ∃ acc, Hc D4 = some (.lst acc) ∧ acc.length = i ∧ All2 (GateV K H9) acc ((left.take i).map fun k => gs.getD k ("", 0)) ∧ Same H9 Hc)
                ⟨[], upd_same, rfl, by simpa using All2.nil, same_new hD4⟩ (fun i Hc _ ⟨_, _, _, _, sm⟩ => sm.seq (SqL.of hL3)) ?_ ?_
              · rintro i x Hc hx ⟨acc, hacc, hal, haa, sm⟩
                rw [List.getElem?_map] at hx
                cases ek : left[i]? with
                | none =>
                  rw [ek] at hx
                  cases hx
                | some k =>
                rw [ek] at hx
                cases hx
                have hk : k < gs.length := memb k (List.mem_of_getElem? ek)
                have hi : i < left.length := (List.getElem?_eq_some_iff.mp ek).1
                refine ⟨rfl, tyes ?_⟩
                refine ⟨_, rfl, _, rfl, g, gv9, k, gv9[k]'(by omega), rfl, rfl, sm.seq (SqL.of hg9), atI_nat (List.getElem?_eq_getElem (by omega)), acc, hacc, small1000 (by omega), acc ++ [gv9[k]'(by omega)], upd_same, by simp [hal], ?_, same_mut sm hD4⟩
                rw [List.take_add_one, ek, List.map_append]
                refine haa.snoc ?_
                show GateV K H9 _ (gs.getD k ("", 0))
                rw [List.getD_eq_getElem?_getD, List.getElem?_eq_getElem hk]
                exact ha9.2 k _ _ (List.getElem?_eq_getElem (by omega)) (List.getElem?_eq_getElem hk)
              · rintro H10 ⟨gacc, hgacc, hgl4, hga4', sm10⟩
                rw [List.length_map] at hgl4 hga4'
                rw [List.take_length] at hga4'
                -- the wires
                refine ⟨_, rfl, wi', rfl, ⟨_, SqL.of (sm10 _ _ hw9)⟩, fun D5 hD5 => ?_⟩
                refine lc_list (K := K) (a := wi') (xs := wv') (fun i Hc => ∃ acc, Hc D5 = some (.lst acc) ∧ acc.length = i ∧ All2 (WireV K Hc) acc ((ws'.take i).map fun x => (left.idxOf x.1, left.idxOf x.2.1, x.2.2)) ∧ Same H10 Hc)
                  ⟨[], upd_same, rfl, by simpa using All2.nil, same_new hD5⟩ (fun i Hc _ ⟨_, _, _, _, sm⟩ => sm.seq (SqL.of (sm10 _ _ hw9))) ?_ ?_
                · rintro i x Hc hx ⟨acc, hacc, hal, haa, sm⟩
                  obtain ⟨y, hy, xa, xb, rfl, sq1, sq2⟩ := hwa9.get hx
                  have hyi : i < ws'.length := (List.getElem?_eq_some_iff.mp hy).1
                  have W := N.wok y (pw.mem_iff.mp (List.mem_of_getElem? hy))
                  have tc : TK H9 Hc := TK.same (sm10.trans sm)
                  have hL3c : SqL K Hc L3 (left.map fun i => V.int (i : Nat)) := SqL.of (sm _ _ (sm10 _ _ hL3))
                  refine ⟨xa, _, rfl, tc.seq sq1, rfl, _, _, rfl, _, _, rfl, _, _, rfl, rfl, rfl, tyes ?_⟩
                  refine ⟨_, rfl, .inl ⟨rfl, _, hL3c⟩, _, rfl, L3, _, _, left.idxOf y.1, _, rfl, rfl, hL3c, rfl, flat_ints _, idx_at (memr _ W.s), by rw [eqV_int]; exact decide_eq_true rfl, fun mm z hm hz => idx_no ndl hm hz, ?_⟩
                  refine ⟨_, rfl, .inl ⟨rfl, _, hL3c⟩, _, rfl, L3, _, _, left.idxOf y.2.1, _, rfl, rfl, hL3c, rfl, flat_ints _, idx_at (memr _ W.e), by rw [eqV_int]; exact decide_eq_true rfl, fun mm z hm hz => idx_no ndl hm hz, ?_⟩
                  refine ⟨_, rfl, (by show 3 ≤ sizeLine; decide), fun t ht => ?_⟩
                  have smt : Same Hc (upd Hc t (.tup [.int (left.idxOf y.1 : Nat), .int (left.idxOf y.2.1 : Nat), .ref xb])) := same_new ht
                  have hDt : (upd Hc t (.tup [.int (left.idxOf y.1 : Nat), .int (left.idxOf y.2.1 : Nat), .ref xb])) D5 = some (.lst acc) := smt _ _ hacc
                  have ntD : t ≠ D5 := fun z => by
                    rw [z, hacc] at ht
                    cases ht
                  refine ⟨acc, hDt, small1000 (by omega), acc ++ [.ref t], upd_same, by simp [hal], ?_, same_mut (sm.trans smt) hD5⟩
                  have t2 : TK Hc (upd (upd Hc t (.tup [.int (left.idxOf y.1 : Nat), .int (left.idxOf y.2.1 : Nat), .ref xb])) D5 (.lst (acc ++ [.ref t]))) := (TK.new ht).trans (TK.lst hDt)
                  rw [List.take_add_one, hy, List.map_append]
                  refine (haa.imp fun _ _ r => r.tk t2).snoc ⟨t, xb, rfl, .inl (.inl (by rw [upd_ne ntD]; exact upd_same)), (tc.trans t2).seq sq2⟩
                · rintro H11 ⟨wacc, hwacc, hwl5, hwa5, sm11⟩
                  rw [hlw9, List.take_length] at hwa5
                  refine ⟨(by show 2 ≤ sizeLine; decide), fun p hp => ?_⟩
                  have smp : Same H11 (upd H11 p (.tup [.ref D4, .ref D5])) := same_new hp
                  have s9 : Same H9 (upd H11 p (.tup [.ref D4, .ref D5])) := (sm10.trans sm11).trans smp
                  have n45 : D4 ≠ D5 := ne_of_none hgacc hD5
                  refine q _ _ D4 D5 p _ (N.anew pl pw) (by rw [List.length_map, hll]; exact hn) (fun x hx => by obtain ⟨y, hy, rfl⟩ := List.mem_map.mp hx; exact hW.r2 y (pw.mem_iff.mp hy)) (by rw [List.length_map, hlws]; have := hW.len; omega) (p9.dr.trans ⟨But.same s9, p9.dr.well.same s9⟩) (p9.dr.free hw hD4) (p9.dr.free hw (sm10.free hD5)) n45 ⟨gacc, smp _ _ (sm11 _ _ hgacc), hga4'.imp fun _ _ r => r.tk (TK.same s9)⟩ ⟨wacc, smp _ _ hwacc, hwa5.imp fun _ _ r => r.tk (TK.same smp)⟩ upd_same
end
end Lag

set_option maxRecDepth 100000
set_option maxHeartbeats 4000000
namespace Lag
open PySem PySem.Spec PyProof.Rows L2
abbrev sWhole : Stmt := topS 8
abbrev sFromTo : Stmt := topS 9
abbrev sWorth : Stmt := topS 10
abbrev sIsGate : Stmt := topS 22
abbrev sChkGates : Stmt := topS 21
/-! ### o[i] of a list, by values -/
def rGetL (K : PySem.W.Frag) : V → V → Hp → VK → Prop := fun o i H Q => ∃ (p : Addr) (xs : List V) (j : Nat) (v : V), o = .ref p ∧ i = .int (j : Nat) ∧ SqL K H p xs ∧ xs[j]? = some v ∧ Q v H
theorem get_list {X : Cx} : PGet X (rGetL X.K) := by
  intro pins s σ H o i ov iv Q I ro ri h
  obtain ⟨p, xs, j, v, rfl, rfl, hq, he, q⟩ := h
  cases ro
  obtain ⟨t, rfl⟩ := ri
  obtain ⟨its, r, pl, hz⟩ := I.list hq
  obtain ⟨w, ew, rw'⟩ := r.get he
  have hl := r.length
  have hn := line63
  have hj : j < its.length := (List.getElem?_eq_some_iff.mp ew).1
  exact wpAny_getItem_list pl.isList (by omega) (by omega) (by simpa using ew) ⟨v, H, I, rw', q⟩
/-! ### names of built-ins, constants of the text -/
structure Bt (mg : Str → Option Value) : Prop where
  isi : mg "isinstance" = none
  int : mg "int" = none
  bool : mg "bool" = none
  len : mg "len" = none
  tuple : mg "tuple" = none
  str : mg "str" = none
  list : mg "list" = none
  all : mg "all" = none
  enum : mg "enumerate" = none
  zip : mg "zip" = none
  range : mg "range" = none
  max : mg "max" = none
structure Cns (K : PySem.W.Frag) (mg : Str → Option Value) (aK aW aF : Addr) : Prop where
  gw : ∃ t, mg "GREATEST_WORTH" = some (.int 96 t)
  ga : ∃ t, mg "GREATEST_WAIT" = some (.int 100 t)
  mK : mg "KINDS" = some (.ref aK)
  sK : ∀ H, SqT K H aK (kinds.map V.str)
  mW : mg "OUTER_KINDS" = some (.ref aW)
  sW : ∀ H, SqT K H aW [.str "in", .str "out"]
  mF : mg "KINDS_WITH_A_WIRE" = some (.ref aF)
  sF : ∀ H, SqT K H aF [.str "out", .str "first"]
theorem ty_tup {K : PySem.W.Frag} {H : Hp} {a : Addr} {xs : List V} (h : SqT K H a xs) : TyX K H (.ref a) (.type "tuple") := by
  rcases h with (h | ⟨o, h⟩) | ⟨o, its, n, hk, hc, _⟩
  · exact .base (.tup h)
  · exact .fTuple h
  · exact .kTuple hk hc
theorem ty_lst {K : PySem.W.Frag} {H : Hp} {a : Addr} {xs : List V} (h : SqL K H a xs) : TyX K H (.ref a) (.type "list") := by
  rcases h with (h | ⟨o, h⟩) | ⟨o, its, n, hk, hc, _⟩
  · exact .base (.lst h)
  · exact .base (.frz h)
  · exact .kList hk hc
/-! ### promises -/
def spWhole : Sp := fun vs H Q _ => ∃ n : Int, vs = [.int n] ∧ Q (.bl true) H
def spFromTo : Sp := fun vs H Q _ => ∃ n a b : Int, vs = [.int n, .int a, .int b] ∧ Q (.bl (decide (a ≤ n) && decide (n ≤ b))) H
def spWorth : Sp := fun vs H Q _ => ∃ n : Int, vs = [.int n] ∧ Q (.bl (decide (0 ≤ n) && decide (n ≤ 96))) H
def spIsGate (K : PySem.W.Frag) : Sp := fun vs H Q _ => ∃ (v : V) (g : Gt), vs = [v] ∧ GateV K H v g ∧ GOk g ∧ ∀ H', Same H H' → Q (.bl true) H'
/-- lists that are read -/
def RG (K : PySem.W.Frag) (H : Hp) (l : Addr) (gs : List Gt) : Prop := ∃ vs, SqL K H l vs ∧ All2 (GateV K H) vs gs
def RW (K : PySem.W.Frag) (H : Hp) (l : Addr) (ws : List Wr) : Prop := ∃ vs, SqL K H l vs ∧ All2 (WireV K H) vs ws
theorem RG.same {K : PySem.W.Frag} {H H' : Hp} {l : Addr} {gs : List Gt} (h : RG K H l gs) (s : Same H H') : RG K H' l gs := by
  obtain ⟨vs, q, a⟩ := h
  exact ⟨vs, s.seq q, a.imp fun _ _ r => r.tk (TK.same s)⟩
theorem RW.same {K : PySem.W.Frag} {H H' : Hp} {l : Addr} {ws : List Wr} (h : RW K H l ws) (s : Same H H') : RW K H' l ws := by
  obtain ⟨vs, q, a⟩ := h
  exact ⟨vs, s.seq q, a.imp fun _ _ r => r.tk (TK.same s)⟩
def spChkGates (K : PySem.W.Frag) : Sp := fun vs H Q _ => ∃ (l : Addr) (gs : List Gt), vs = [.ref l] ∧ RG K H l gs ∧ gs ≠ [] ∧ (∀ g ∈ gs, GOk g) ∧ ∀ H', Same H H' → Q .non H'
section
variable {P : Program} {w : World} {K : PySem.W.Frag} {mg : Str → Option Value} {base : Heap}
/-! ### is_whole, is_whole_from_to, is_worth -/
theorem scWhole : FnScope ["thing"] ["thing"] (defScope sWhole) := ⟨rfl, rfl, rfl, by decide +kernel, rfl, by decide +kernel, by decide +kernel⟩
abbrev DWhole (P : Program) (w : World) (K : PySem.W.Frag) (mg : Str → Option Value) (base : Heap) := Df P w K mg base 1 "is_whole" ["thing"] spWhole
theorem ok_whole {f : Addr} {fd : FuncData} (F : Fun K "is_whole" "is_whole" sWhole f fd) (hm : mg "is_whole" = some (.ref f)) (B : Bt mg) : DWhole P w K mg base f fd := by
  refine ⟨?_, hm, F.kp, F.binds fun _ _ _ _ _ _ us hl => match us, hl with | [_], _ => rfl⟩
  refine F.ok scWhole (fun vs H Q E h => ?_) (fun cdv A outer s H vs Q E hr h => ?_)
  · obtain ⟨n, rfl, _⟩ := h
    rfl
  · obtain ⟨n, rfl, q⟩ := h
    refine ⟨_, pss_one <| ps_ret <| pe_and (pe_callB call_isi (by rfl) B.isi (by decide +kernel) (pa_cons (pv 0) (pa_cons (pe_bltn (v := .ty "int") (by rfl) B.int (by decide +kernel) rfl) pa_nil)))
      (pe_one (pe_not (pe_callB call_isi (by rfl) B.isi (by decide +kernel) (pa_cons (pv 0) (pa_cons (pe_bltn (v := .ty "bool") (by rfl) B.bool (by decide +kernel) rfl) pa_nil))))), ?_⟩
    refine ⟨_, rfl, _, _, _, _, true, rfl, .ty "int", .base (.int n), kit_ty (by decide +kernel), true, rfl, iteT ?_⟩
    exact ⟨_, rfl, _, _, _, _, false, rfl, .ty "bool", .base (.int n), kit_ty (by decide +kernel), false, rfl, q⟩
theorem scFromTo : FnScope ["thing", "least", "greatest"] ["thing", "least", "greatest"] (defScope sFromTo) := ⟨rfl, rfl, rfl, by decide +kernel, rfl, by decide +kernel, by decide +kernel⟩
abbrev DFromTo (P : Program) (w : World) (K : PySem.W.Frag) (mg : Str → Option Value) (base : Heap) := Df P w K mg base 2 "is_whole_from_to" ["thing", "least", "greatest"] spFromTo
theorem ok_fromTo {f fW : Addr} {fd fdW : FuncData} (F : Fun K "is_whole_from_to" "is_whole_from_to" sFromTo f fd) (hm : mg "is_whole_from_to" = some (.ref f)) (DW : DWhole P w K mg base fW fdW) : DFromTo P w K mg base f fd := by
  refine ⟨?_, hm, F.kp, F.binds fun _ _ _ _ _ _ us hl => match us, hl with | [_, _, _], _ => rfl⟩
  refine F.ok scFromTo (fun vs H Q E h => ?_) (fun cdv A outer s H vs Q E hr h => ?_)
  · obtain ⟨n, a, b, rfl, _⟩ := h
    rfl
  · obtain ⟨n, a, b, rfl, q⟩ := h
    refine ⟨_, pss_one <| ps_ret <| pe_and (pe_call DW.ok hr (by rfl) DW.mg DW.kp DW.bd .nil pass0 (pa_cons (pv 0) pa_nil)) (pe_one (pe_chain op_le op_le (pv 1) (pv 0) (pv 2))), ?_⟩
    refine ⟨_, rfl, n, rfl, true, rfl, iteT ?_⟩
    refine ⟨_, rfl, _, rfl, _, _, rfl, rfl, _, rfl, ?_⟩
    cases e : decide (a ≤ n) with
    | false =>
      rw [e] at q
      exact iteF q
    | true =>
      rw [e] at q
      exact iteT ⟨_, rfl, _, _, rfl, rfl, q⟩
theorem scWorth : FnScope ["thing"] ["thing"] (defScope sWorth) := ⟨rfl, rfl, rfl, by decide +kernel, rfl, by decide +kernel, by decide +kernel⟩
abbrev DWorth (P : Program) (w : World) (K : PySem.W.Frag) (mg : Str → Option Value) (base : Heap) := Df P w K mg base 3 "is_worth" ["thing"] spWorth
theorem ok_worth {f fF aK aW aF : Addr} {fd fdF : FuncData} (F : Fun K "is_worth" "is_worth" sWorth f fd) (hm : mg "is_worth" = some (.ref f)) (C : Cns K mg aK aW aF) (DF : DFromTo P w K mg base fF fdF) : DWorth P w K mg base f fd := by
  obtain ⟨tg, hgw⟩ := C.gw
  refine ⟨?_, hm, F.kp, F.binds fun _ _ _ _ _ _ us hl => match us, hl with | [_], _ => rfl⟩
  refine F.ok scWorth (fun vs H Q E h => ?_) (fun cdv A outer s H vs Q E hr h => ?_)
  · obtain ⟨n, rfl, _⟩ := h
    rfl
  · obtain ⟨n, rfl, q⟩ := h
    refine ⟨_, pss_one <| ps_ret <| pe_call DF.ok hr (by rfl) DF.mg DF.kp DF.bd .nil pass0 <| pa_cons (pv 0) <| pa_cons pe_int <| pa_cons (pe_glob (v := .int 96) (by rfl) hgw ⟨_, rfl⟩) pa_nil, ?_⟩
    exact ⟨_, rfl, n, 0, 96, rfl, q⟩
/-! ### is_gate -/
theorem scIsGate : FnScope ["thing", "kind", "wait"] ["thing"] (defScope sIsGate) := ⟨rfl, rfl, rfl, by decide +kernel, rfl, by decide +kernel, by decide +kernel⟩
abbrev DIsGate (P : Program) (w : World) (K : PySem.W.Frag) (mg : Str → Option Value) (base : Heap) := Df P w K mg base 3 "is_gate" ["thing"] (spIsGate K)
theorem kinds_in {k : Str} (h : k ∈ kinds) : inV (.str k) (kinds.map V.str) = true := by
  unfold inV
  rw [List.any_eq_true]
  exact ⟨.str k, List.mem_map.mpr ⟨k, h, rfl⟩, beq_self_eq_true k⟩
theorem flat_strs (l : List Str) : (l.map V.str).all flatV = true := by
  rw [List.all_eq_true]
  intro x hx
  obtain ⟨i, _, rfl⟩ := List.mem_map.mp hx
  rfl
theorem ok_isGate {f fF aK aW aF : Addr} {fd fdF : FuncData} (F : Fun K "is_gate" "is_gate" sIsGate f fd) (hm : mg "is_gate" = some (.ref f)) (B : Bt mg) (C : Cns K mg aK aW aF) (DF : DFromTo P w K mg base fF fdF) : DIsGate P w K mg base f fd := by
  obtain ⟨tg, hga⟩ := C.ga
  refine ⟨?_, hm, F.kp, F.binds fun _ _ _ _ _ _ us hl => match us, hl with | [_], _ => rfl⟩
  refine F.ok scIsGate (fun vs H Q E h => ?_) (fun cdv A outer s H vs Q E hr h => ?_)
  · obtain ⟨v, g, rfl, _⟩ := h
    rfl
  · obtain ⟨v, g, rfl, ⟨a, rfl, sq⟩, gok, q⟩ := h
    have nd := scIsGate.nd
    refine ⟨_, pss_cons (ps_if (PW.pt (pw_or (pt_not (pt_val (pe_callB call_isi (by rfl) B.isi (by decide +kernel) (pa_cons (pv 0) (pa_cons (pe_bltn (v := .ty "tuple") (by rfl) B.tuple (by decide +kernel) rfl) pa_nil)))))
          (pw_or1 (pt_cmpR op_ne (pe_callB call_len_seq (by rfl) B.len PySem.boot_len (pa_cons (pv 0) pa_nil)) pe_int (nomark _))))) (pss_one (ps_ret pe_bl)) pss_nil) <|
      pss_cons (ps_asg (pv 0) (pg_tup (by rfl) (pgs_cons (pg_name (i := 1) nd rfl (.inl rfl)) (pgs_cons (pg_name (i := 2) nd rfl (.inl rfl)) pgs_nil)))) <|
      pss_cons (ps_if (PW.pt (pw_or (pt_not (pt_val (pe_callB call_isi (by rfl) B.isi (by decide +kernel) (pa_cons (pv 1) (pa_cons (pe_bltn (v := .ty "str") (by rfl) B.str (by decide +kernel) rfl) pa_nil)))))
          (pw_or1 (pt_cmpR op_notIn_seq (pv 1) (pe_glob (v := .ref aK) (by rfl) C.mK rfl) (by rfl))))) (pss_one (ps_ret pe_bl)) pss_nil) <|
      pss_one <| ps_ret <| pe_call DF.ok hr (by rfl) DF.mg DF.kp DF.bd .nil pass0 <| pa_cons (pv 2) <| pa_cons pe_int <| (pa_cons · pa_nil) <|
        pe_ifExp (pt_cmpR op_in_seq (pv 1) (pe_glob (v := .ref aW) (by rfl) C.mW rfl) (by rfl)) pe_int (pe_glob (v := .int 100) (by rfl) hga ⟨_, rfl⟩), ?_⟩
    refine ⟨_, rfl, _, _, _, _, true, rfl, .ty "tuple", ty_tup sq, kit_ty (by decide +kernel), true, rfl, ?_⟩
    refine iteF ⟨_, rfl, a, _, rfl, .inr sq, rfl, _, rfl, iteF ?_⟩
    refine ⟨_, rfl, a, _, rfl, sq, rfl, _, _, rfl, _, _, rfl, rfl, ?_⟩
    refine ⟨_, rfl, _, _, _, _, true, rfl, .ty "str", .base (.str g.1), kit_ty (by decide +kernel), true, rfl, ?_⟩
    refine iteF ⟨_, rfl, aK, _, rfl, .inr (C.sK H), rfl, flat_strs _, false, ?_, iteF ?_⟩
    · show V.bl (!inV (V.str g.1) (kinds.map V.str)) = V.bl false
      rw [kinds_in gok.1]
      rfl
    refine ⟨_, rfl, _, rfl, aW, _, rfl, .inr (C.sW H), rfl, rfl, _, rfl, ite2 (fun e => ?_) (fun e => ?_)⟩
    · have hp : portK g.1 := by
        have e' : inV (V.str g.1) [V.str "in", V.str "out"] = true := e
        unfold inV at e'
        rw [List.any_eq_true] at e'
        obtain ⟨x, hx, hxe⟩ := e'
        simp only [List.mem_cons, List.not_mem_nil, or_false] at hx
        rcases hx with rfl | rfl
        · exact .inl (eq_of_beq hxe).symm
        · exact .inr (eq_of_beq hxe).symm
      have h0 := gok.2.2.2 hp
      refine ⟨g.2, 0, 0, rfl, ?_⟩
      rw [h0]
      exact q H (Same.refl H)
    · refine ⟨g.2, 0, 100, rfl, ?_⟩
      rw [decide_eq_true gok.2.1, decide_eq_true gok.2.2.1]
      exact q H (Same.refl H)
end
end Lag

set_option maxRecDepth 100000
set_option maxHeartbeats 4000000
namespace Lag
open PySem PySem.Spec PyProof.Rows L2
abbrev sIsWire : Stmt := topS 24
abbrev sTaken : Stmt := topS 25
def spIsWire (K : PySem.W.Frag) : Sp := fun vs H Q _ => ∃ (v : V) (x : Wr) (n : Nat), vs = [v, .int (n : Nat)] ∧ WireV K H v x ∧ x.1 < n ∧ x.2.1 < n ∧ ROk x.2.2 ∧ x.2.2.length ≤ 1000 ∧ ∀ H', Same H H' → Q (.bl true) H'
def spTaken (K : PySem.W.Frag) : Sp := fun vs H Q _ => ∃ (v : V) (x : Wr) (lg lc : Addr) (gs : List Gt) (cs : List Nat), vs = [v, .ref lg, .ref lc] ∧ WireV K H v x ∧ RG K H lg gs ∧ SqL K H lc (cs.map fun i => V.int (i : Nat)) ∧ WOk gs x ∧ cs.length = gs.length ∧
  (kindAt gs x.2.1 = "out" → cs[x.2.1]? = some 0) ∧ Q (.bl true) H
section
variable {P : Program} {w : World} {K : PySem.W.Frag} {mg : Str → Option Value} {base : Heap}
/-! ### check_gates -/
theorem scChkGates : FnScope ["gates", "thing"] ["gates"] (defScope sChkGates) := ⟨rfl, rfl, rfl, by decide +kernel, rfl, by decide +kernel, by decide +kernel⟩
abbrev DChkGates (P : Program) (w : World) (K : PySem.W.Frag) (mg : Str → Option Value) (base : Heap) := Df P w K mg base 4 "check_gates" ["gates"] (spChkGates K)
theorem ok_chkGates {f fG : Addr} {fd fdG : FuncData} (F : Fun K "check_gates" "check_gates" sChkGates f fd) (hm : mg "check_gates" = some (.ref f)) (B : Bt mg) (DG : DIsGate P w K mg base fG fdG) : DChkGates P w K mg base f fd := by
  refine ⟨?_, hm, F.kp, F.binds fun _ _ _ _ _ _ us hl => match us, hl with | [_], _ => rfl⟩
  refine F.ok scChkGates (fun vs H Q E h => ?_) (fun cdv A outer s H vs Q E hr h => ?_)
  · obtain ⟨l, gs, rfl, _⟩ := h
    rfl
  · obtain ⟨l, gs, rfl, R, hne, gok, q⟩ := h
    have nd := scChkGates.nd
    refine ⟨_, pss_cons (ps_if (PW.pt (pw_or (pt_not (pt_val (pe_callB call_isi (by rfl) B.isi (by decide +kernel) (pa_cons (pv 0) (pa_cons (pe_bltn (v := .ty "list") (by rfl) B.list (by decide +kernel) rfl) pa_nil)))))
          (pw_or1 (pt_cmpR op_eq (pe_callB call_len_seq (by rfl) B.len PySem.boot_len (pa_cons (pv 0) pa_nil)) pe_int (nomark _))))) (pss_one ps_never) pss_nil) <|
      pss_one <| ps_for PassesOwn.never rfl (pi_list (pv 0)) (pg_name (i := 1) nd rfl (.inl rfl)) <|
        pss_one <| ps_if (pt_not (pt_val (pe_call DG.ok hr (by rfl) DG.mg DG.kp DG.bd .nil pass0 (pa_cons (pv 1) pa_nil)))) (pss_one ps_never) pss_nil, ?_⟩
    obtain ⟨gv, sg, ga⟩ := R
    have hl : gv.length = gs.length := ga.1
    have hpos : 0 < gs.length := by
      cases gs with
      | nil => exact absurd rfl hne
      | cons _ _ => simp
    refine ⟨_, rfl, _, _, _, _, true, rfl, .ty "list", ty_lst sg, kit_ty (by decide +kernel), true, rfl, ?_⟩
    refine iteF ⟨_, rfl, l, gv, rfl, .inl sg, rfl, false, ?_, iteF ?_⟩
    · show V.bl (decide (V.int (gv.length : Int) = V.int 0)) = V.bl false
      rw [decide_eq_false]
      intro z
      have := V.int.inj z
      omega
    refine ⟨_, rfl, l, rfl, ⟨_, sg⟩, for_list (K := K) (a := l) (xs := gv) (fun i σ H2 => ∃ y, σ = [some (.ref l), y] ∧ Same H H2) ⟨_, rfl, Same.refl H⟩ (fun i σ H2 _ ⟨_, _, sm⟩ => sm.seq sg) ?_ ?_⟩
    · rintro i x σ H2 hx ⟨y, rfl, sm⟩
      obtain ⟨g, hg, gv⟩ := ga.get hx
      refine ⟨_, rfl, x, g, rfl, gv.tk (TK.same sm), gok g (List.mem_of_getElem? hg), fun H3 sm3 => ⟨true, rfl, iteF ⟨_, rfl, sm.trans sm3⟩⟩⟩
    · rintro σ H2 ⟨y, rfl, sm⟩
      exact q H2 sm
/-! ### is_wire -/
abbrev nIsWire : List Str := ["thing", "many_gates", "start", "end", "held", "worth"]
theorem scIsWire : FnScope nIsWire ["thing", "many_gates"] (defScope sIsWire) := ⟨rfl, rfl, rfl, by decide +kernel, rfl, by decide +kernel, by decide +kernel⟩
abbrev DIsWire (P : Program) (w : World) (K : PySem.W.Frag) (mg : Str → Option Value) (base : Heap) := Df P w K mg base 4 "is_wire" ["thing", "many_gates"] (spIsWire K)
theorem ok_isWire {f fF fW : Addr} {fd fdF fdW : FuncData} (F : Fun K "is_wire" "is_wire" sIsWire f fd) (hm : mg "is_wire" = some (.ref f)) (B : Bt mg) (DF : DFromTo P w K mg base fF fdF) (DW : DWorth P w K mg base fW fdW) : DIsWire P w K mg base f fd := by
  refine ⟨?_, hm, F.kp, F.binds fun _ _ _ _ _ _ us hl => match us, hl with | [_, _], _ => rfl⟩
  refine F.ok scIsWire (fun vs H Q E h => ?_) (fun cdv A outer s H vs Q E hr h => ?_)
  · obtain ⟨v, x, n, rfl, _⟩ := h
    rfl
  · obtain ⟨v, x, n, rfl, ⟨a, b, rfl, sq1, sq2⟩, hs, he, rok, rl, q⟩ := h
    have nd := scIsWire.nd
    have hr2 : Room 2 _ := hr.mono (by decide)
    refine ⟨_, pss_cons (ps_if (PW.pt (pw_or (pt_not (pt_val (pe_callB call_isi (by rfl) B.isi (by decide +kernel) (pa_cons (pv 0) (pa_cons (pe_bltn (v := .ty "tuple") (by rfl) B.tuple (by decide +kernel) rfl) pa_nil)))))
          (pw_or1 (pt_cmpR op_ne (pe_callB call_len_seq (by rfl) B.len PySem.boot_len (pa_cons (pv 0) pa_nil)) pe_int (nomark _))))) (pss_one (ps_ret pe_bl)) pss_nil) <|
      pss_cons (ps_asg (pv 0) (pg_tup (by rfl) (pgs_cons (pg_name (i := 2) nd rfl (.inl rfl)) (pgs_cons (pg_name (i := 3) nd rfl (.inl rfl)) (pgs_cons (pg_name (i := 4) nd rfl (.inl rfl)) pgs_nil))))) <|
      pss_cons (ps_if (PW.pt (pw_or (pt_not (pt_val (pe_call DF.ok hr2 (by rfl) DF.mg DF.kp DF.bd .nil pass0 (pa_cons (pv 2) (pa_cons pe_int (pa_cons (pe_op op_sub (pv 1) pe_int) pa_nil))))))
          (pw_or1 (pt_not (pt_val (pe_call DF.ok hr2 (by rfl) DF.mg DF.kp DF.bd .nil pass0 (pa_cons (pv 3) (pa_cons pe_int (pa_cons (pe_op op_sub (pv 1) pe_int) pa_nil))))))))) (pss_one (ps_ret pe_bl)) pss_nil) <|
      pss_one <| ps_ret <| pe_and (pe_callB call_isi (by rfl) B.isi (by decide +kernel) (pa_cons (pv 4) (pa_cons (pe_bltn (v := .ty "tuple") (by rfl) B.tuple (by decide +kernel) rfl) pa_nil))) <| pe_one <|
        pe_callB (cr_all rfl) (by rfl) B.all (by decide +kernel) <| (pa_cons · pa_nil) <| pe_lc (own := [("worth", 5)]) (g := gName 5) (tt := tYes) (te := tCall spWorth [] E0 (tCons (tVar 5) tNil)) rfl nd (pi_tup (pv 4)) (blkOk_by (N := nIsWire) (sc := defScope sIsWire) (own := [("worth", 5)]) (by decide +kernel))
          (fun _ _ _ _ _ => pg_name (i := 5) nd rfl (.inl rfl)) (fun _ _ _ _ _ => pts_nil) (fun _ _ _ _ _ => pe_call DW.ok hr (by rfl) DW.mg DW.kp DW.bd .nil pass0 (pa_cons (pv 5) pa_nil)), ?_⟩
    refine ⟨_, rfl, _, _, _, _, true, rfl, .ty "tuple", ty_tup sq1, kit_ty (by decide +kernel), true, rfl, ?_⟩
    refine iteF ⟨_, rfl, a, _, rfl, .inr sq1, rfl, _, rfl, iteF ?_⟩
    refine ⟨_, rfl, a, _, rfl, sq1, rfl, _, _, rfl, _, _, rfl, _, _, rfl, rfl, ?_⟩
    refine ⟨_, rfl, _, rfl, _, _, rfl, rfl, _, _, _, rfl, true, ?_, iteF ?_⟩
    · rw [decide_eq_true (by omega), decide_eq_true (by omega)]
      rfl
    refine ⟨_, rfl, _, rfl, _, _, rfl, rfl, _, _, _, rfl, true, ?_, iteF ?_⟩
    · rw [decide_eq_true (by omega), decide_eq_true (by omega)]
      rfl
    refine ⟨_, rfl, _, _, _, _, true, rfl, .ty "tuple", ty_tup sq2, kit_ty (by decide +kernel), true, rfl, iteT ?_⟩
    refine ⟨_, rfl, b, rfl, ⟨_, sq2⟩, fun D hD => ?_⟩
    refine lc_tup (K := K) (a := b) (xs := x.2.2.map V.int) (fun i Hc => Hc D = some (.lst ((List.replicate i true).map V.bl)) ∧ Same H Hc) ⟨upd_same, same_new hD⟩ (fun i Hc _ ⟨_, sm⟩ => (TK.same sm).seq sq2) ?_ ?_
    · rintro i y Hc hy ⟨hc, sm⟩
      rw [List.getElem?_map] at hy
      cases ey : x.2.2[i]? with
      | none =>
        rw [ey] at hy
        cases hy
      | some z =>
      rw [ey] at hy
      cases hy
      have hz := rok z (List.mem_of_getElem? ey)
      have hi : i < x.2.2.length := (List.getElem?_eq_some_iff.mp ey).1
      refine ⟨rfl, tyes ?_⟩
      refine ⟨_, rfl, z, rfl, _, hc, by rw [List.length_map, List.length_replicate]; exact small1000 (by omega), ?_, same_mut sm hD⟩
      rw [upd_same, decide_eq_true hz.1, decide_eq_true hz.2, List.replicate_succ', List.map_append]
      rfl
    · rintro Hc ⟨hc, sm⟩
      refine ⟨D, _, rfl, SqL.of hc, ?_⟩
      have e : (List.replicate (x.2.2.map V.int).length true).all id = true := by
        rw [List.all_eq_true]
        intro y hy
        rw [List.mem_replicate] at hy
        rw [hy.2]
        rfl
      rw [e]
      exact q Hc sm
/-! ### is_taken -/
theorem scTaken : FnScope ["wire", "gates", "come", "start", "end"] ["wire", "gates", "come"] (defScope sTaken) := ⟨rfl, rfl, rfl, by decide +kernel, rfl, by decide +kernel, by decide +kernel⟩
abbrev DTaken (P : Program) (w : World) (K : PySem.W.Frag) (mg : Str → Option Value) (base : Heap) := Df P w K mg base 1 "is_taken" ["wire", "gates", "come"] (spTaken K)
theorem ok_taken {f : Addr} {fd : FuncData} (F : Fun K "is_taken" "is_taken" sTaken f fd) (hm : mg "is_taken" = some (.ref f)) : DTaken P w K mg base f fd := by
  refine ⟨?_, hm, F.kp, F.binds fun _ _ _ _ _ _ us hl => match us, hl with | [_, _, _], _ => rfl⟩
  refine F.ok scTaken (fun vs H Q E h => ?_) (fun cdv A outer s H vs Q E hr h => ?_)
  · obtain ⟨v, x, lg, lc, gs, cs, rfl, _⟩ := h
    rfl
  · obtain ⟨v, x, lg, lc, gs, cs, rfl, ⟨a, b, rfl, sq1, sq2⟩, ⟨gv, sg, ga⟩, sc, W, hcl, h0, q⟩ := h
    have nd := scTaken.nd
    refine ⟨_, pss_cons (ps_par (i := 3) (j := 4) (by rfl) nd rfl rfl (by decide) rfl rfl (pa_cons (pe_ix ix_tup (pv 0) pe_int (fun _ _ => rfl)) (pa_cons (pe_ix ix_tup (pv 0) pe_int (fun _ _ => rfl)) pa_nil)) (by rfl)) <|
      pss_cons (ps_if (PW.pt (pw_or (pt_cmpR op_eq (pe_ix ix_tup (pe_ix ix_list (pv 1) (pv 3) (fun _ _ => rfl)) pe_int (fun _ _ => rfl)) pe_str (nomark _)) (pw_or1 (pt_cmpR op_eq (pe_ix ix_tup (pe_ix ix_list (pv 1) (pv 4) (fun _ _ => rfl)) pe_int (fun _ _ => rfl)) pe_str (nomark _))))) (pss_one (ps_ret pe_bl)) pss_nil) <|
      pss_one <| ps_ret <| pe_or (pe_cmpR op_ne (pe_ix ix_tup (pe_ix ix_list (pv 1) (pv 4) (fun _ _ => rfl)) pe_int (fun _ _ => rfl)) pe_str (nomark _)) (pe_one (pe_cmpR op_eq (pe_ix ix_list (pv 2) (pv 4) (fun _ _ => rfl)) pe_int (nomark _))), ?_⟩
    have hl : gv.length = gs.length := ga.1
    obtain ⟨vs1, g1, e1, f1, a1, rfl, s1⟩ : ∃ vs1 g1, gv[x.1]? = some vs1 ∧ gs[x.1]? = some g1 ∧ GateV K H vs1 g1 := by
      have e1 : gs[x.1]? = some (gs[x.1]'W.s) := List.getElem?_eq_getElem W.s
      obtain ⟨y, hy, r⟩ := ga.getR e1
      exact ⟨y, _, hy, e1, r⟩
    obtain ⟨vs2, g2, e2, f2, a2, rfl, s2⟩ : ∃ vs2 g2, gv[x.2.1]? = some vs2 ∧ gs[x.2.1]? = some g2 ∧ GateV K H vs2 g2 := by
      have e1 : gs[x.2.1]? = some (gs[x.2.1]'W.e) := List.getElem?_eq_getElem W.e
      obtain ⟨y, hy, r⟩ := ga.getR e1
      exact ⟨y, _, hy, e1, r⟩
    have k1 := kindAt_get f1
    have k2 := kindAt_get f2
    refine ⟨_, rfl, a, _, 0, _, rfl, rfl, sq1, atI_nat (j := 0) rfl, _, rfl, a, _, 1, _, rfl, rfl, sq1, atI_nat (j := 1) rfl, _, _, rfl, ?_⟩
    refine ⟨_, rfl, _, rfl, lg, gv, _, _, rfl, rfl, sg, atI_nat e1, a1, _, 0, _, rfl, rfl, s1, atI_nat (j := 0) rfl, rfl, false, ?_, iteF ?_⟩
    · show V.bl (decide (V.str g1.1 = V.str "out")) = V.bl false
      rw [decide_eq_false]
      intro z
      exact W.ks (by rw [k1]; exact V.str.inj z)
    refine ⟨_, rfl, _, rfl, lg, gv, _, _, rfl, rfl, sg, atI_nat e2, a2, _, 0, _, rfl, rfl, s2, atI_nat (j := 0) rfl, rfl, false, ?_, iteF ?_⟩
    · show V.bl (decide (V.str g2.1 = V.str "in")) = V.bl false
      rw [decide_eq_false]
      intro z
      exact W.ke (by rw [k2]; exact V.str.inj z)
    refine ⟨_, rfl, _, rfl, lg, gv, _, _, rfl, rfl, sg, atI_nat e2, a2, _, 0, _, rfl, rfl, s2, atI_nat (j := 0) rfl, rfl, _, rfl, ite2 (fun e => ?_) (fun e => ?_)⟩
    · exact q
    · have hk : kindAt gs x.2.1 = "out" := by
        rw [k2]
        refine Classical.byContradiction fun z => e ?_
        show (!decide (V.str g2.1 = V.str "out")) = true
        rw [decide_eq_false (fun y => z (V.str.inj y))]
        rfl
      have hc := h0 hk
      refine ⟨_, rfl, _, rfl, lc, _, _, .int 0, rfl, rfl, sc, atI_nat (by rw [List.getElem?_map, hc]; rfl), rfl, q⟩
end
end Lag

set_option maxRecDepth 100000
set_option maxHeartbeats 4000000
namespace Lag
open PySem PySem.Spec PyProof.Rows L2
abbrev sChkWires : Stmt := topS 23
def cntL (n : Nat) (ws : List Wr) : List Nat := (List.range n).map (cnt ws)
theorem cntL_len (n : Nat) (ws : List Wr) : (cntL n ws).length = n := by simp [cntL]
theorem cntL_get {n e : Nat} {ws : List Wr} (h : e < n) : (cntL n ws)[e]? = some (cnt ws e) := by
  unfold cntL
  rw [List.getElem?_map, List.getElem?_range h]
  rfl
theorem cntL_nil (n : Nat) : cntL n [] = List.replicate n 0 := by
  refine List.ext_getElem? fun i => ?_
  by_cases h : i < n
  · rw [cntL_get h, List.getElem?_replicate, if_pos h]
    rfl
  · rw [List.getElem?_eq_none (by rw [cntL_len]; omega), List.getElem?_eq_none (by simp; omega)]
theorem cnt_app (ws : List Wr) (x : Wr) (e : Nat) : cnt (ws ++ [x]) e = cnt ws e + if x.2.1 = e then 1 else 0 := by
  unfold cnt
  rw [List.countP_append, List.countP_cons, List.countP_nil]
  by_cases h : x.2.1 = e <;> simp [h]
theorem cntL_app {n : Nat} {ws : List Wr} {x : Wr} (h : x.2.1 < n) : (cntL n ws).set x.2.1 (cnt ws x.2.1 + 1) = cntL n (ws ++ [x]) := by
  refine List.ext_getElem? fun i => ?_
  by_cases hi : i < n
  · rw [cntL_get hi, cnt_app, List.getElem?_set]
    by_cases e : x.2.1 = i
    · rw [if_pos e, if_pos e, if_pos (by rw [cntL_len]; exact h), e]
    · rw [if_neg e, if_neg e, cntL_get hi]
      rfl
  · rw [List.getElem?_eq_none (by rw [List.length_set, cntL_len]; omega), List.getElem?_eq_none (by rw [cntL_len]; omega)]
theorem cnt_take_lt {ws : List Wr} {i : Nat} {x : Wr} (h : ws[i]? = some x) : cnt (ws.take i) x.2.1 + 1 ≤ cnt ws x.2.1 := by
  have e : ws.take (i + 1) = ws.take i ++ [x] := by rw [List.take_add_one, h]; rfl
  have h1 : cnt (ws.take (i + 1)) x.2.1 ≤ cnt ws x.2.1 := by
    unfold cnt
    exact List.Sublist.countP_le (List.take_sublist _ _)
  rw [e, cnt_app, if_pos rfl] at h1
  exact h1
def spChkWires (K : PySem.W.Frag) : Sp := fun vs H Q _ => ∃ (lg lw : Addr) (gs : List Gt) (ws : List Wr), vs = [.ref lg, .ref lw] ∧ RG K H lg gs ∧ RW K H lw ws ∧ NetOk gs ws ∧ ∀ H', Same H H' → Q .non H'
theorem map_set' {α β : Type} (f : α → β) (l : List α) (i : Nat) (a : α) : (l.map f).set i (f a) = (l.set i a).map f := by simp [List.map_set]
section
variable {P : Program} {w : World} {K : PySem.W.Frag} {mg : Str → Option Value} {base : Heap}
theorem scChkWires : FnScope ["gates", "wires", "come", "place", "thing", "gate", "many"] ["gates", "wires"] (defScope sChkWires) := ⟨rfl, rfl, rfl, by decide +kernel, rfl, by decide +kernel, by decide +kernel⟩
abbrev DChkWires (P : Program) (w : World) (K : PySem.W.Frag) (mg : Str → Option Value) (base : Heap) := Df P w K mg base 5 "check_wires" ["gates", "wires"] (spChkWires K)
theorem ok_chkWires {f fW fT aK aW aF : Addr} {fd fdW fdT : FuncData} (F : Fun K "check_wires" "check_wires" sChkWires f fd) (hm : mg "check_wires" = some (.ref f)) (B : Bt mg) (C : Cns K mg aK aW aF) (DW : DIsWire P w K mg base fW fdW) (DT : DTaken P w K mg base fT fdT) : DChkWires P w K mg base f fd := by
  refine ⟨?_, hm, F.kp, F.binds fun _ _ _ _ _ _ us hl => match us, hl with | [_, _], _ => rfl⟩
  refine F.ok scChkWires (fun vs H Q E h => ?_) (fun cdv A outer s H vs Q E hr h => ?_)
  · obtain ⟨lg, lw, gs, ws, rfl, _⟩ := h
    rfl
  · obtain ⟨lg, lw, gs, ws, rfl, RGs, ⟨wv, sw, wa⟩, N, q⟩ := h
    have nd := scChkWires.nd
    have hr1 : Room 1 _ := hr.mono (by decide)
    refine ⟨_, pss_cons (ps_if (pt_not (pt_val (pe_callB call_isi (by rfl) B.isi (by decide +kernel) (pa_cons (pv 1) (pa_cons (pe_bltn (v := .ty "list") (by rfl) B.list (by decide +kernel) rfl) pa_nil))))) (pss_one ps_never) pss_nil) <|
      pss_cons (ps_set (i := 2) nd rfl (Or.inl rfl) (pe_op op_rep (pe_lst (pa_cons pe_int pa_nil)) (pe_callB call_len_seq (by rfl) B.len PySem.boot_len (pa_cons (pv 0) pa_nil)))) <|
      pss_cons (ps_for PassesOwn.never rfl (pi_enum (by rfl) B.enum (pa_cons (pv 1) pa_nil)) (pg_tup rfl (pgs_cons (pg_name (i := 3) nd rfl (Or.inl rfl)) (pgs_cons (pg_name (i := 4) nd rfl (Or.inl rfl)) pgs_nil))) <|
        pss_cons (ps_if (PW.pt (pw_or (pt_not (pt_val (pe_call DW.ok hr (by rfl) DW.mg DW.kp DW.bd .nil pass0 (pa_cons (pv 4) (pa_cons (pe_callB call_len_seq (by rfl) B.len PySem.boot_len (pa_cons (pv 0) pa_nil)) pa_nil)))))
            (pw_or1 (pt_not (pt_val (pe_call DT.ok hr1 (by rfl) DT.mg DT.kp DT.bd .nil pass0 (pa_cons (pv 4) (pa_cons (pv 0) (pa_cons (pv 2) pa_nil))))))))) (pss_one ps_never) pss_nil) <|
        pss_one <| ps_augS (pv 2) (pe_ix ix_tup (pv 4) pe_int (fun _ _ => rfl)) get_list pe_int ip_add set_list) <|
      pss_one <| ps_for PassesOwn.never rfl (pi_zip (by rfl) B.zip (pa_cons (pv 0) (pa_cons (pv 2) pa_nil))) (pg_tup rfl (pgs_cons (pg_name (i := 5) nd rfl (Or.inl rfl)) (pgs_cons (pg_name (i := 6) nd rfl (Or.inl rfl)) pgs_nil))) <|
        pss_one <| ps_if (PW.pt (pw_and (pt_cmpR op_in_seq (pe_ix ix_tup (pv 5) pe_int (fun _ _ => rfl)) (pe_glob (v := .ref aF) (by rfl) C.mF rfl) (by rfl)) (pw_and1 (pt_cmpR op_eq (pv 6) pe_int (nomark _))))) (pss_one ps_never) pss_nil, ?_⟩
    obtain ⟨gv, sg, ga⟩ := id RGs
    have hlg : gv.length = gs.length := ga.1
    have hlw : wv.length = ws.length := wa.1
    have hgl := N.gl
    refine ⟨_, rfl, _, _, _, _, true, rfl, .ty "list", ty_lst sw, kit_ty (by decide +kernel), true, rfl, iteF ?_⟩
    refine ⟨(by show 1 ≤ sizeLine; decide), fun l0 hl0 => ?_⟩
    refine ⟨_, rfl, lg, gv, rfl, .inl ((same_new hl0).seq sg), ?_⟩
    refine ⟨l0, _, _, rfl, rfl, upd_same, by omega, by omega, ?_, fun lc hlc => ?_⟩
    · show 1 * _ ≤ sizeLine
      have : 1 * ((gv.length : Int)).toNat ≤ 1000 := by omega
      exact Nat.le_of_lt (small1000 this)
    have sm0 : Same H (upd H l0 (.lst [.int 0])) := same_new hl0
    have hlc0 : H lc = none := sm0.free hlc
    have e0 : (List.replicate ((gv.length : Int)).toNat [V.int 0]).flatten = (cntL gs.length (ws.take 0)).map fun i => V.int (i : Nat) := by
      rw [List.take_zero, cntL_nil, List.map_replicate, ← hlg, Int.toNat_natCast]
      generalize gv.length = n
      induction n with
      | zero => rfl
      | succ n ih =>
        rw [List.replicate_succ, List.flatten_cons, ih, List.replicate_succ]
        rfl
    rw [e0]
    -- for place, thing in enumerate(wires)
    refine ⟨_, rfl, lw, wv, rfl, (sm0.trans (same_new hlc)).seq sw, for_it (walk_enum (K := K) (a := lw) (xs := wv)) (fun i σ H2 => ∃ s3 s4 : Option V, σ = [some (.ref lg), some (.ref lw), some (.ref lc), s3, s4, none, none] ∧
        H2 lc = some (.lst ((cntL gs.length (ws.take i)).map fun i => V.int (i : Nat))) ∧ Same H H2)
      ⟨_, _, rfl, upd_same, sm0.trans (same_new hlc)⟩ (fun i σ H2 _ ⟨_, _, _, _, sm⟩ => sm.seq sw) ?_ ?_⟩
    · rintro i v σ H2 H2' hi ⟨s3, s4, rfl, hc, sm⟩ ⟨T, x1, y, rfl, hT, rfl, ex, ey⟩
      cases ex
      obtain ⟨x, hx, wx⟩ := wa.get ey
      have W := N.wok x (List.mem_of_getElem? hx)
      have hxi : i < ws.length := (List.getElem?_eq_some_iff.mp hx).1
      have smT : Same H2 (upd H2 T (.tup [.int (i : Nat), y])) := same_new hT
      have sm2 := sm.trans smT
      refine ⟨T, _, rfl, .inl (.inl upd_same), rfl, _, _, rfl, _, _, rfl, rfl, ?_⟩
      refine ⟨_, rfl, _, rfl, lg, gv, rfl, .inl (sm2.seq sg), y, x, gv.length, rfl, wx.tk (TK.same sm2), by rw [hlg]; exact W.s, by rw [hlg]; exact W.e, W.r, by have := W.rl; omega, fun H3 sm3 => ⟨true, rfl, iteF ?_⟩⟩
      have sm4 := sm2.trans sm3
      have hc3 := sm3 _ _ (smT _ _ hc)
      refine ⟨_, rfl, _, rfl, _, rfl, y, x, lg, lc, gs, cntL gs.length (ws.take i), rfl, wx.tk (TK.same sm4), RGs.same sm4, SqL.of hc3, W, cntL_len _ _, fun hk => ?_, true, rfl, iteF ?_⟩
      · rw [cntL_get W.e]
        have h1 := N.one _ W.e hk
        have h2 := cnt_take_lt hx
        congr 1
        omega
      obtain ⟨a, b, rfl, sq1, sq2⟩ := wx
      have hlen : x.2.1 < (cntL gs.length (ws.take i)).length := by rw [cntL_len]; exact W.e
      refine ⟨_, rfl, _, rfl, a, _, 1, _, rfl, rfl, (TK.same sm4).seq sq1, atI_nat (j := 1) rfl, lc, _, x.2.1, .int (cnt (ws.take i) x.2.1 : Nat), rfl, rfl, SqL.of hc3, by rw [List.getElem?_map, cntL_get W.e]; rfl, _, _, rfl, rfl, lc, _, _, x.2.1, rfl, rfl, hc3, Evl.ixN_nat (by rw [List.length_map]; exact hlen), ?_⟩
      refine ⟨_, _, rfl, ?_, same_mut sm4 hlc0⟩
      have et : ws.take (i + 1) = ws.take i ++ [x] := by rw [List.take_add_one, hx]; rfl
      rw [upd_same, et, ← cntL_app W.e, ← map_set']
      rfl
    · rintro σ H2 ⟨s3, s4, rfl, hc, sm⟩
      rw [hlw, List.take_length] at hc
      -- for gate, many in zip(gates, come)
      refine ⟨_, rfl, _, rfl, lg, lc, gv, _, rfl, sm.seq sg, SqL.of hc, RZ.for_zipL (K := K) (a := lg) (b := lc) (xs := gv) (by rw [List.length_map, cntL_len]; exact hlg) (fun i σ H3 => ∃ s5 s6 : Option V, σ = [some (.ref lg), some (.ref lw), some (.ref lc), s3, s4, s5, s6] ∧ Same H2 H3)
        ⟨_, _, rfl, Same.refl H2⟩ (fun i σ H3 ⟨_, _, _, sm3⟩ => ⟨(sm.trans sm3).seq sg, SqL.of (sm3 _ _ hc)⟩) ?_ ?_⟩
      · rintro i x y T σ H3 hx hy ⟨s5, s6, rfl, sm3⟩ hT
        obtain ⟨g, hg, a, rfl, sq⟩ := ga.get hx
        have hgi : i < gs.length := (List.getElem?_eq_some_iff.mp hg).1
        rw [List.getElem?_map, cntL_get hgi] at hy
        cases hy
        have sm4 : Same H (upd H3 T (.tup [.ref a, .int (cnt ws i : Nat)])) := (sm.trans sm3).trans (same_new hT)
        refine ⟨T, _, rfl, .inl (.inl upd_same), rfl, _, _, rfl, _, _, rfl, rfl, ?_⟩
        refine ⟨_, rfl, a, _, 0, _, rfl, rfl, (TK.same sm4).seq sq, atI_nat (j := 0) rfl, aF, _, rfl, .inr (C.sF _), rfl, rfl, _, rfl, ite2 (fun e => ?_) (fun e => ?_)⟩
        · have e' : inV (V.str g.1) [V.str "out", V.str "first"] = true := e
          have hpos : 1 ≤ cnt ws i := by
            unfold inV at e'
            rw [List.any_eq_true] at e'
            obtain ⟨x, hx, hxe⟩ := e'
            simp only [List.mem_cons, List.not_mem_nil, or_false] at hx
            rcases hx with rfl | rfl
            · have := N.one i hgi (by rw [kindAt_get hg]; exact (eq_of_beq hxe).symm)
              omega
            · exact N.some i hgi (by rw [kindAt_get hg]; exact (eq_of_beq hxe).symm)
          refine ⟨_, rfl, rfl, false, ?_, iteF ⟨_, _, rfl, sm3.trans (same_new hT)⟩⟩
          show V.bl (decide (V.int (cnt ws i : Int) = V.int 0)) = V.bl false
          rw [decide_eq_false]
          intro z
          have := V.int.inj z
          omega
        · exact iteF ⟨_, _, rfl, sm3.trans (same_new hT)⟩
      · rintro σ H3 ⟨s5, s6, rfl, sm3⟩
        exact q H3 (sm.trans sm3)
end
end Lag

set_option maxRecDepth 100000
set_option maxHeartbeats 4000000
namespace Lag
open PySem PySem.Spec PyProof.Rows L2
/-! ### the order of gates along wires without registers: the mathematics -/
def bare (ws : List Wr) : List (Nat × Nat) := (ws.filter fun x => x.2.2.isEmpty).map fun x => (x.1, x.2.1)
/-- how many wires of B lead into e from gates that are not in dn -/
def mis (B : List (Nat × Nat)) (dn : List Nat) (e : Nat) : Nat := B.countP fun b => b.2 == e && !dn.contains b.1
def frm (B : List (Nat × Nat)) (g e : Nat) : Nat := B.countP fun b => b.1 == g && b.2 == e
theorem mis_split {B : List (Nat × Nat)} {dn : List Nat} {g : Nat} (h : g ∉ dn) (e : Nat) : mis B dn e = mis B (dn ++ [g]) e + frm B g e := by
  unfold mis frm
  induction B with
  | nil => rfl
  | cons b B ih =>
    rw [List.countP_cons, List.countP_cons, List.countP_cons, ih]
    by_cases h1 : b.2 = e
    · by_cases h2 : b.1 = g
      · have : b.1 ∉ dn := by rw [h2]; exact h
        simp [h1, h2, h]
        omega
      · by_cases h3 : b.1 ∈ dn
        · simp [h1, h2, h3]
        · simp [h1, h2, h3]
          omega
    · simp [h1]
theorem mis_zero {B : List (Nat × Nat)} {dn : List Nat} {e : Nat} (h : mis B dn e = 0) {b : Nat × Nat} (hb : b ∈ B) (he : b.2 = e) : b.1 ∈ dn := by
  unfold mis at h
  rw [List.countP_eq_zero] at h
  have := h b hb
  simp [he] at this
  exact this
theorem frm_drop {B : List (Nat × Nat)} {j : Nat} {b : Nat × Nat} (h : B[j]? = some b) (g e : Nat) : frm (B.drop j) g e = frm (B.drop (j + 1)) g e + if b.1 = g ∧ b.2 = e then 1 else 0 := by
  obtain ⟨hj, rfl⟩ := List.getElem?_eq_some_iff.mp h
  rw [List.drop_eq_getElem_cons hj]
  unfold frm
  rw [List.countP_cons]
  by_cases h1 : B[j].1 = g <;> by_cases h2 : B[j].2 = e <;> simp [h1, h2]
structure KI (B : List (Nat × Nat)) (n : Nat) (placed : List Nat) (d : Nat) : Prop where
  nd : placed.Nodup
  lt : ∀ e ∈ placed, e < n
  le : d ≤ placed.length
  iff : ∀ e, e < n → (e ∈ placed ↔ mis B (placed.take d) e = 0)
  top : ∀ (j e : Nat), placed[j]? = some e → ∀ b ∈ B, b.2 = e → b.1 ∈ placed.take j
structure KJ (B : List (Nat × Nat)) (n : Nat) (placed : List Nat) (d g j : Nat) : Prop where
  nd : placed.Nodup
  lt : ∀ e ∈ placed, e < n
  at_ : placed[d]? = some g
  iff : ∀ e, e < n → (e ∈ placed ↔ mis B (placed.take (d + 1)) e + frm (B.drop j) g e = 0)
  top : ∀ (j e : Nat), placed[j]? = some e → ∀ b ∈ B, b.2 = e → b.1 ∈ placed.take j
theorem take_add {l : List Nat} {d g : Nat} (h : l[d]? = some g) : l.take (d + 1) = l.take d ++ [g] := by rw [List.take_add_one, h]; rfl
theorem nodup_take {l : List Nat} {d g : Nat} (nd : l.Nodup) (h : l[d]? = some g) : g ∉ l.take d := by
  intro hm
  obtain ⟨i, hi⟩ := List.getElem?_of_mem hm
  have h1 : i < d := by
    have := (List.getElem?_eq_some_iff.mp hi).1
    rw [List.length_take] at this
    omega
  rw [List.getElem?_take_of_lt h1] at hi
  have := nd_ix nd hi h
  omega
theorem KI.go {B : List (Nat × Nat)} {n : Nat} {placed : List Nat} {d g : Nat} (h : KI B n placed d) (hg : placed[d]? = some g) : KJ B n placed d g 0 :=
  ⟨h.nd, h.lt, hg, fun e he => by rw [h.iff e he, take_add hg, mis_split (nodup_take h.nd hg), List.drop_zero], h.top⟩
theorem KJ.done {B : List (Nat × Nat)} {n : Nat} {placed : List Nat} {d g : Nat} (h : KJ B n placed d g B.length) : KI B n placed (d + 1) := by
  have hd : d < placed.length := (List.getElem?_eq_some_iff.mp h.at_).1
  refine ⟨h.nd, h.lt, hd, fun e he => ?_, h.top⟩
  rw [h.iff e he, List.drop_length]
  rfl
theorem KJ.skip {B : List (Nat × Nat)} {n : Nat} {placed : List Nat} {d g j : Nat} {b : Nat × Nat} (h : KJ B n placed d g j) (hb : B[j]? = some b) (hg : b.1 ≠ g) : KJ B n placed d g (j + 1) :=
  ⟨h.nd, h.lt, h.at_, fun e he => by rw [h.iff e he, frm_drop hb, if_neg (fun z => hg z.1)]; rfl, h.top⟩
theorem KJ.not {B : List (Nat × Nat)} {n : Nat} {placed : List Nat} {d g j : Nat} {b : Nat × Nat} (h : KJ B n placed d g j) (hb : B[j]? = some b) (hg : b.1 = g) (hn : mis B (placed.take (d + 1)) b.2 + frm (B.drop (j + 1)) g b.2 ≠ 0) : KJ B n placed d g (j + 1) := by
  refine ⟨h.nd, h.lt, h.at_, fun e he => ?_, h.top⟩
  rw [h.iff e he, frm_drop hb]
  by_cases h2 : b.2 = e
  · subst h2
    rw [if_pos ⟨hg, rfl⟩]
    omega
  · rw [if_neg (fun z => h2 z.2)]
    rfl
theorem KJ.put {B : List (Nat × Nat)} {n : Nat} {placed : List Nat} {d g j : Nat} {b : Nat × Nat} (h : KJ B n placed d g j) (hb : B[j]? = some b) (hg : b.1 = g) (hlt : b.2 < n) (hn : mis B (placed.take (d + 1)) b.2 + frm (B.drop (j + 1)) g b.2 = 0) : KJ B n (placed ++ [b.2]) d g (j + 1) := by
  have hd : d < placed.length := (List.getElem?_eq_some_iff.mp h.at_).1
  have hnot : b.2 ∉ placed := fun z => by
    have := (h.iff _ hlt).mp z
    rw [frm_drop hb, if_pos ⟨hg, rfl⟩] at this
    omega
  have et : (placed ++ [b.2]).take (d + 1) = placed.take (d + 1) := List.take_append_of_le_length (by omega)
  refine ⟨?_, ?_, ?_, ?_, ?_⟩
  · rw [List.nodup_append]
    refine ⟨h.nd, by simp, fun a ha c hc => ?_⟩
    simp at hc
    subst hc
    intro z
    exact hnot (by rw [← z]; exact ha)
  · intro e he
    rcases List.mem_append.mp he with he | he
    · exact h.lt e he
    · simp at he
      subst he
      exact hlt
  · rw [List.getElem?_append_left hd]
    exact h.at_
  · intro e he
    rw [et, List.mem_append]
    by_cases h2 : b.2 = e
    · subst h2
      simp [hn]
    · have := h.iff e he
      rw [frm_drop hb, if_neg (fun z => h2 z.2)] at this
      rw [this]
      simp
      intro z
      exact absurd z.symm h2
  · intro k e hk c hc hce
    by_cases hk' : k < placed.length
    · rw [List.getElem?_append_left hk'] at hk
      rw [List.take_append_of_le_length (by omega)]
      exact h.top k e hk c hc hce
    · have hkl : k = placed.length := by
        have := (List.getElem?_eq_some_iff.mp hk).1
        simp at this
        omega
      subst hkl
      rw [List.getElem?_append_right (by omega)] at hk
      simp at hk
      subst hk
      rw [List.take_left']
      · have := mis_zero (show mis B (placed.take (d + 1)) b.2 = 0 by omega) hc hce
        exact List.mem_of_mem_take this
      · rfl
/-- what the order is: gates without two alike, each behind those it hangs on; all whose wires come from such -/
def Ord (n : Nat) (ws : List Wr) (ord : List Nat) : Prop := KI (bare ws) n ord ord.length
theorem Ord.full {n : Nat} {ws : List Wr} {ord : List Nat} (h : Ord n ws ord) (hw : ∀ x ∈ ws, x.1 < n ∧ x.2.1 < n) (rk : ∃ ρ : Nat → Nat, ∀ x ∈ ws, x.2.2 = [] → ρ x.1 < ρ x.2.1) : ord.Perm (List.range n) := by
  obtain ⟨ρ, hρ⟩ := rk
  have all : ∀ r e, e < n → ρ e = r → e ∈ ord := by
    intro r
    induction r using Nat.strongRecOn with
    | ind r ih =>
      intro e he hr
      rw [h.iff e he, List.take_length]
      unfold mis
      rw [List.countP_eq_zero]
      intro b hb
      obtain ⟨x, hx, rfl⟩ := List.mem_map.mp hb
      rw [List.mem_filter] at hx
      have hr0 : x.2.2 = [] := by simpa using hx.2
      have := hρ x hx.1 hr0
      simp
      intro z
      exact ih (ρ x.1) (by rw [← hr, ← z]; exact this) x.1 (hw x hx.1).1 rfl
  rw [List.perm_iff_count]
  intro a
  rw [h.nd.count, List.nodup_range.count]
  by_cases ha : a < n
  · rw [if_pos (all _ a ha rfl), if_pos (List.mem_range.mpr ha)]
  · rw [if_neg (fun z => ha (h.lt a z)), if_neg (fun z => ha (List.mem_range.mp z))]
end Lag

set_option maxRecDepth 100000
set_option maxHeartbeats 8000000
namespace Lag
open PySem PySem.Spec PyProof.Rows L2
abbrev sAlong : Stmt := topS 12
abbrev sOrder : Stmt := topS 27
def PairV (K : PySem.W.Frag) (H : Hp) (v : V) (b : Nat × Nat) : Prop := ∃ a, v = .ref a ∧ SqT K H a [.int (b.1 : Nat), .int (b.2 : Nat)]
theorem PairV.tk {K : PySem.W.Frag} {H H' : Hp} {v : V} {b : Nat × Nat} (t : TK H H') (h : PairV K H v b) : PairV K H' v b := by
  obtain ⟨a, e, s⟩ := h
  exact ⟨a, e, t.seq s⟩
/-- numbers by a function of the place -/
def fnL (n : Nat) (f : Nat → Nat) : List V := (List.range n).map fun e => V.int (f e : Nat)
theorem fnL_len (n : Nat) (f : Nat → Nat) : (fnL n f).length = n := by simp [fnL]
theorem fnL_get {n e : Nat} {f : Nat → Nat} (h : e < n) : (fnL n f)[e]? = some (V.int (f e : Nat)) := by
  unfold fnL
  rw [List.getElem?_map, List.getElem?_range h]
  rfl
theorem fnL_set {n e : Nat} {f f' : Nat → Nat} {z : Int} (h : e < n) (he : (f' e : Int) = z) (ho : ∀ i, i ≠ e → f' i = f i) : (fnL n f).set e (V.int z) = fnL n f' := by
  refine List.ext_getElem? fun i => ?_
  by_cases hi : i < n
  · rw [fnL_get hi, List.getElem?_set]
    by_cases ei : e = i
    · subst ei
      rw [if_pos rfl, if_pos (by rw [fnL_len]; exact h), he]
    · rw [if_neg ei, fnL_get hi, ho i (fun z => ei z.symm)]
  · rw [List.getElem?_eq_none (by rw [List.length_set, fnL_len]; omega), List.getElem?_eq_none (by rw [fnL_len]; omega)]
theorem fnL_zero (n : Nat) (f : Nat → Nat) (h : ∀ e, f e = 0) : (List.replicate n [V.int 0]).flatten = fnL n f := by
  have e : f = fun _ => 0 := funext h
  subst e
  unfold fnL
  induction n with
  | zero => rfl
  | succ n ih =>
    rw [List.replicate_succ', List.flatten_append, ih, List.range_succ, List.map_append]
    rfl
def spOrder (K : PySem.W.Frag) : Sp := fun vs H Q _ => ∃ (n : Nat) (lw : Addr) (ws : List Wr), vs = [.int (n : Nat), .ref lw] ∧ RW K H lw ws ∧ (∀ x ∈ ws, x.1 < n ∧ x.2.1 < n) ∧ n ≤ 1000 ∧ ws.length ≤ 1000 ∧
  ∀ (ord : List Nat) (p : Addr) (H' : Hp), Ord n ws ord → Same H H' → H p = none → H' p = some (.lst (ord.map fun i => V.int (i : Nat))) → Q (.ref p) H'
def spAlong (K : PySem.W.Frag) : Sp := fun vs H Q _ => ∃ (n : Nat) (lb : Addr) (bv : List V) (B : List (Nat × Nat)), vs = [.int (n : Nat), .ref lb] ∧ SqL K H lb bv ∧ All2 (PairV K H) bv B ∧ (∀ b ∈ B, b.1 < n ∧ b.2 < n) ∧ n ≤ 1000 ∧ B.length ≤ 1000 ∧
  ∀ (ord : List Nat) (p : Addr) (H' : Hp), KI B n ord ord.length → Same H H' → H p = none → H' p = some (.lst (ord.map fun i => V.int (i : Nat))) → Q (.ref p) H'
abbrev nAlong : List Str := ["many", "pairs", "missing", "start", "end", "placed", "done", "place"]
theorem scAlong : FnScope nAlong ["many", "pairs"] (defScope sAlong) := ⟨rfl, rfl, rfl, by decide +kernel, rfl, by decide +kernel, by decide +kernel⟩
abbrev nOrder : List Str := ["many_gates", "wires", "start", "end", "held"]
theorem scOrder : FnScope nOrder ["many_gates", "wires"] (defScope sOrder) := ⟨rfl, rfl, rfl, by decide +kernel, rfl, by decide +kernel, by decide +kernel⟩
theorem bare_take {ws : List Wr} {i : Nat} {x : Wr} (h : ws[i]? = some x) : bare (ws.take (i + 1)) = if x.2.2.isEmpty then bare (ws.take i) ++ [(x.1, x.2.1)] else bare (ws.take i) := by
  unfold bare
  rw [List.take_add_one, h]
  show ((ws.take i ++ [x]).filter _).map _ = _
  rw [List.filter_append]
  by_cases e : x.2.2.isEmpty
  · rw [if_pos e, List.filter_cons, if_pos e, List.map_append]
    rfl
  · rw [if_neg e, List.filter_cons, if_neg e, List.filter_nil, List.append_nil]
theorem bare_len (ws : List Wr) : (bare ws).length ≤ ws.length := by
  unfold bare
  rw [List.length_map]
  exact List.length_filter_le _ _
theorem mis_take {B : List (Nat × Nat)} {i : Nat} {b : Nat × Nat} (h : B[i]? = some b) (e : Nat) : mis (B.take (i + 1)) [] e = mis (B.take i) [] e + if b.2 = e then 1 else 0 := by
  unfold mis
  rw [List.take_add_one, h]
  show (B.take i ++ [b]).countP _ = _
  rw [List.countP_append, List.countP_cons, List.countP_nil]
  by_cases h1 : b.2 = e <;> simp [h1]
section
variable {P : Program} {w : World} {K : PySem.W.Frag} {mg : Str → Option Value} {base : Heap}
abbrev DAlong (P : Program) (w : World) (K : PySem.W.Frag) (mg : Str → Option Value) (base : Heap) := Df P w K mg base 1 "order_along" ["many", "pairs"] (spAlong K)
theorem ok_along {f : Addr} {fd : FuncData} (F : Fun K "order_along" "order_along" sAlong f fd) (hm : mg "order_along" = some (.ref f)) (Bb : Bt mg) : DAlong P w K mg base f fd := by
  refine ⟨?_, hm, F.kp, F.binds fun _ _ _ _ _ _ us hl => match us, hl with | [_, _], _ => rfl⟩
  refine F.ok scAlong (fun vs H Q E h => ?_) (fun cdv A outer s H vs Q E hr h => ?_)
  · obtain ⟨n, lb, bv, B, rfl, _⟩ := h
    rfl
  · obtain ⟨n, lb, bv, B, rfl, sb, ba1, hBlt, hn, hwl, q⟩ := h
    have nd := scAlong.nd
    refine ⟨_, pss_cons (ps_set (i := 2) nd rfl (Or.inr rfl) (pe_op op_rep (pe_lst (pa_cons pe_int pa_nil)) (pv 0))) <|
      pss_cons (ps_for PassesOwn.never rfl (pi_list (pv 1)) (pg_tup rfl (pgs_cons (pg_name (i := 3) nd rfl (Or.inl rfl)) (pgs_cons (pg_name (i := 4) nd rfl (Or.inl rfl)) pgs_nil)))
        (pss_one (ps_augS (pv 2) (pv 4) get_list pe_int ip_add set_list))) <|
      pss_cons (ps_setLc (i := 5) (own := [("place", 7)]) (g := gName 7) (tt := tTest (tOp rEq (tOp (rIxL K) (tVar 2) (tVar 7)) (tC (.int 0)))) (te := tVar 7) rfl nd rfl rfl (sw_true rfl rfl rfl (by decide +kernel))
          (pi_range1 (by rfl) Bb.range (pa_cons (pv 0) pa_nil)) (blkOk_by (N := nAlong) (sc := defScope sAlong) (own := [("place", 7)]) (by decide +kernel)) (fun _ _ _ _ _ => pg_name (i := 7) nd rfl (Or.inl rfl))
          (fun _ _ _ _ _ => pts_one (pt_cmpR op_eq (pe_ix ix_list (pv 2) (pv 7) (fun _ _ => rfl)) pe_int (nomark _))) (fun _ _ _ _ _ => pv 7)) <|
      pss_cons (ps_set (i := 6) nd rfl (Or.inl rfl) pe_int) <|
      pss_cons (ps_while PassesOwn.never (pt_cmpR op_lt (pv 6) (pe_callB call_len_seq (by rfl) Bb.len PySem.boot_len (pa_cons (pv 5) pa_nil)) (nomark _)) <|
        pss_cons (ps_for PassesOwn.never rfl (pi_list (pv 1)) (pg_tup rfl (pgs_cons (pg_name (i := 3) nd rfl (Or.inl rfl)) (pgs_cons (pg_name (i := 4) nd rfl (Or.inl rfl)) pgs_nil))) <|
          pss_one <| ps_if (pt_cmpR op_eq (pv 3) (pe_ix ix_list (pv 5) (pv 6) (fun _ _ => rfl)) (nomark _))
            (pss_cons (ps_augS (pv 2) (pv 4) get_list pe_int ip_sub set_list) <| pss_one <| ps_if (pt_cmpR op_eq (pe_ix ix_list (pv 2) (pv 4) (fun _ _ => rfl)) pe_int (nomark _))
              (pss_one (ps_expr (pe_bm PySem.F.plainAttrs_list PySem.F.slot_list_append PySem.F.type_list_append mt_append (pv 5) (pa_cons (pv 4) pa_nil)))) pss_nil) pss_nil) <|
        pss_one <| ps_aug (i := 6) nd rfl (Or.inl rfl) pe_int ip_add) <|
      pss_one <| ps_ret (pv 5), ?_⟩
    have hbl : bv.length ≤ 1000 := by
      rw [ba1.1]
      omega
    -- missing = [0] * many_gates
    refine ⟨(by show 1 ≤ sizeLine; decide), fun l0 hl0 => ?_⟩
    have sm2 : Same H (upd H l0 (.lst [.int 0])) := same_new hl0
    refine ⟨_, rfl, l0, _, _, rfl, rfl, upd_same, by omega, by omega, ?_, fun lm hlm => ?_⟩
    · show 1 * _ ≤ sizeLine
      have : 1 * ((n : Int)).toNat ≤ 1000 := by omega
      exact Nat.le_of_lt (small1000 this)
    rw [Int.toNat_natCast, fnL_zero n (mis (B.take 0) []) (fun e => by simp [mis])]
    have sm3 : Same H (upd (upd H l0 (.lst [.int 0])) lm (.lst (fnL n (mis (B.take 0) [])))) := sm2.trans (same_new hlm)
    have hm1 : H lm = none := sm2.free hlm
    -- for start, end in bare: missing[end] += 1
    refine ⟨_, rfl, lb, rfl, ⟨_, sm3.seq sb⟩, for_list (K := K) (a := lb) (xs := bv) (fun i σ H4 => ∃ s4 s5 : Option V, σ = [some (.int (n : Nat)), some (.ref lb), some (.ref lm), s4, s5, none, none, none] ∧
        H4 lm = some (.lst (fnL n (mis (B.take i) []))) ∧ Same H H4) ⟨_, _, rfl, upd_same, sm3⟩ (fun i σ H4 _ ⟨_, _, _, _, sm⟩ => sm.seq sb) ?_ ?_⟩
    · rintro i x σ H4 hx ⟨s4, s5, rfl, hml, sm4⟩
      obtain ⟨b, hbb, a, rfl, sq⟩ := ba1.get hx
      have hlt := hBlt b (List.mem_of_getElem? hbb)
      refine ⟨a, _, rfl, (TK.same sm4).seq sq, rfl, _, _, rfl, _, _, rfl, rfl, ?_⟩
      refine ⟨_, rfl, _, rfl, lm, _, b.2, _, rfl, rfl, SqL.of hml, fnL_get hlt.2, _, _, rfl, rfl, lm, _, _, b.2, rfl, rfl, hml, Evl.ixN_nat (by rw [fnL_len]; exact hlt.2), ?_⟩
      refine ⟨_, _, rfl, ?_, same_mut sm4 hm1⟩
      rw [upd_same]
      refine congrArg (fun z => some (HO.lst z)) (fnL_set hlt.2 ?_ ?_)
      · rw [mis_take hbb, if_pos rfl]
        show ((mis (B.take i) [] b.2 + 1 : Nat) : Int) = ((mis (B.take i) [] b.2 : Nat) : Int) + 1
        omega
      · intro j hj
        rw [mis_take hbb, if_neg (fun z => hj z.symm)]
        rfl
    · rintro σ H4 ⟨s4, s5, rfl, hml, sm4⟩
      rw [ba1.1, List.take_length] at hml
      -- placed = [gate for gate in range(many_gates) if missing[gate] == 0]
      refine ⟨_, rfl, _, rfl, by omega, by omega, fun lp hlp => ?_⟩
      refine lc_range (lo := 0) (n := ((n : Int)).toNat) (fun i Hc => Hc lp = some (.lst (((List.range i).filter fun e => mis B [] e == 0).map fun i => V.int (i : Nat))) ∧ Same H4 Hc) ⟨upd_same, same_new hlp⟩ ?_ ?_
      · rintro i Hc hi ⟨hc, sm⟩
        have hi' : i < n := by omega
        have hlen : (((List.range i).filter fun e => mis B [] e == 0).map fun i => V.int (i : Nat)).length ≤ 1000 := by
          rw [List.length_map]
          have := List.length_filter_le (fun e => mis B [] e == 0) (List.range i)
          rw [List.length_range] at this
          omega
        have e0 : (0 : Int) + (i : Int) = (i : Int) := Int.zero_add _
        rw [e0]
        refine ⟨rfl, ?_⟩
        refine ⟨_, rfl, _, rfl, lm, _, _, _, rfl, rfl, SqL.of (sm _ _ hml), atI_nat (fnL_get hi'), rfl, _, rfl, ite2 (fun e => ?_) (fun e => ?_)⟩
        · have hz : mis B [] i = 0 := by
            have := V.int.inj (of_decide_eq_true e)
            omega
          refine ⟨_, rfl, _, hc, Nat.lt_of_le_of_lt hlen (small1000 (Nat.le_refl _)), ?_, same_mut sm hlp⟩
          rw [upd_same, List.range_succ, List.filter_append, List.map_append, List.filter_cons, if_pos (by rw [hz]; rfl)]
          rfl
        · have hz : ¬ (mis B [] i == 0) = true := fun z => by
            apply e
            rw [beq_iff_eq] at z
            rw [z]
            rfl
          refine ⟨?_, sm⟩
          rw [List.range_succ, List.filter_append, List.filter_cons, if_neg hz, List.filter_nil, List.append_nil]
          exact hc
      · rintro H5 ⟨hp5, sm5⟩
        rw [Int.toNat_natCast] at hp5
        have k0 : KI B n ((List.range n).filter fun e => mis B [] e == 0) 0 := by
          refine ⟨List.nodup_range.sublist List.filter_sublist, fun e he => List.mem_range.mp (List.mem_filter.mp he).1, Nat.zero_le _, fun e he => ?_, fun j e hj b hb hbe => ?_⟩
          · rw [List.mem_filter, List.take_zero]
            simp [he]
          · have hm0 := (List.mem_filter.mp (List.mem_of_getElem? hj)).2
            rw [beq_iff_eq] at hm0
            have := mis_zero hm0 hb hbe
            simp at this
        -- the while
        have hp0 : H lp = none := sm4.free hlp
        refine ⟨fun m σ H6 => ∃ (placed : List Nat) (d : Nat) (s4 s5 : Option V), σ = [some (.int (n : Nat)), some (.ref lb), some (.ref lm), s4, s5, some (.ref lp), some (.int (d : Nat)), none] ∧
          KI B n placed d ∧ H6 lp = some (.lst (placed.map fun i => V.int (i : Nat))) ∧ H6 lm = some (.lst (fnL n (mis B (placed.take d)))) ∧ Same H H6 ∧ m = n - d, ?_, ?_⟩
        · have h5m := sm5 _ _ hml
          have e0 : mis B [] = mis B (((List.range n).filter fun e => mis B [] e == 0).take 0) := by rw [List.take_zero]
          rw [e0] at h5m
          exact ⟨n, _, 0, _, _, rfl, k0, hp5, h5m, sm4.trans sm5, rfl⟩
        · rintro m σ H6 ⟨placed, d, s4, s5, rfl, ki, hp6, hm6, sm6, rfl⟩
          have hp1 : H lp = none := sm4.free hlp
          have npm : lp ≠ lm := fun z => by
            rw [z, hml] at hlp
            cases hlp
          refine ⟨_, rfl, _, rfl, lp, _, rfl, .inl (SqL.of hp6), _, _, rfl, rfl, _, rfl, ite2 (fun e => ?_) (fun e => ?_)⟩
          · have hd : d < placed.length := by
              have e' : (d : Int) < ((placed.map fun i => V.int (i : Nat)).length : Int) := of_decide_eq_true e
              rw [List.length_map] at e'
              omega
            have hpl : ∀ placed : List Nat, placed.Nodup → (∀ e ∈ placed, e < n) → placed.length ≤ n := fun l hnd hlt => by
              have h1 : l.length = (l.filter fun e => decide (e < n)).length := by
                rw [List.filter_eq_self.mpr]
                intro a ha
                exact decide_eq_true (hlt a ha)
              have h2 := List.Nodup.length_le_of_subset hnd (l₂ := List.range n) (fun a ha => List.mem_range.mpr (hlt a ha))
              rw [List.length_range] at h2
              exact h2
            have hdn := hpl placed ki.nd ki.lt
            have hg : placed[d]? = some placed[d] := List.getElem?_eq_getElem hd
            refine ⟨fun σ H7 => ∃ (placed : List Nat) (s4 s5 : Option V), σ = [some (.int (n : Nat)), some (.ref lb), some (.ref lm), s4, s5, some (.ref lp), some (.int ((d : Nat) + 1)), none] ∧
              KI B n placed (d + 1) ∧ H7 lp = some (.lst (placed.map fun i => V.int (i : Nat))) ∧ H7 lm = some (.lst (fnL n (mis B (placed.take (d + 1))))) ∧ Same H H7, ?_, ?_⟩
            · rintro σ' H' ⟨placed', t4, t5, rfl, ki', hp', hm', sm'⟩
              exact ⟨n - (d + 1), by omega, placed', d + 1, t4, t5, rfl, ki', hp', hm', sm', rfl⟩
            · have e1 : mis B (placed.take d) = fun e => mis B (placed.take (d + 1)) e + frm (B.drop 0) placed[d] e := funext fun e => by
                rw [take_add hg, List.drop_zero]
                exact mis_split (nodup_take ki.nd hg) e
              rw [e1] at hm6
              generalize placed[d] = g at hg hm6
              refine ⟨_, rfl, lb, rfl, ⟨_, sm6.seq sb⟩, for_list (K := K) (a := lb) (xs := bv) (fun j σ H7 => ∃ (placed : List Nat) (s4 s5 : Option V), σ = [some (.int (n : Nat)), some (.ref lb), some (.ref lm), s4, s5, some (.ref lp), some (.int (d : Nat)), none] ∧
                  KJ B n placed d g j ∧ H7 lp = some (.lst (placed.map fun i => V.int (i : Nat))) ∧ H7 lm = some (.lst (fnL n fun e => mis B (placed.take (d + 1)) e + frm (B.drop j) g e)) ∧ Same H H7)
                ⟨placed, _, _, rfl, ki.go hg, hp6, hm6, sm6⟩ (fun i σ H4 _ ⟨_, _, _, _, _, _, _, sm⟩ => sm.seq sb) ?_ ?_⟩
              · rintro j x σ H7 hx ⟨placed, s4, s5, rfl, kj, hp7, hm7, sm7⟩
                obtain ⟨b, hbb, a, rfl, sq⟩ := ba1.get hx
                have hlt := hBlt b (List.mem_of_getElem? hbb)
                refine ⟨a, _, rfl, (TK.same sm7).seq sq, rfl, _, _, rfl, _, _, rfl, rfl, ?_⟩
                refine ⟨_, rfl, _, rfl, _, rfl, lp, _, _, _, rfl, rfl, SqL.of hp7, atI_nat (j := d) (by rw [List.getElem?_map, kj.at_]; rfl), rfl, _, rfl, ite2 (fun e => ?_) (fun e => ?_)⟩
                · have hbg : b.1 = g := by
                    have := V.int.inj (of_decide_eq_true e)
                    omega
                  have hfd : ∀ e, frm (B.drop j) g e = frm (B.drop (j + 1)) g e + if b.1 = g ∧ b.2 = e then 1 else 0 := fun e => frm_drop hbb g e
                  refine ⟨_, rfl, _, rfl, lm, _, b.2, _, rfl, rfl, SqL.of hm7, fnL_get hlt.2, _, _, rfl, rfl, lm, _, _, b.2, rfl, rfl, hm7, Evl.ixN_nat (by rw [fnL_len]; exact hlt.2), ?_⟩
                  have e2 : (fnL n fun e => mis B (placed.take (d + 1)) e + frm (B.drop j) g e).set b.2 (V.int (((mis B (placed.take (d + 1)) b.2 + frm (B.drop j) g b.2 : Nat) : Int) - 1)) = fnL n fun e => mis B (placed.take (d + 1)) e + frm (B.drop (j + 1)) g e := by
                    refine fnL_set hlt.2 ?_ ?_
                    · rw [hfd, if_pos ⟨hbg, rfl⟩]
                      omega
                    · intro i hi
                      rw [hfd, if_neg (fun z => hi z.2.symm)]
                      rfl
                  have hm8 : (upd H7 lm (.lst (fnL n fun e => mis B (placed.take (d + 1)) e + frm (B.drop (j + 1)) g e))) lm = some (.lst (fnL n fun e => mis B (placed.take (d + 1)) e + frm (B.drop (j + 1)) g e)) := upd_same
                  rw [← e2] at hm8
                  have hp8 : (upd H7 lm (.lst ((fnL n fun e => mis B (placed.take (d + 1)) e + frm (B.drop j) g e).set b.2 (V.int (((mis B (placed.take (d + 1)) b.2 + frm (B.drop j) g b.2 : Nat) : Int) - 1))))) lp = some (.lst (placed.map fun i => V.int (i : Nat))) := by
                    rw [upd_ne npm]
                    exact hp7
                  have sm8 := same_mut (p := lm) (o := .lst ((fnL n fun e => mis B (placed.take (d + 1)) e + frm (B.drop j) g e).set b.2 (V.int (((mis B (placed.take (d + 1)) b.2 + frm (B.drop j) g b.2 : Nat) : Int) - 1)))) sm7 hm1
                  have hg8 : ((fnL n fun e => mis B (placed.take (d + 1)) e + frm (B.drop j) g e).set b.2 (V.int (((mis B (placed.take (d + 1)) b.2 + frm (B.drop j) g b.2 : Nat) : Int) - 1)))[b.2]? = some (V.int ((mis B (placed.take (d + 1)) b.2 + frm (B.drop (j + 1)) g b.2 : Nat) : Int)) := by
                    rw [e2]
                    exact fnL_get hlt.2
                  have hm9 := hm8
                  rw [e2] at hm9
                  refine ⟨_, rfl, _, rfl, lm, _, _, _, rfl, rfl, SqL.of upd_same, atI_nat hg8, rfl, _, rfl, ite2 (fun e3 => ?_) (fun e3 => ?_)⟩
                  · have hz : mis B (placed.take (d + 1)) b.2 + frm (B.drop (j + 1)) g b.2 = 0 := by
                      have := V.int.inj (of_decide_eq_true e3)
                      omega
                    have hlp1 := hpl placed kj.nd kj.lt
                    have hdl : d < placed.length := (List.getElem?_eq_some_iff.mp kj.at_).1
                    refine ⟨_, rfl, .inl ⟨rfl, _, SqL.of hp8⟩, _, rfl, lp, _, _, rfl, rfl, hp8, by rw [List.length_map]; exact small1000 (by omega), ?_⟩
                    refine ⟨placed ++ [b.2], _, _, rfl, kj.put hbb hbg hlt.2 hz, ?_, ?_, same_mut sm8 hp1⟩
                    · rw [upd_same, List.map_append]
                      rfl
                    · rw [upd_ne npm.symm, List.take_append_of_le_length (by omega), ← e2]
                      exact upd_same
                  · have hz : mis B (placed.take (d + 1)) b.2 + frm (B.drop (j + 1)) g b.2 ≠ 0 := fun z => by
                      apply e3
                      rw [z]
                      rfl
                    refine ⟨placed, _, _, rfl, kj.not hbb hbg hz, hp8, ?_, sm8⟩
                    rw [← e2]
                    exact upd_same
                · have hbg : b.1 ≠ g := fun z => by
                    apply e
                    rw [z]
                    exact decide_eq_true rfl
                  refine ⟨placed, _, _, rfl, kj.skip hbb hbg, hp7, ?_, sm7⟩
                  have : (fun e => mis B (placed.take (d + 1)) e + frm (B.drop (j + 1)) g e) = fun e => mis B (placed.take (d + 1)) e + frm (B.drop j) g e := funext fun e => by
                    rw [frm_drop hbb, if_neg (fun z => hbg z.1)]
                    rfl
                  rw [this]
                  exact hm7
              · rintro σ H7 ⟨placed, s4, s5, rfl, kj, hp7, hm7, sm7⟩
                rw [ba1.1] at kj hm7
                refine ⟨_, rfl, _, _, rfl, rfl, placed, _, _, rfl, kj.done, hp7, ?_, sm7⟩
                rw [List.drop_length] at hm7
                exact hm7
          · have hd : d = placed.length := by
              have e' : ¬ (d : Int) < ((placed.map fun i => V.int (i : Nat)).length : Int) := fun z => e (decide_eq_true z)
              rw [List.length_map] at e'
              have := ki.le
              omega
            subst hd
            exact ⟨_, rfl, q placed lp H6 ki sm6 hp0 hp6⟩
abbrev DOrder (P : Program) (w : World) (K : PySem.W.Frag) (mg : Str → Option Value) (base : Heap) := Df P w K mg base 2 "bare_order" ["many_gates", "wires"] (spOrder K)
theorem ok_order {f fA : Addr} {fd fdA : FuncData} (F : Fun K "bare_order" "bare_order" sOrder f fd) (hm : mg "bare_order" = some (.ref f)) (B : Bt mg) (DA : DAlong P w K mg base fA fdA) : DOrder P w K mg base f fd := by
  refine ⟨?_, hm, F.kp, F.binds fun _ _ _ _ _ _ us hl => match us, hl with | [_, _], _ => rfl⟩
  refine F.ok scOrder (fun vs H Q E h => ?_) (fun cdv A outer s H vs Q E hr h => ?_)
  · obtain ⟨n, lw, ws, rfl, _⟩ := h
    rfl
  · obtain ⟨n, lw, ws, rfl, ⟨wv, sw, wa⟩, hws, hn, hwl, q⟩ := h
    have nd := scOrder.nd
    refine ⟨_, pss_one <| ps_ret <| pe_call DA.ok hr (by rfl) DA.mg DA.kp DA.bd .nil pass0 <| pa_cons (pv 0) <| (pa_cons · pa_nil) <|
      pe_lc (own := [("start", 2), ("end", 3), ("held", 4)]) (g := gTup K 3 (gCons (gName 2) (gCons (gName 3) (gCons (gName 4) gNil)))) (tt := tTest (tOp rEq (tCB (Evl.rLenS K) (tCons (tVar 4) tNil)) (tC (.int 0)))) (te := tTup (tCons (tVar 2) (tCons (tVar 3) tNil))) rfl nd
        (pi_list (pv 1)) (blkOk_by (N := nOrder) (sc := defScope sOrder) (own := [("start", 2), ("end", 3), ("held", 4)]) (by decide +kernel))
        (fun _ _ _ _ _ => pg_tup rfl (pgs_cons (pg_name (i := 2) nd rfl (Or.inl rfl)) (pgs_cons (pg_name (i := 3) nd rfl (Or.inl rfl)) (pgs_cons (pg_name (i := 4) nd rfl (Or.inl rfl)) pgs_nil))))
        (fun _ _ _ _ _ => pts_one (pt_cmpR op_eq (pe_callB call_len_seq (by rfl) B.len PySem.boot_len (pa_cons (pv 4) pa_nil)) pe_int (nomark _)))
        (fun _ _ _ _ _ => pe_tup (pa_cons (pv 2) (pa_cons (pv 3) pa_nil))), ?_⟩
    have hlw : wv.length = ws.length := wa.1
    -- bare = [..]
    refine ⟨_, rfl, _, rfl, lw, rfl, ⟨_, sw⟩, fun lb hlb => ?_⟩
    refine lc_list (K := K) (a := lw) (xs := wv) (fun i Hc => ∃ bv, Hc lb = some (.lst bv) ∧ All2 (PairV K Hc) bv (bare (ws.take i)) ∧ Same H Hc) ⟨[], upd_same, by simpa [bare] using All2.nil, same_new hlb⟩ (fun i Hc _ ⟨_, _, _, sm⟩ => sm.seq sw) ?_ ?_
    · rintro i x Hc hx ⟨bv, hb, ba, sm⟩
      obtain ⟨y, hy, a, b, rfl, sq1, sq2⟩ := wa.get hx
      have hyi : i < ws.length := (List.getElem?_eq_some_iff.mp hy).1
      have t := TK.same sm
      have hbl : bv.length ≤ 1000 := by
        rw [ba.1]
        have := bare_len (ws.take i)
        rw [List.length_take] at this
        omega
      refine ⟨a, _, rfl, t.seq sq1, rfl, _, _, rfl, _, _, rfl, _, _, rfl, rfl, rfl, ?_⟩
      refine ⟨_, rfl, b, _, rfl, .inr (t.seq sq2), rfl, _, rfl, ite2 (fun e => ?_) (fun e => ?_)⟩
      · have he : y.2.2.isEmpty = true := by
          have e' : (((y.2.2.map V.int).length : Nat) : Int) = 0 := V.int.inj (of_decide_eq_true e)
          rw [List.length_map] at e'
          rw [List.isEmpty_iff, ← List.length_eq_zero_iff]
          omega
        refine ⟨_, rfl, _, rfl, (by show 2 ≤ sizeLine; decide), fun p hp => ?_⟩
        have smp : Same Hc (upd Hc p (.tup [.int (y.1 : Nat), .int (y.2.1 : Nat)])) := same_new hp
        have npb : p ≠ lb := fun z => by
          rw [z, hb] at hp
          cases hp
        have t2 : TK Hc (upd (upd Hc p (.tup [.int (y.1 : Nat), .int (y.2.1 : Nat)])) lb (.lst (bv ++ [.ref p]))) := (TK.new hp).trans (TK.lst (smp _ _ hb))
        refine ⟨bv, smp _ _ hb, Nat.lt_of_le_of_lt hbl (small1000 (Nat.le_refl _)), bv ++ [.ref p], upd_same, ?_, same_mut (sm.trans smp) hlb⟩
        rw [bare_take hy, if_pos he]
        exact (ba.imp fun _ _ r => r.tk t2).snoc ⟨p, rfl, .inl (.inl (by rw [upd_ne npb]; exact upd_same))⟩
      · have he : ¬ y.2.2.isEmpty = true := fun z => by
          apply e
          rw [List.isEmpty_iff] at z
          rw [z]
          rfl
        exact ⟨bv, hb, by rw [bare_take hy, if_neg he]; exact ba, sm⟩
    · rintro H1 ⟨bv, hb1, ba1, sm1⟩
      rw [hlw, List.take_length] at ba1
      have hbl : bv.length ≤ 1000 := by
        rw [ba1.1]
        have := bare_len ws
        omega
      have hBlt : ∀ b ∈ bare ws, b.1 < n ∧ b.2 < n := by
        intro b hb
        obtain ⟨x, hx, rfl⟩ := List.mem_map.mp hb
        rw [List.mem_filter] at hx
        exact hws x hx.1
      exact ⟨n, lb, bv, bare ws, rfl, SqL.of hb1, ba1, hBlt, hn, by have := bare_len ws; omega, fun ord p H2 ki s2 hp h2 => q ord p H2 ki (sm1.trans s2) (sm1.free hp) h2⟩
end
end Lag

set_option maxRecDepth 100000
set_option maxHeartbeats 4000000
namespace Lag
open PySem PySem.Spec PyProof.Rows L2
abbrev sChkRings : Stmt := topS 26
abbrev sInit : Stmt := inClass (topS 19) 0
abbrev sEq : Stmt := inClass (topS 19) 1
abbrev sIns : Stmt := inClass (topS 19) 2
abbrev sOuts : Stmt := inClass (topS 19) 3
abbrev sPlaces : Stmt := topS 20
def spChkRings (K : PySem.W.Frag) : Sp := fun vs H Q _ => ∃ (n : Nat) (lw : Addr) (ws : List Wr), vs = [.int (n : Nat), .ref lw] ∧ RW K H lw ws ∧ (∀ x ∈ ws, x.1 < n ∧ x.2.1 < n) ∧ n ≤ 1000 ∧ ws.length ≤ 1000 ∧
  (∃ ρ : Nat → Nat, ∀ x ∈ ws, x.2.2 = [] → ρ x.1 < ρ x.2.1) ∧ ∀ H', Same H H' → Q .non H'
/-! ### a net's object -/
def nf (lg lw : Addr) : List (Str × V) := putF "wires" (.ref lw) (putF "gates" (.ref lg) [])
theorem gw_ne : ¬ (("gates" : Str) = "wires") := by decide +kernel
theorem nf_eq (lg lw : Addr) : nf lg lw = ([("gates", V.ref lg), ("wires", V.ref lw)] : List (Str × V)) := by
  show (if ("gates" : Str) = "wires" then [(("gates" : Str), V.ref lw)] else (("gates" : Str), V.ref lg) :: putF "wires" (V.ref lw) []) = ([("gates", V.ref lg), ("wires", V.ref lw)] : List (Str × V))
  rw [if_neg gw_ne]
  all_goals rfl
theorem nf_gates (lg lw : Addr) : (nf lg lw).lookup ("gates" : Str) = some (.ref lg) := by
  unfold nf
  rw [lookup_putF, if_neg gw_ne, lookup_putF, if_pos rfl]
theorem nf_wires (lg lw : Addr) : (nf lg lw).lookup ("wires" : Str) = some (.ref lw) := by
  unfold nf
  rw [lookup_putF, if_pos rfl]
theorem nf_no (lg lw : Addr) {m : Str} (h1 : ¬ m = "wires") (h2 : ¬ m = "gates") : (nf lg lw).lookup m = none := by
  unfold nf
  rw [lookup_putF, if_neg h1, lookup_putF, if_neg h2]
  all_goals rfl
/-- the class as the top has made it -/
structure NT (K : PySem.W.Frag) (mg : Str → Option Value) (C : Addr) : Prop where
  cl : Cls K C
  nG : NoAttr K C "gates"
  nW : NoAttr K C "wires"
  mg : mg "Net" = some (.ref C)
/-- a net at p: its own lists at lg, lw -/
structure NetAt (K : PySem.W.Frag) (C : Addr) (H : Hp) (p lg lw : Addr) (gs : List Gt) (ws : List Wr) : Prop where
  ob : ∃ dx, H p = some (.ins C dx (nf lg lw))
  g : LG K H lg gs
  w : LW K H lw ws
  ne : lg ≠ lw
theorem LG.same {K : PySem.W.Frag} {H H' : Hp} {l : Addr} {gs : List Gt} (h : LG K H l gs) (s : Same H H') : LG K H' l gs := by
  obtain ⟨vs, q, a⟩ := h
  exact ⟨vs, s _ _ q, a.imp fun _ _ r => r.tk (TK.same s)⟩
theorem LW.same {K : PySem.W.Frag} {H H' : Hp} {l : Addr} {ws : List Wr} (h : LW K H l ws) (s : Same H H') : LW K H' l ws := by
  obtain ⟨vs, q, a⟩ := h
  exact ⟨vs, s _ _ q, a.imp fun _ _ r => r.tk (TK.same s)⟩
theorem LG.rg {K : PySem.W.Frag} {H : Hp} {l : Addr} {gs : List Gt} (h : LG K H l gs) : RG K H l gs := by
  obtain ⟨vs, q, a⟩ := h
  exact ⟨vs, SqL.of q, a⟩
theorem LW.rw {K : PySem.W.Frag} {H : Hp} {l : Addr} {ws : List Wr} (h : LW K H l ws) : RW K H l ws := by
  obtain ⟨vs, q, a⟩ := h
  exact ⟨vs, SqL.of q, a⟩
theorem NetAt.same {K : PySem.W.Frag} {C : Addr} {H H' : Hp} {p lg lw : Addr} {gs : List Gt} {ws : List Wr} (n : NetAt K C H p lg lw gs ws) (s : Same H H') : NetAt K C H' p lg lw gs ws := by
  obtain ⟨dx, h⟩ := n.ob
  exact ⟨⟨dx, s _ _ h⟩, n.g.same s, n.w.same s, n.ne⟩
def spInit (K : PySem.W.Frag) (C : Addr) : Sp := fun vs H Q _ => ∃ (p dx lg lw : Addr) (gs : List Gt) (ws : List Wr), vs = [.ref p, .ref lg, .ref lw] ∧ H p = some (.ins C dx []) ∧ RG K H lg gs ∧ RW K H lw ws ∧ NetOk gs ws ∧
  ∀ (H' : Hp) (lg' lw' : Addr), NetAt K C H' p lg' lw' gs ws → H lg' = none → H lw' = none → (∀ b o, H b = some o → b ≠ p → H' b = some o) → Q .non H'
/-- the places of a kind, rising -/
def plc (gs : List Gt) (k : Str) (n : Nat) : List Nat := (List.range n).filter fun i => decide (kindAt gs i = k)
def spPlaces (K : PySem.W.Frag) : Sp := fun vs H Q _ => ∃ (k : Str) (lg : Addr) (gs : List Gt), vs = [.str k, .ref lg] ∧ RG K H lg gs ∧ gs.length ≤ 1000 ∧
  ∀ p H', H p = none → Same H H' → H' p = some (.lst ((plc gs k gs.length).map fun i => V.int (i : Nat))) → Q (.ref p) H'
def spPorts (K : PySem.W.Frag) (C : Addr) (k : Str) : Sp := fun vs H Q _ => ∃ (p lg lw : Addr) (gs : List Gt) (ws : List Wr), vs = [.ref p] ∧ NetAt K C H p lg lw gs ws ∧ gs.length ≤ 1000 ∧
  ∀ l H', H l = none → Same H H' → H' l = some (.lst ((plc gs k gs.length).map fun i => V.int (i : Nat))) → Q (.ref l) H'
section
variable {P : Program} {w : World} {K : PySem.W.Frag} {mg : Str → Option Value} {base : Heap}
theorem scChkRings : FnScope ["many_gates", "wires", "placed"] ["many_gates", "wires"] (defScope sChkRings) := ⟨rfl, rfl, rfl, by decide +kernel, rfl, by decide +kernel, by decide +kernel⟩
abbrev DChkRings (P : Program) (w : World) (K : PySem.W.Frag) (mg : Str → Option Value) (base : Heap) := Df P w K mg base 3 "check_rings" ["many_gates", "wires"] (spChkRings K)
theorem ok_chkRings {f fO : Addr} {fd fdO : FuncData} (F : Fun K "check_rings" "check_rings" sChkRings f fd) (hm : mg "check_rings" = some (.ref f)) (B : Bt mg) (DO : DOrder P w K mg base fO fdO) : DChkRings P w K mg base f fd := by
  refine ⟨?_, hm, F.kp, F.binds fun _ _ _ _ _ _ us hl => match us, hl with | [_, _], _ => rfl⟩
  refine F.ok scChkRings (fun vs H Q E h => ?_) (fun cdv A outer s H vs Q E hr h => ?_)
  · obtain ⟨n, lw, ws, rfl, _⟩ := h
    rfl
  · obtain ⟨n, lw, ws, rfl, R, hws, hn, hwl, rk, q⟩ := h
    have nd := scChkRings.nd
    refine ⟨_, pss_cons (ps_set (i := 2) nd rfl (Or.inl rfl) (pe_call DO.ok hr (by rfl) DO.mg DO.kp DO.bd .nil pass0 (pa_cons (pv 0) (pa_cons (pv 1) pa_nil)))) <|
      pss_one <| ps_if (pt_cmpR op_lt (pe_callB call_len_seq (by rfl) B.len PySem.boot_len (pa_cons (pv 2) pa_nil)) (pv 0) (nomark _)) (pss_one ps_never) pss_nil, ?_⟩
    refine ⟨_, rfl, _, rfl, n, lw, ws, rfl, R, hws, hn, hwl, fun ord p H1 ho sm hp h1 => ?_⟩
    have hpl : ord.length = n := by rw [(ho.full hws rk).length_eq, List.length_range]
    refine ⟨_, rfl, p, _, rfl, .inl (SqL.of h1), _, rfl, _, _, rfl, rfl, false, ?_, iteF (q H1 sm)⟩
    show V.bl (decide (((ord.map fun i => V.int (i : Nat)).length : Int) < (n : Int))) = V.bl false
    rw [decide_eq_false]
    rw [List.length_map, hpl]
    omega
theorem scInit : FnScope ["self", "gates", "wires"] ["self", "gates", "wires"] (defScope sInit) := ⟨rfl, rfl, rfl, by decide +kernel, rfl, by decide +kernel, by decide +kernel⟩
theorem ok_init {f fG fW fR C : Addr} {fd fdG fdW fdR : FuncData} (F : Fun K "__init__" "Net.__init__" sInit f fd) (T : NT K mg C) (B : Bt mg) (DG : DChkGates P w K mg base fG fdG) (DW : DChkWires P w K mg base fW fdW) (DR : DChkRings P w K mg base fR fdR) :
    FnOk P w K mg base CX0 6 f fd ["self", "gates", "wires"] (spInit K C) := by
  refine F.ok scInit (fun vs H Q E h => ?_) (fun cdv A outer s H vs Q E hr h => ?_)
  · obtain ⟨p, dx, lg, lw, gs, ws, rfl, _⟩ := h
    rfl
  · obtain ⟨p, dx, lg, lw, gs, ws, rfl, hp, RGs, RWs, N, q⟩ := h
    have hr4 : Room 4 _ := hr.mono (by decide)
    have hr2 : Room 3 _ := hr.mono (by decide)
    refine ⟨_, pss_cons (ps_expr (pe_call DG.ok hr4 (by rfl) DG.mg DG.kp DG.bd .nil pass0 (pa_cons (pv 1) pa_nil))) <|
      pss_cons (ps_expr (pe_call DW.ok hr (by rfl) DW.mg DW.kp DW.bd .nil pass0 (pa_cons (pv 1) (pa_cons (pv 2) pa_nil)))) <|
      pss_cons (ps_expr (pe_call DR.ok hr2 (by rfl) DR.mg DR.kp DR.bd .nil pass0 (pa_cons (pe_callB call_len_seq (by rfl) B.len PySem.boot_len (pa_cons (pv 1) pa_nil)) (pa_cons (pv 2) pa_nil)))) <|
      pss_cons (ps_fld (pv 0) (pe_callTy call_list_of (by rfl) B.list (by decide +kernel) (pa_cons (pv 1) pa_nil)) rfl) <|
      pss_one (ps_fld (pv 0) (pe_callTy call_list_of (by rfl) B.list (by decide +kernel) (pa_cons (pv 2) pa_nil)) rfl), ?_⟩
    refine ⟨_, rfl, lg, gs, rfl, RGs, N.ne, N.gok, fun H1 sm1 => ?_⟩
    refine ⟨_, rfl, _, rfl, lg, lw, gs, ws, rfl, RGs.same sm1, RWs.same sm1, N, fun H2 sm2 => ?_⟩
    have s2 := sm1.trans sm2
    obtain ⟨gv, sg, ga⟩ := RGs.same s2
    have hlg : gv.length = gs.length := ga.1
    refine ⟨_, rfl, lg, gv, rfl, .inl sg, _, rfl, gv.length, lw, ws, rfl, RWs.same s2, fun x hx => ?_, by have := N.gl; omega, N.wl, N.rank, fun H3 sm3 => ?_⟩
    · rw [hlg]
      exact ⟨(N.wok x hx).s, (N.wok x hx).e⟩
    have s3 := s2.trans sm3
    obtain ⟨gv3, sg3, ga3⟩ := RGs.same s3
    obtain ⟨wv3, sw3, wa3⟩ := RWs.same s3
    have hp3 := s3 _ _ hp
    refine ⟨_, rfl, lg, gv3, rfl, .inl sg3, fun l1 hl1 => ?_⟩
    have np1 : p ≠ l1 := ne_of_none hp3 hl1
    have sm4 : Same H3 (upd H3 l1 (.lst gv3)) := same_new hl1
    refine ⟨_, rfl, p, C, dx, [], rfl, sm4 _ _ hp3, T.cl, T.nG, (by show 0 < 1000; decide), ?_⟩
    have hw4 : SqL K (upd (upd H3 l1 (.lst gv3)) p (.ins C dx (putF "gates" (.ref l1) []))) lw wv3 := by
      rcases sm4.seq sw3 with (h | ⟨o, h⟩) | h
      · have n : lw ≠ p := fun z => by
          rw [z, sm4 _ _ hp3] at h
          cases h
        exact .inl (.inl (by rw [upd_ne n]; exact h))
      · have n : lw ≠ p := fun z => by
          rw [z, sm4 _ _ hp3] at h
          cases h
        exact .inl (.inr ⟨o, by rw [upd_ne n]; exact h⟩)
      · exact .inr h
    refine ⟨_, rfl, lw, wv3, rfl, .inl hw4, fun l2 hl2 => ?_⟩
    have np2 : p ≠ l2 := fun z => by
      rw [← z, upd_same] at hl2
      cases hl2
    have h11 : (upd (upd H3 l1 (.lst gv3)) p (.ins C dx (putF "gates" (.ref l1) []))) l1 = some (.lst gv3) := by
      rw [upd_ne np1.symm]
      exact upd_same
    have n12 : l1 ≠ l2 := ne_of_none h11 hl2
    have hl2' : H3 l2 = none := by
      rw [upd_ne np2.symm, upd_ne n12.symm] at hl2
      exact hl2
    refine ⟨_, rfl, p, C, dx, _, rfl, (by rw [upd_ne np2]; exact upd_same), T.cl, T.nW, (by show 1 < 1000; decide), ?_⟩
    have keep : ∀ b o, b ≠ p → H3 b = some o → (upd (upd (upd (upd H3 l1 (.lst gv3)) p (.ins C dx (putF "gates" (.ref l1) []))) l2 (.lst wv3)) p (.ins C dx (putF "wires" (.ref l2) (putF "gates" (.ref l1) [])))) b = some o := fun b o nb e => by
      rw [upd_ne nb, upd_ne (ne_of_none e hl2'), upd_ne nb, upd_ne (ne_of_none e hl1)]
      exact e
    have tk : TK H3 (upd (upd (upd (upd H3 l1 (.lst gv3)) p (.ins C dx (putF "gates" (.ref l1) []))) l2 (.lst wv3)) p (.ins C dx (putF "wires" (.ref l2) (putF "gates" (.ref l1) [])))) := fun b o t e => keep b o (fun z => by
      rw [z, hp3] at e
      cases e
      exact t) e
    refine q _ l1 l2 ⟨⟨dx, upd_same⟩, ⟨gv3, ?_, ga3.imp fun _ _ r => r.tk tk⟩, ⟨wv3, ?_, wa3.imp fun _ _ r => r.tk tk⟩, n12⟩ (s3.free hl1) (s3.free hl2') fun b o e nb => keep b o nb (s3 _ _ e)
    · rw [upd_ne np1.symm, upd_ne n12, upd_ne np1.symm]
      exact upd_same
    · rw [upd_ne np2.symm]
      exact upd_same
/-! ### places_of, ins, outs -/
abbrev nPlaces : List Str := ["kind", "gates", "number", "gate"]
theorem scPlaces : FnScope nPlaces ["kind", "gates"] (defScope sPlaces) := ⟨rfl, rfl, rfl, by decide +kernel, rfl, by decide +kernel, by decide +kernel⟩
abbrev DPlaces (P : Program) (w : World) (K : PySem.W.Frag) (mg : Str → Option Value) (base : Heap) := Df P w K mg base 1 "places_of" ["kind", "gates"] (spPlaces K)
theorem plc_succ {gs : List Gt} {k : Str} {i : Nat} : plc gs k (i + 1) = if kindAt gs i = k then plc gs k i ++ [i] else plc gs k i := by
  unfold plc
  rw [List.range_succ, List.filter_append, List.filter_cons]
  by_cases h : kindAt gs i = k
  · rw [if_pos h, if_pos (decide_eq_true h)]
    rfl
  · rw [if_neg h, if_neg (by simp [h]), List.filter_nil, List.append_nil]
theorem plc_len (gs : List Gt) (k : Str) (n : Nat) : (plc gs k n).length ≤ n := by
  unfold plc
  have := List.length_filter_le (fun i => decide (kindAt gs i = k)) (List.range n)
  rw [List.length_range] at this
  exact this
theorem ok_places {f : Addr} {fd : FuncData} (F : Fun K "places_of" "places_of" sPlaces f fd) (hm : mg "places_of" = some (.ref f)) (B : Bt mg) : DPlaces P w K mg base f fd := by
  refine ⟨?_, hm, F.kp, F.binds fun _ _ _ _ _ _ us hl => match us, hl with | [_, _], _ => rfl⟩
  refine F.ok scPlaces (fun vs H Q E h => ?_) (fun cdv A outer s H vs Q E hr h => ?_)
  · obtain ⟨k, lg, gs, rfl, _⟩ := h
    rfl
  · obtain ⟨k, lg, gs, rfl, ⟨gv, sg, ga⟩, hl, q⟩ := h
    have nd := scPlaces.nd
    refine ⟨_, pss_one <| ps_ret <| pe_lc (own := [("number", 2), ("gate", 3)]) (g := gTup K 2 (gCons (gName 2) (gCons (gName 3) gNil))) (tt := tTest (tOp rEq (tOp (rIxT K) (tVar 3) (tC (.int 0))) (tVar 0))) (te := tVar 2) rfl nd
      (pi_enum (by rfl) B.enum (pa_cons (pv 1) pa_nil)) (blkOk_by (N := nPlaces) (sc := defScope sPlaces) (own := [("number", 2), ("gate", 3)]) (by decide +kernel))
      (fun _ _ _ _ _ => pg_tup rfl (pgs_cons (pg_name (i := 2) nd rfl (Or.inl rfl)) (pgs_cons (pg_name (i := 3) nd rfl (Or.inl rfl)) pgs_nil)))
      (fun _ _ _ _ _ => pts_one (pt_cmpR op_eq (pe_ix ix_tup (pv 3) pe_int (fun _ _ => rfl)) (pv 0) (nomark _))) (fun _ _ _ _ _ => pv 2), ?_⟩
    have hlg : gv.length = gs.length := ga.1
    refine ⟨_, rfl, lg, gv, rfl, sg, fun D hD => ?_⟩
    refine lc_it (walk_enum (K := K) (a := lg) (xs := gv)) (fun i Hc => Hc D = some (.lst ((plc gs k i).map fun i => V.int (i : Nat))) ∧ Same H Hc) ⟨upd_same, same_new hD⟩ (fun i Hc _ ⟨_, sm⟩ => sm.seq sg) ?_ ?_
    · rintro i x Hc Hc' hi ⟨hc, sm⟩ ⟨T, x1, y, rfl, hT, rfl, ex, ey⟩
      cases ex
      obtain ⟨g, hg, a, rfl, sq⟩ := ga.get ey
      have smT : Same Hc (upd Hc T (.tup [.int (i : Nat), .ref a])) := same_new hT
      have hlen : ((plc gs k i).map fun i => V.int (i : Nat)).length ≤ 1000 := by
        rw [List.length_map]
        have := plc_len gs k i
        omega
      refine ⟨T, _, rfl, .inl (.inl upd_same), rfl, _, _, rfl, _, _, rfl, rfl, rfl, ?_⟩
      refine ⟨_, rfl, a, _, 0, _, rfl, rfl, (TK.same (sm.trans smT)).seq sq, atI_nat (j := 0) rfl, _, rfl, rfl, _, rfl, ite2 (fun e => ?_) (fun e => ?_)⟩
      · have hk : kindAt gs i = k := by
          rw [kindAt_get hg]
          exact V.str.inj (of_decide_eq_true e)
        refine ⟨_, rfl, _, smT _ _ hc, Nat.lt_of_le_of_lt hlen (small1000 (Nat.le_refl _)), ?_, same_mut (sm.trans smT) hD⟩
        rw [upd_same, plc_succ, if_pos hk, List.map_append]
        rfl
      · have hk : ¬ kindAt gs i = k := fun z => e (decide_eq_true (by rw [← z, kindAt_get hg]))
        refine ⟨?_, sm.trans smT⟩
        rw [plc_succ, if_neg hk]
        exact smT _ _ hc
    · rintro Hc ⟨hc, sm⟩
      rw [hlg] at hc
      exact q D Hc hD sm hc
theorem scIns : FnScope ["self"] ["self"] (defScope sIns) := ⟨rfl, rfl, rfl, by decide +kernel, rfl, by decide +kernel, by decide +kernel⟩
theorem ok_ins {f fP C : Addr} {fd fdP : FuncData} (F : Fun K "ins" "Net.ins" sIns f fd) (T : NT K mg C) (DP : DPlaces P w K mg base fP fdP) : FnOk P w K mg base CX0 2 f fd ["self"] (spPorts K C "in") := by
  refine F.ok scIns (fun vs H Q E h => ?_) (fun cdv A outer s H vs Q E hr h => ?_)
  · obtain ⟨p, lg, lw, gs, ws, rfl, _⟩ := h
    rfl
  · obtain ⟨p, lg, lw, gs, ws, rfl, N, hl, q⟩ := h
    obtain ⟨dx, hp⟩ := N.ob
    refine ⟨_, pss_one <| ps_ret <| pe_call DP.ok hr (by rfl) DP.mg DP.kp DP.bd .nil pass0 <| pa_cons pe_str <| pa_cons (pe_fld (pv 0) rfl) pa_nil, ?_⟩
    exact ⟨_, rfl, p, C, dx, _, _, rfl, hp, T.cl, T.nG, nf_gates _ _, "in", lg, gs, rfl, N.g.rg, hl, q⟩
theorem scOuts : FnScope ["self"] ["self"] (defScope sOuts) := ⟨rfl, rfl, rfl, by decide +kernel, rfl, by decide +kernel, by decide +kernel⟩
theorem ok_outs {f fP C : Addr} {fd fdP : FuncData} (F : Fun K "outs" "Net.outs" sOuts f fd) (T : NT K mg C) (DP : DPlaces P w K mg base fP fdP) : FnOk P w K mg base CX0 2 f fd ["self"] (spPorts K C "out") := by
  refine F.ok scOuts (fun vs H Q E h => ?_) (fun cdv A outer s H vs Q E hr h => ?_)
  · obtain ⟨p, lg, lw, gs, ws, rfl, _⟩ := h
    rfl
  · obtain ⟨p, lg, lw, gs, ws, rfl, N, hl, q⟩ := h
    obtain ⟨dx, hp⟩ := N.ob
    refine ⟨_, pss_one <| ps_ret <| pe_call DP.ok hr (by rfl) DP.mg DP.kp DP.bd .nil pass0 <| pa_cons pe_str <| pa_cons (pe_fld (pv 0) rfl) pa_nil, ?_⟩
    exact ⟨_, rfl, p, C, dx, _, _, rfl, hp, T.cl, T.nG, nf_gates _ _, "out", lg, gs, rfl, N.g.rg, hl, q⟩
end
end Lag

set_option maxRecDepth 100000
set_option maxHeartbeats 4000000
namespace Lag
open PySem PySem.Spec PyProof.Rows L2
/-! ### == and != by an own __eq__, whatever the other thing is -/
section
variable {X : Cx} {pins : List (Addr × Obj)} {σ : L2.St} {H : Hp} {s : Shared}
/-- what typeOf says -/
def TyL (X : Cx) (s : Shared) (v tb : Value) : Prop := PySem.W.Looks (model X.prog X.w) s.heap (typeOf v) tb
theorem ty_looks {y : V} {v tb : Value} (I : Inv X pins σ H s) (r : RelV y v) (t : TyOf X.K H y tb) : TyL X s v tb := by
  cases t with
  | non => cases r; exact .of_pure rfl
  | bl b => cases r; exact .of_pure rfl
  | int i => obtain ⟨t, rfl⟩ := r; exact .of_pure rfl
  | str x => obtain ⟨t, rfl⟩ := r; exact .of_pure rfl
  | flt x => obtain ⟨t, rfl⟩ := r; exact .of_pure rfl
  | @lst a xs ea =>
    cases r
    obtain ⟨_, _, n, _, h1⟩ := (show ObjOk X.prog X.w H s.heap a (.lst xs) from I.hok a _ ea)
    exact (PySem.W.Looks.ld h1).andThen .now
  | @frz a ob xs ea =>
    cases r
    obtain ⟨_, _, _, n, _, h1⟩ := (show ObjOk X.prog X.w H s.heap a (.frz ob (.lst xs)) from I.hok a _ ea)
    exact (PySem.W.Looks.ld h1).andThen .now
  | @tup a xs ea =>
    cases r
    obtain ⟨_, _, _, o, h1, h2, _⟩ := (show ObjOk X.prog X.w H s.heap a (.tup xs) from I.hok a _ ea)
    exact h2 ▸ (PySem.W.Looks.ld h1).andThen .now
  | @dK a kvs ea =>
    cases r
    obtain ⟨_, _, vs, _, o, es, ep, h1, h2, _⟩ := (show ObjOk X.prog X.w H s.heap a (.dK kvs) from I.hok a _ ea)
    exact h2.1 ▸ (PySem.W.Looks.ld h1).andThen .now
  | @dT a kvs ea =>
    cases r
    obtain ⟨_, _, xs, _, o, es, ep, h1, h2, _⟩ := (show ObjOk X.prog X.w H s.heap a (.dT kvs) from I.hok a _ ea)
    exact h2.1 ▸ (PySem.W.Looks.ld h1).andThen .now
  | @ins a C dx fs ea cl ha hn htk hm =>
    cases r
    obtain ⟨mA, O, _⟩ := ins_get I.hok ea
    obtain ⟨od, J, _⟩ := O.look
    exact J.type
/-- a call of a def from within -/
theorem call_own {n : Nat} {f : Addr} {fd : FuncData} {ps : List Str} {sp : Sp} {xs : List V} {us : List Value} {Q : VK} {A : Around} (F : FnOk X.prog X.w X.K X.mg X.base CX0 n f fd ps sp) (hb : Binds X.K fd ps []) (sb : Sub X n A) (I : Inv X pins σ H s) (rx : Vals xs us)
    (h : sp xs H Q E0) : wpAny (model X.prog X.w) A (call (.ref f) us) (EP X pins σ Q) X.xe s := by
  have e0 : Env0 X.prog X.w X.K X.mg X.base A X.stack s H := by
    have e := I.env0
    exact ⟨by rw [sb.fr]; exact e.frames, e.mod, e.bs, e.bsz, e.funs, e.frf, e.hok, e.bare⟩
  have hl := F.len _ _ _ _ h
  have hl' : us.length = ps.length := by rw [← rx.length, hl]
  refine wpAny_call (codeAny_mono (F.run A X.stack s H ⟨us, []⟩ us xs _ E0 sb.room e0 (by
    have := hb s us I.kIn (by simpa using hl')
    simpa using this) rx h) fun r s' hq => ?_)
  cases r with
  | error e => exact False.elim hq
  | ok fl =>
    cases fl with
    | ret w => exact I.after hq
    | next => exact False.elim hq
    | brk => exact False.elim hq
    | cont => exact False.elim hq
/-- a special method that is a built-in -/
theorem ifBound_B {M : Model} {K : PySem.W.Frag} {A : Around} {E : Value → Shared → Prop} {s : Shared} {x C : Addr} {ox : Obj} {od : Option Obj} {name : Str} {id : String} {args : List Value} {Q : Option Value → Shared → Prop} (X : K.In s.heap) (I : PySem.W.InstAt s.heap x ox C od)
    (hs : PySem.W.findIn K (.ref C) name = some (some (.builtin id))) (hb : ∀ self, bindSpecial (.builtin id) self = pure (.builtin id, [self]))
    (h : wpAny M A (call (.builtin id) (.ref x :: args)) (fun v => Q (some v)) E s) : wpAny M A (callSpecialIfBound? (.ref x) name args) Q E s := by
  simp only [callSpecialIfBound?, bindSpecialIfBound?]
  refine wpAny_holding (wpAny_bind (wpAny_bind (wpAny_bind (I.type.here ((PySem.W.looks_findIn X hs).here ?_)))))
  refine wpAny_bind (wpAny_askSetting (wpAny_ite ?_))
  have fin : wpAny M A (call (.builtin id) ([.ref x] ++ args) >>= fun v => pure (some v)) Q E s := wpAny_bind (wpAny_mono h (fun v s' h' => wpAny_pure h') fun _ _ h' => h')
  split
  · exact wpAny_bind (wpAny_of_eq (hb _) (wpAny_pure (by exact fin)))
  · exact wpAny_tryCatch (wpAny_bind (wpAny_of_eq (hb _) (wpAny_pure (by exact fin))))
theorem bind_ne (self : Value) : bindSpecial (.builtin "object.__ne__") self = pure (.builtin "object.__ne__", [self]) := PySem.F.slot_tuple_iterator_ne.bind self
theorem ne_body {K : PySem.W.Frag} {prog : Program} {w : World} {A : Around} {E : Value → Shared → Prop} {s : Shared} {x C f : Addr} {ox : Obj} {od : Option Obj} {b : Value} {Q : Fin → Shared → Prop} (X : K.In s.heap) (I : PySem.W.InstAt s.heap x ox C od)
    (hs : PySem.W.findIn K (.ref C) "__eq__" = some (some (.ref f))) (hf : PySem.W.isFn K (.ref f) = true) (hu : A.units < cLine)
    (hcall : wpAny (model prog w) A (call (.ref f) [.ref x, b]) (fun v s' => ∃ c, v = .bool c ∧ Q (.done (.ret (.bool (!c)))) s') E s) :
    wpAny (model prog w) A (Builtin.«object.__ne__» ⟨[.ref x, b], []⟩) Q E s := by
  obtain ⟨h, g, d, t, os⟩ := s
  unfold Builtin.«object.__ne__»
  repeat (first
    | with_reducible refine wpAny_cRoomFor hu ?_
    | (refine wpAny_bind (m := callSpecialIfBound? (.ref x) (Str.ofString "__eq__") [b])
        (PySem.W.ifBound_K X I hs hf (wpAny_mono hcall (fun r s' hr => by
          obtain ⟨c, rfl, hq⟩ := hr
          repeat (first | exact hq | exact wpAny_pure hq | exact wpAny_truthy_bool hq | (refine wpAny_bind (m := truthy (.bool _)) (wpAny_truthy_bool ?_)) | wp_step)) fun _ _ e => e)))
    | wp_step)
theorem op_eqO {n : Nat} {C f : Addr} {fd : FuncData} {ps : List Str} {sp : Sp} (F : FnOk X.prog X.w X.K X.mg X.base CX0 n f fd ps sp) (hs : PySem.W.findIn X.K (.ref C) "__eq__" = some (some (.ref f))) (hf : PySem.W.isFn X.K (.ref f) = true) (hb : Binds X.K fd ps []) (hr : Room n X.A) :
    OpR X (compareOp .Eq) (fun x y H Q => ∃ a dx fs tb, x = .ref a ∧ H a = some (.ins C dx fs) ∧ TyOf X.K H y tb ∧ PySem.W.notFirst X.K C tb = true ∧ sp [x, y] H (fun v H' => ∃ c, v = .bl c ∧ Q v H') E0) := by
  intro pins s σ H x y u v Q I rx ry h
  obtain ⟨a, dx, fs, tb, rfl, ha, ty, nf, q⟩ := h
  cases rx
  obtain ⟨mA, J, _⟩ := ins_get I.hok ha
  obtain ⟨od, J, _⟩ := J.look
  obtain ⟨m, hF⟩ := I.fr
  show wpAny (model X.prog X.w) X.A (richCompare .Eq (.ref a) v) (EP X pins σ Q) X.xe s
  refine PySem.W.cmp_K (op := .Eq) (tb := tb) hr.units0 hF I.ok.mod.kin J (ty_looks I ry ty) nf hs hf ?_
  refine wpAny_mono (call_own F hb ⟨hr, rfl⟩ I (.cons (show RelV (V.ref a) (Value.ref a) from rfl) (.cons ry .nil)) q) (fun r s' z => ?_) fun _ _ x => x
  obtain ⟨z, H', I', rz, c, ez, q'⟩ := z
  subst ez
  cases rz
  exact ⟨.bl c, H', I', rfl, q'⟩
theorem op_neO {n : Nat} {C f : Addr} {fd : FuncData} {ps : List Str} {sp : Sp} (F : FnOk X.prog X.w X.K X.mg X.base CX0 n f fd ps sp) (hs : PySem.W.findIn X.K (.ref C) "__eq__" = some (some (.ref f))) (hn : PySem.W.findIn X.K (.ref C) "__ne__" = some (some (.builtin "object.__ne__")))
    (ho : PySem.W.mroIn X.K C (.type "object") = some true) (hf : PySem.W.isFn X.K (.ref f) = true) (hb : Binds X.K fd ps []) (hr : Room (n + 1) X.A) :
    OpR X (compareOp .NotEq) (fun x y H Q => ∃ a dx fs tb, x = .ref a ∧ H a = some (.ins C dx fs) ∧ TyOf X.K H y tb ∧ PySem.W.notFirst X.K C tb = true ∧ sp [x, y] H (fun v H' => ∃ c, v = .bl c ∧ Q (.bl (!c)) H') E0) := by
  intro pins s σ H x y u v Q I rx ry h
  obtain ⟨a, dx, fs, tb, rfl, ha, ty, nf, q⟩ := h
  cases rx
  obtain ⟨mA, J, _⟩ := ins_get I.hok ha
  obtain ⟨od, J, _⟩ := J.look
  have hb' := ty_looks I ry ty
  have sb : Sub X (n + 1) X.A := ⟨hr, rfl⟩
  show wpAny (model X.prog X.w) X.A (richCompare .NotEq (.ref a) v) (EP X pins σ Q) X.xe s
  have one : wpAny (model X.prog X.w) X.A (tryCompare (.ref a) "__ne__" v) (fun r s' => ∃ w, r = some w ∧ EP X pins σ Q w s') X.xe s := by
    unfold tryCompare
    refine wpAny_bind (ifBound_B I.kIn J hn bind_ne (wpAny_call (codeAny_call_builtin PySem.F.slot_tuple_iterator_ne.plain PySem.F.cmpEntry_ne
      (PySem.W.check_slot PySem.F.cmpKind_ne PySem.F.cmpSplit_ne (J.type.andThen (PySem.W.looks_mroIn I.kIn ho)) (PySem.F.cmpArgs_ne _ _)
        (ne_body I.kIn J hs hf sb.in1.room.units0 (wpAny_mono (call_own F hb sb.in1 I (.cons (show RelV (V.ref a) (Value.ref a) from rfl) (.cons ry .nil)) q) (fun r s' z => ?_) fun _ _ x => x))))))
    obtain ⟨z, H', I', rz, c, ez, q'⟩ := z
    subst ez
    cases rz
    have fin : EP X pins σ Q (.bool (!c)) s' := ⟨.bl (!c), H', I', rfl, q'⟩
    first | exact ⟨c, rfl, wpAny_pure ⟨_, rfl, fin⟩⟩ | exact ⟨c, rfl, wpAny_pure (wpAny_pure ⟨_, rfl, fin⟩)⟩ | exact ⟨c, rfl, ⟨_, rfl, fin⟩⟩
  unfold richCompare
  simp only [oneThing_ref]
  refine wpAny_holding (wpAny_bind (wpAny_cRoomFor hr.units0 ?_))
  refine wpAny_bind (J.type.here (wpAny_bind (hb'.here ?_)))
  split
  · rename_i q'
    have e : PySem.W.subIn X.K tb (.ref C) = some false := by
      rcases Bool.or_eq_true_iff.mp nf with e | e
      · rw [beq_iff_eq.mp e] at q'; simp at q'
      · exact beq_iff_eq.mp e
    refine wpAny_bind ((PySem.W.looks_subIn I.kIn e).here ?_)
    simp only [Bool.false_eq_true, if_false]
    refine wpAny_bind (wpAny_mono one (fun r s' z => ?_) fun _ _ e => e)
    obtain ⟨v, rfl, hq⟩ := z
    exact wpAny_pure hq
  · refine wpAny_bind (wpAny_pure ?_)
    simp only [Bool.false_eq_true, if_false]
    refine wpAny_bind (wpAny_mono one (fun r s' z => ?_) fun _ _ e => e)
    obtain ⟨v, rfl, hq⟩ := z
    exact wpAny_pure hq
end
end Lag

set_option maxRecDepth 100000
set_option maxHeartbeats 4000000
namespace Lag
open PySem PySem.Spec PyProof.Rows L2
/-! ### nets as data that is compared -/
def gateD (g : Gt) : PyData := .tuple [.str g.1, .int g.2]
def gatesD (gs : List Gt) : PyData := .list (gs.map gateD)
def wireD (x : Wr) : PyData := .tuple [.int (x.1 : Nat), .int (x.2.1 : Nat), .tuple (x.2.2.map PyData.int)]
def wiresD (ws : List Wr) : PyData := .list (ws.map wireD)
def intsD (l : List Nat) : PyData := .list (l.map fun i => .int (i : Nat))
theorem eqvAll_map {α : Type} [DecidableEq α] {f : α → PyData} (h : ∀ x y, PyData.eqv (f x) (f y) = decide (x = y)) : ∀ xs ys : List α, PyData.eqvAll (xs.map f) (ys.map f) = decide (xs = ys)
  | [], [] => rfl
  | [], _ :: _ => rfl
  | _ :: _, [] => rfl
  | x :: xs, y :: ys => by
    show (PyData.eqv (f x) (f y) && PyData.eqvAll (xs.map f) (ys.map f)) = _
    rw [h, eqvAll_map h xs ys, Bool.eq_iff_iff]
    simp
theorem gateD_eq (a b : Gt) : PyData.eqv (gateD a) (gateD b) = decide (a = b) := by
  show ((a.1 == b.1) && ((a.2 == b.2) && true)) = _
  rw [Bool.eq_iff_iff]
  simp [Prod.ext_iff]
theorem gatesD_eq (a b : List Gt) : PyData.eqv (gatesD a) (gatesD b) = decide (a = b) := eqvAll_map gateD_eq a b
theorem intD_eq (a b : Int) : PyData.eqv (.int a) (.int b) = decide (a = b) := rfl
theorem wireD_eq (a b : Wr) : PyData.eqv (wireD a) (wireD b) = decide (a = b) := by
  show ((((a.1 : Nat) : Int) == ((b.1 : Nat) : Int)) && ((((a.2.1 : Nat) : Int) == ((b.2.1 : Nat) : Int)) && (PyData.eqvAll (a.2.2.map PyData.int) (b.2.2.map PyData.int) && true))) = _
  rw [eqvAll_map intD_eq, Bool.eq_iff_iff]
  simp only [Bool.and_eq_true, beq_iff_eq, decide_eq_true_eq, and_true]
  constructor
  · rintro ⟨h1, h2, h3⟩
    exact Prod.ext (by omega) (Prod.ext (by show a.2.1 = b.2.1; omega) h3)
  · rintro rfl
    exact ⟨rfl, rfl, rfl⟩
theorem wiresD_eq (a b : List Wr) : PyData.eqv (wiresD a) (wiresD b) = decide (a = b) := eqvAll_map wireD_eq a b
theorem natD_eq (a b : Nat) : PyData.eqv (.int (a : Nat)) (.int (b : Nat)) = decide (a = b) := by
  show (((a : Nat) : Int) == ((b : Nat) : Int)) = _
  rw [Bool.eq_iff_iff]
  simp
  omega
theorem intsD_eq (a b : List Nat) : PyData.eqv (intsD a) (intsD b) = decide (a = b) := eqvAll_map natD_eq a b
theorem lay_all {ds : List PyData} : (∀ d ∈ ds, PyData.canLay0 d = true) → PyData.canLayAll0 ds = true := by
  induction ds with
  | nil => intro _; rfl
  | cons d ds ih =>
    intro h
    show (PyData.canLay0 d && PyData.canLayAll0 ds) = true
    rw [h d (List.mem_cons_self ..), ih fun x hx => h x (List.mem_cons_of_mem _ hx)]
    rfl
theorem depth_all {ds : List PyData} {k : Nat} : (∀ d ∈ ds, PyData.depth d ≤ k) → PyData.depthAll ds ≤ k := by
  induction ds with
  | nil => intro _; exact Nat.zero_le _
  | cons d ds ih =>
    intro h
    show max (PyData.depth d) (PyData.depthAll ds) ≤ k
    have h1 := h d (List.mem_cons_self ..)
    have h2 := ih fun x hx => h x (List.mem_cons_of_mem _ hx)
    omega
/-- such data may be compared, to the depth k -/
def Sh (k : Nat) (d : PyData) : Prop := PyData.canLay0 d = true ∧ PyData.depth d ≤ k
theorem Sh.ok {k : Nat} {d : PyData} (h : Sh k d) (hk : k ≤ 64) : SeqAt.shaped d = true := by
  show (PyData.canLay0 d && decide (PyData.depth d ≤ 64)) = true
  rw [h.1, decide_eq_true (Nat.le_trans h.2 hk)]
  rfl
theorem sh_list {k : Nat} {ds : List PyData} (h : ∀ d ∈ ds, Sh k d) : Sh (k + 1) (.list ds) := ⟨lay_all fun d hd => (h d hd).1, Nat.succ_le_succ (depth_all fun d hd => (h d hd).2)⟩
theorem sh_tuple {k : Nat} {ds : List PyData} (h : ∀ d ∈ ds, Sh k d) : Sh (k + 1) (.tuple ds) := ⟨lay_all fun d hd => (h d hd).1, Nat.succ_le_succ (depth_all fun d hd => (h d hd).2)⟩
theorem sh_int {k : Nat} (i : Int) : Sh k (.int i) := ⟨rfl, Nat.zero_le _⟩
theorem kinds_str : ∀ k ∈ kinds, PyData.canLay0 (.str k) = true := by decide +kernel
theorem sh_kind {k : Nat} {z : Str} (h : z ∈ kinds) : Sh k (.str z) := ⟨kinds_str z h, Nat.zero_le _⟩
theorem sh_gates {gs : List Gt} (h : ∀ g ∈ gs, GOk g) : Sh 2 (gatesD gs) := by
  refine sh_list fun d hd => ?_
  obtain ⟨g, hg, rfl⟩ := List.mem_map.mp hd
  refine sh_tuple fun d hd => ?_
  simp only [List.mem_cons, List.not_mem_nil, or_false] at hd
  rcases hd with rfl | rfl
  · exact sh_kind (h g hg).1
  · exact sh_int _
theorem sh_wires (ws : List Wr) : Sh 3 (wiresD ws) := by
  refine sh_list fun d hd => ?_
  obtain ⟨g, hg, rfl⟩ := List.mem_map.mp hd
  refine sh_tuple fun d hd => ?_
  simp only [List.mem_cons, List.not_mem_nil, or_false] at hd
  rcases hd with rfl | rfl | rfl
  · exact sh_int _
  · exact sh_int _
  · refine sh_tuple fun d hd => ?_
    obtain ⟨i, _, rfl⟩ := List.mem_map.mp hd
    exact sh_int _
theorem sh_ints (l : List Nat) : Sh 1 (intsD l) := by
  refine sh_list fun d hd => ?_
  obtain ⟨i, _, rfl⟩ := List.mem_map.mp hd
  exact sh_int _
section
variable {K : PySem.W.Frag} {H : Hp}
theorem dp_all {α : Type} {R : V → α → Prop} {f : α → PyData} (h : ∀ v x, R v x → Dp K H v (f x)) : ∀ {vs : List V} {xs : List α}, All2 R vs xs → DpAll K H vs (xs.map f)
  | [], [], _ => .nil
  | [], _ :: _, a => by have := a.1; simp at this
  | _ :: _, [], a => by have := a.1; simp at this
  | _ :: _, _ :: _, a => .cons (h _ _ a.head) (dp_all h a.tail)
theorem GateV.dp {v : V} {g : Gt} (h : GateV K H v g) : Dp K H v (gateD g) := by
  obtain ⟨a, rfl, s⟩ := h
  exact .tup s (.cons (.str _) (.cons (.int _) .nil))
theorem ints_dp : ∀ l : List Int, DpAll K H (l.map V.int) (l.map PyData.int)
  | [] => .nil
  | i :: l => .cons (.int i) (ints_dp l)
theorem nats_dp : ∀ l : List Nat, DpAll K H (l.map fun i => V.int (i : Nat)) (l.map fun i => PyData.int (i : Nat))
  | [] => .nil
  | i :: l => .cons (.int _) (nats_dp l)
theorem WireV.dp {v : V} {x : Wr} (h : WireV K H v x) : Dp K H v (wireD x) := by
  obtain ⟨a, b, rfl, s1, s2⟩ := h
  exact .tup s1 (.cons (.int _) (.cons (.int _) (.cons (.tup s2 (ints_dp _)) .nil)))
theorem RG.dp {l : Addr} {gs : List Gt} (h : RG K H l gs) : Dp K H (.ref l) (gatesD gs) := by
  obtain ⟨vs, s, a⟩ := h
  exact .lst s (dp_all (fun _ _ r => GateV.dp r) a)
theorem RW.dp {l : Addr} {ws : List Wr} (h : RW K H l ws) : Dp K H (.ref l) (wiresD ws) := by
  obtain ⟨vs, s, a⟩ := h
  exact .lst s (dp_all (fun _ _ r => WireV.dp r) a)
theorem dp_ints {l : Addr} {xs : List Nat} (h : SqL K H l (xs.map fun i => V.int (i : Nat))) : Dp K H (.ref l) (intsD xs) := .lst h (nats_dp xs)
end
/-! ### Net.__eq__ -/
structure NTy (K : PySem.W.Frag) (C : Addr) : Prop where
  ha : PySem.W.findIn K (.ref C) "__class__" = some (some (.builtin "object.__class__"))
  hn : PySem.W.specialIn K (.builtin "object.__class__") "__get__" = some (some (.builtin "getset_descriptor.__get__"))
  htk : PySem.W.takesIn K (.builtin "object.__class__") = some true
  hm : PySem.W.mroIn K C (.type "object") = some true
theorem ty_net {K : PySem.W.Frag} {mg : Str → Option Value} {C : Addr} {H : Hp} {p dx : Addr} {fs : List (Str × V)} (T : NT K mg C) (Y : NTy K C) (h : H p = some (.ins C dx fs)) : TyOf K H (.ref p) (.ref C) := .ins h T.cl Y.ha Y.hn Y.htk Y.hm
def spEqN (K : PySem.W.Frag) (C : Addr) : Sp := fun vs H Q _ => ∃ (p lg lw : Addr) (gs : List Gt) (ws : List Wr) (y : V), vs = [.ref p, y] ∧ NetAt K C H p lg lw gs ws ∧
  ((∃ (q lg' lw' : Addr) (gs' : List Gt) (ws' : List Wr), y = .ref q ∧ NetAt K C H q lg' lw' gs' ws' ∧ (∀ g ∈ gs, GOk g) ∧ (∀ g ∈ gs', GOk g) ∧ Q (.bl (decide (gs = gs') && decide (ws = ws'))) H) ∨
    (∃ t, TyX K H y t ∧ PySem.W.kitOne K t (.ref C) = some false ∧ Q (.bl false) H))
section
variable {P : Program} {w : World} {K : PySem.W.Frag} {mg : Str → Option Value} {base : Heap}
theorem scEq : FnScope ["self", "other"] ["self", "other"] (defScope sEq) := ⟨rfl, rfl, rfl, by decide +kernel, rfl, by decide +kernel, by decide +kernel⟩
theorem kit_self {K : PySem.W.Frag} (C : Addr) : PySem.W.kitOne K (.ref C) (.ref C) = some true := by
  unfold PySem.W.kitOne
  rw [if_pos (beq_self_eq_true _)]
theorem ok_eqN {f C : Addr} {fd : FuncData} (F : Fun K "__eq__" "Net.__eq__" sEq f fd) (T : NT K mg C) (Y : NTy K C) (B : Bt mg) : FnOk P w K mg base CX0 1 f fd ["self", "other"] (spEqN K C) := by
  refine F.ok scEq (fun vs H Q E h => ?_) (fun cdv A outer s H vs Q E hr h => ?_)
  · obtain ⟨p, lg, lw, gs, ws, y, rfl, _⟩ := h
    rfl
  · obtain ⟨p, lg, lw, gs, ws, y, rfl, N, h⟩ := h
    refine ⟨_, pss_one <| ps_ret <| pe_and (pe_callB call_isi (by rfl) B.isi (by decide +kernel) (pa_cons (pv 1) (pa_cons (pe_glob (v := .ref C) (by rfl) T.mg rfl) pa_nil))) <|
      pe_and (pe_cmpR (op_eqD hr.units) (pe_fld (pv 0) rfl) (pe_fld (pv 1) rfl) (nomark _)) <| pe_one <| pe_cmpR (op_eqD hr.units) (pe_fld (pv 0) rfl) (pe_fld (pv 1) rfl) (nomark _), ?_⟩
    obtain ⟨dx, hp⟩ := N.ob
    rcases h with ⟨q, lg', lw', gs', ws', rfl, N', gok, gok', k⟩ | ⟨t, ty, kt, k⟩
    · obtain ⟨dx', hq⟩ := N'.ob
      refine ⟨_, rfl, _, _, _, _, true, rfl, .own C, .base (ty_net T Y hq), kit_self C, true, rfl, iteT ?_⟩
      refine ⟨_, rfl, p, C, dx, _, _, rfl, hp, T.cl, T.nG, nf_gates _ _, _, rfl, q, C, dx', _, _, rfl, hq, T.cl, T.nG, nf_gates _ _, _, _, N.g.rg.dp, N'.g.rg.dp, (sh_gates gok).ok (by decide), (sh_gates gok').ok (by decide), _, rfl, ?_⟩
      rw [gatesD_eq]
      cases e : decide (gs = gs') with
      | false =>
        rw [e] at k
        exact iteF k
      | true =>
        rw [e] at k
        refine iteT ⟨_, rfl, p, C, dx, _, _, rfl, hp, T.cl, T.nW, nf_wires _ _, _, rfl, q, C, dx', _, _, rfl, hq, T.cl, T.nW, nf_wires _ _, _, _, N.w.rw.dp, N'.w.rw.dp, (sh_wires _).ok (by decide), (sh_wires _).ok (by decide), ?_⟩
        rw [wiresD_eq]
        exact k
    · exact ⟨_, rfl, _, _, _, _, false, rfl, .own C, ty, kt, false, rfl, iteF k⟩
end
end Lag

set_option maxRecDepth 100000
set_option maxHeartbeats 4000000
namespace Lag
open PySem PySem.Spec PyProof.Rows L2
/-! ### what keeps a net a net -/
theorem kindAt_set {gs : List Gt} {i j : Nat} {g : Gt} (h : i < gs.length) : kindAt (gs.set i g) j = if j = i then g.1 else kindAt gs j := by
  unfold kindAt
  rw [List.getD_eq_getElem?_getD, List.getD_eq_getElem?_getD, List.getElem?_set]
  by_cases e : i = j
  · subst e
    rw [if_pos rfl, if_pos h, if_pos rfl]
    rfl
  · rw [if_neg e, if_neg (fun z => e z.symm)]
/-- another gate at a place whose gate is no port: no port, and no first where it was none -/
theorem NetOk.setG {gs : List Gt} {ws : List Wr} (N : NetOk gs ws) {i : Nat} {g : Gt} (hi : i < gs.length) (hg : GOk g) (h1 : g.1 ≠ "out") (h2 : g.1 ≠ "in") (h3 : g.1 = "first" → kindAt gs i = "first") : NetOk (gs.set i g) ws := by
  have kk := @kindAt_set gs i
  refine ⟨?_, by rw [List.length_set]; exact N.gl, N.wl, ?_, fun x hx => ?_, fun e he hk => ?_, fun e he hk => ?_, N.rank⟩
  · intro z
    have := congrArg List.length z
    rw [List.length_set] at this
    exact N.ne (List.length_eq_zero_iff.mp this)
  · intro y hy
    rcases List.mem_or_eq_of_mem_set hy with hy | hy
    · exact N.gok y hy
    · rw [hy]
      exact hg
  · have W := N.wok x hx
    refine ⟨by rw [List.length_set]; exact W.s, by rw [List.length_set]; exact W.e, ?_, ?_, W.r, W.rl⟩
    · rw [kk hi]
      split
      · exact h1
      · exact W.ks
    · rw [kk hi]
      split
      · exact h2
      · exact W.ke
  · rw [List.length_set] at he
    rw [kk hi] at hk
    split at hk
    · exact absurd hk h1
    · exact N.one e he hk
  · rw [List.length_set] at he
    rw [kk hi] at hk
    split at hk
    · rename_i hei
      subst hei
      exact N.some _ he (h3 hk)
    · exact N.some e he hk
theorem kindAt_app {gs : List Gt} {g : Gt} {j : Nat} (h : j < gs.length) : kindAt (gs ++ [g]) j = kindAt gs j := by
  unfold kindAt
  rw [List.getD_eq_getElem?_getD, List.getD_eq_getElem?_getD, List.getElem?_append_left h]
theorem NetOk.addIn {gs : List Gt} {ws : List Wr} (N : NetOk gs ws) (hl : gs.length < 100) : NetOk (gs ++ [(("in" : Str), (0 : Int))]) ws := by
  have kl : kindAt (gs ++ [(("in" : Str), (0 : Int))]) gs.length = "in" := by
    unfold kindAt
    rw [List.getD_eq_getElem?_getD, List.getElem?_append_right (Nat.le_refl _), Nat.sub_self]
    rfl
  refine ⟨by simp, by simp; omega, N.wl, ?_, fun x hx => ?_, fun e he hk => ?_, fun e he hk => ?_, N.rank⟩
  · intro y hy
    rcases List.mem_append.mp hy with hy | hy
    · exact N.gok y hy
    · simp at hy
      subst hy
      exact ⟨by show ("in" : Str) ∈ kinds; decide +kernel, Int.le_refl 0, (by show (0 : Int) ≤ 100; decide), fun _ => rfl⟩
  · have W := N.wok x hx
    exact ⟨by have := W.s; simp; omega, by have := W.e; simp; omega, by rw [kindAt_app W.s]; exact W.ks, by rw [kindAt_app W.e]; exact W.ke, W.r, W.rl⟩
  · by_cases h : e < gs.length
    · rw [kindAt_app h] at hk
      exact N.one e h hk
    · have : e = gs.length := by simp at he; omega
      subst this
      rw [kl] at hk
      exact absurd hk (by decide +kernel)
  · by_cases h : e < gs.length
    · rw [kindAt_app h] at hk
      exact N.some e h hk
    · have : e = gs.length := by simp at he; omega
      subst this
      rw [kl] at hk
      exact absurd hk (by decide +kernel)
theorem cnt_set {ws : List Wr} {i : Nat} {x y : Wr} (h : ws[i]? = some x) (he : y.2.1 = x.2.1) (e : Nat) : cnt (ws.set i y) e = cnt ws e := by
  obtain ⟨hi, rfl⟩ := List.getElem?_eq_some_iff.mp h
  have h1 : ws.set i y = ws.take i ++ y :: ws.drop (i + 1) := List.set_eq_take_append_cons_drop .. |>.trans (by rw [if_pos hi])
  have h2 : ws = ws.take i ++ ws[i] :: ws.drop (i + 1) := by rw [List.getElem_cons_drop, List.take_append_drop]
  unfold cnt
  conv => rhs; rw [h2]
  rw [h1, List.countP_append, List.countP_append, List.countP_cons, List.countP_cons, he]
/-- a wire with other registers, one at least -/
theorem NetOk.setW {gs : List Gt} {ws : List Wr} (N : NetOk gs ws) {i : Nat} {x : Wr} {r : List Int} (h : ws[i]? = Option.some x) (hr : ROk r) (hl : r.length ≤ 100) (hne : r ≠ []) : NetOk gs (ws.set i (x.1, x.2.1, r)) := by
  have W := N.wok x (List.mem_of_getElem? h)
  obtain ⟨ρ, hρ⟩ := N.rank
  refine ⟨N.ne, N.gl, by rw [List.length_set]; exact N.wl, N.gok, fun y hy => ?_, fun e he hk => ?_, fun e he hk => ?_, ρ, fun y hy hyr => ?_⟩
  · rcases List.mem_or_eq_of_mem_set hy with hy | hy
    · exact N.wok y hy
    · rw [hy]
      exact ⟨W.s, W.e, W.ks, W.ke, hr, hl⟩
  · rw [cnt_set (y := (x.1, x.2.1, r)) h rfl]
    exact N.one e he hk
  · rw [cnt_set (y := (x.1, x.2.1, r)) h rfl]
    exact N.some e he hk
  · rcases List.mem_or_eq_of_mem_set hy with hy | hy
    · exact hρ y hy hyr
    · rw [hy] at hyr
      exact absurd hyr hne
theorem NetOk.perm {gs : List Gt} {ws ws' : List Wr} (N : NetOk gs ws) (p : ws'.Perm ws) : NetOk gs ws' := by
  obtain ⟨ρ, hρ⟩ := N.rank
  have c : ∀ e, cnt ws' e = cnt ws e := fun e => p.countP_eq _
  exact ⟨N.ne, N.gl, by rw [p.length_eq]; exact N.wl, N.gok, fun x hx => N.wok x (p.mem_iff.mp hx), fun e he hk => by rw [c]; exact N.one e he hk, fun e he hk => by rw [c]; exact N.some e he hk, ρ, fun x hx h => hρ x (p.mem_iff.mp hx) h⟩
/-! ### slices -/
theorem take_min {α : Type} (l : List α) (k : Nat) : l.take (min k l.length) = l.take k := by
  by_cases h : k ≤ l.length
  · rw [Nat.min_eq_left h]
  · rw [Nat.min_eq_right (by omega), List.take_length, List.take_of_length_le (by omega)]
theorem drop_min {α : Type} (l : List α) (k : Nat) : l.drop (min k l.length) = l.drop k := by
  by_cases h : k ≤ l.length
  · rw [Nat.min_eq_left h]
  · rw [Nat.min_eq_right (by omega), List.drop_length, List.drop_of_length_le (by omega)]
theorem cut_to {xs : List V} (k : Nat) : cutV xs none (some (k : Int)) = xs.take k := by
  unfold cutV
  rw [HT.sIx_none, HT.sIx_nat, List.drop_zero, Nat.sub_zero, take_min]
theorem cut_from {xs : List V} (k : Nat) : cutV xs (some (k : Int)) none = xs.drop k := by
  unfold cutV
  rw [HT.sIx_none, HT.sIx_nat, drop_min]
  exact List.take_of_length_le (by rw [List.length_drop]; omega)
theorem cut_mid {xs : List V} (j k : Nat) : cutV xs (some (j : Int)) (some (k : Int)) = (xs.take k).drop j := by
  unfold cutV
  rw [HT.sIx_nat, HT.sIx_nat, List.drop_take, drop_min]
  by_cases h : j ≤ xs.length
  · by_cases h2 : k ≤ xs.length
    · rw [Nat.min_eq_left h, Nat.min_eq_left h2]
    · rw [List.take_of_length_le (by rw [List.length_drop]; omega), List.take_of_length_le (by rw [List.length_drop]; omega)]
  · rw [List.drop_of_length_le (by omega)]
    simp
section
variable {α β : Type} {R : α → β → Prop} {xs xs' : List α} {ys ys' : List β}
theorem All2.take (h : All2 R xs ys) (k : Nat) : All2 R (xs.take k) (ys.take k) := by
  refine ⟨by rw [List.length_take, List.length_take, h.1], fun i x y hx hy => ?_⟩
  have hi : i < k := by
    have := (List.getElem?_eq_some_iff.mp hx).1
    rw [List.length_take] at this
    omega
  rw [List.getElem?_take_of_lt hi] at hx hy
  exact h.2 i x y hx hy
theorem All2.drop (h : All2 R xs ys) (k : Nat) : All2 R (xs.drop k) (ys.drop k) := by
  refine ⟨by rw [List.length_drop, List.length_drop, h.1], fun i x y hx hy => ?_⟩
  rw [List.getElem?_drop] at hx hy
  exact h.2 _ x y hx hy
theorem All2.append (h : All2 R xs ys) (h' : All2 R xs' ys') : All2 R (xs ++ xs') (ys ++ ys') := by
  induction xs generalizing ys with
  | nil =>
    cases ys with
    | nil => exact h'
    | cons _ _ => have := h.1; simp at this
  | cons x xs ih =>
    cases ys with
    | nil => have := h.1; simp at this
    | cons y ys => exact All2.cons h.head (ih h.tail)
theorem All2.reverse (h : All2 R xs ys) : All2 R xs.reverse ys.reverse := by
  induction xs generalizing ys with
  | nil =>
    cases ys with
    | nil => exact h
    | cons _ _ => have := h.1; simp at this
  | cons x xs ih =>
    cases ys with
    | nil => have := h.1; simp at this
    | cons y ys =>
      rw [List.reverse_cons, List.reverse_cons]
      exact (ih h.tail).snoc h.head
theorem All2.one {x : α} {y : β} (r : R x y) : All2 R [x] [y] := All2.cons r All2.nil
end
theorem set_cut {α : Type} {l : List α} {i : Nat} {y : α} (h : i < l.length) : l.take i ++ [y] ++ l.drop (i + 1) = l.set i y := by
  rw [List.set_eq_take_append_cons_drop, if_pos h, List.append_assoc]
  rfl
theorem swap_perm {α : Type} (l : List α) (i : Nat) : (l.take i ++ ((l.take (i + 2)).drop i).reverse ++ l.drop (i + 2)).Perm l := by
  have e : l = l.take i ++ (l.take (i + 2)).drop i ++ l.drop (i + 2) := by
    have h1 : l.take i = (l.take (i + 2)).take i := by rw [List.take_take, Nat.min_eq_left (by omega)]
    rw [h1, List.take_append_drop, List.take_append_drop]
  conv => rhs; rw [e]
  exact ((List.Perm.refl _).append (List.reverse_perm _)).append (List.Perm.refl _)
end Lag

set_option maxRecDepth 100000
set_option maxHeartbeats 4000000
namespace Lag
open PySem PySem.Spec PyProof.Rows L2
theorem ints_get : ∀ {its : List Value} {ns : List Int}, IntsAre its ns → ∀ {i : Nat} {v : Value}, its[i]? = some v → ∃ (z : Int) (t : Tok), v = .int z t ∧ ns[i]? = some z := by
  intro its ns h
  induction h with
  | nil => intro i v e; simp at e
  | cons n t _ ih =>
    intro i v e
    cases i with
    | zero =>
      simp at e
      exact ⟨n, t, e.symm, rfl⟩
    | succ i => exact ih (by simpa using e)
/-! ### max(xs, default=d) of whole numbers -/
section
variable {prog : Program} {w : World} {A : Around} {E : Value → Shared → Prop}
theorem dargs_max (a d : Value) : argsOk "max" ⟨[a], [(Str.ofString "default", d)]⟩ := by
  unfold argsOk
  kernel_rfl
/-- what is held while it goes on: nothing as yet, or the best of those that came -/
def Held_max (ns : List Int) (j : Nat) (its : Array Value) : Prop := (j = 0 ∧ its = #[]) ∨ (0 < j ∧ ∃ (m : Int) (t : Tok), its = #[.int m t, .int m t] ∧ m ∈ ns.take j ∧ ∀ y ∈ ns.take j, y ≤ m)
theorem dloop_max {R : Result → Shared → Prop} {I S : Addr} {fp wr : List Addr} {n : Nat} {Pv : Nat → Value → Prop} {St : Nat → Heap → Prop} {ns : List Int} {d : Value} (W : Walks prog w A.in1 I fp wr n Pv St) (hSf : S ∉ fp) (hn : ns.length = n)
    (hP : ∀ i v, Pv i v → ∃ (z : Int) (t : Tok), v = .int z t ∧ ns[i]? = some z) :
    ∀ (k j : Nat) (s : Shared) (its : Array Value) (c : Nat), n - j = k → j ≤ n → St j s.heap → s.heap.get? S = some { cls := .type "list", data := .seq its c } → Held_max ns j its →
    (∀ h' tk, (∀ b o, b ∉ wr → b ≠ S → s.heap.get? b = some o → h'.get? b = some o) → (ns = [] → R (.ok (.ret d)) { s with heap := h', toks := tk }) ∧ ∀ m t, m ∈ ns → (∀ y ∈ ns, y ≤ m) → R (.ok (.ret (.int m t))) { s with heap := h', toks := tk }) →
    codeAny (model prog w) A (.builtin "max.loop" ⟨[.ref I, .none, .ref S], [(Str.ofString "default", d)]⟩) R s := by
  have nSw : S ∉ wr := fun z => hSf (W.sub S z)
  have hnm : (toString "max" ++ toString ".loop" : String) = "max.loop" := by decide
  intro k
  induction k with
  | zero =>
    intro j s its c hk hj st hS hh hR
    have ej : j = n := by omega
    subst ej
    refine codeAny_builtin PySem.F.entry_max_loop ?_
    rw [Around.under_plainId PySem.F.plain_max_loop _]
    show wpAny _ A.in1 (seqItems? (.ref S) >>= _) _ _ s
    refine wpAny_bind (wpAny_seqItems hS rfl ?_)
    show wpAny _ A.in1 (tryCatch (pyNext (.ref I)) _ >>= _) _ _ s
    refine wpAny_bind (wpAny_tryCatch (W.done s _ _ st fun h' tk kp => ?_))
    have hS' := kp S _ nSw hS
    rcases hh with ⟨h0, rfl⟩ | ⟨h0, m, t, rfl, hm, hb⟩
    · refine wpAny_bind (wpAny_rule (wpAny_pure ?_))
      exact (hR h' tk fun b o nb _ e => kp b o nb e).1 (List.length_eq_zero_iff.mp (by omega))
    · show wpAny _ A.in1 (updateSeq S (fun _ => #[]) >>= _) _ _ _
      refine wpAny_bind ?_
      refine wpAny_updateSeq hS' rfl (wpAny_bind (wpAny_letGo (wpAny_pure ?_)))
      rw [List.take_of_length_le (by omega)] at hm hb
      exact (hR _ tk fun b o nb nS e => (Heap.get?_update_other _ _ (Ne.symm nS)).trans (kp b o nb e)).2 m t hm hb
  | succ k ih =>
    intro j s its c hk hj st hS hh hR
    have lt : j < n := by omega
    refine codeAny_builtin PySem.F.entry_max_loop ?_
    rw [Around.under_plainId PySem.F.plain_max_loop _]
    show wpAny _ A.in1 (seqItems? (.ref S) >>= _) _ _ s
    refine wpAny_bind (wpAny_seqItems hS rfl ?_)
    show wpAny _ A.in1 (tryCatch (pyNext (.ref I)) _ >>= _) _ _ s
    refine wpAny_bind (wpAny_tryCatch (W.item j s _ _ lt st fun v h' tk pv st' kp => ?_))
    have hS' := kp S _ nSw hS
    obtain ⟨z, tz, rfl, hz⟩ := hP j v pv
    have et : ns.take (j + 1) = ns.take j ++ [z] := by rw [List.take_add_one, hz]; rfl
    rcases hh with ⟨h0, rfl⟩ | ⟨h0, m, t, rfl, hm, hb⟩
    · show wpAny _ A.in1 (updateSeq S (fun _ => #[.int z tz, .int z tz]) >>= _) _ _ _
      refine wpAny_bind ?_
      refine wpAny_updateSeq hS' rfl ?_
      rw [hnm]
      refine wpAny_pure ⟨plainId_quiet PySem.F.plain_max_loop _, ih (j + 1) _ _ _ (by omega) lt (W.frame _ _ _ st' fun b hbf o e => (Heap.get?_update_other _ _ (fun q : S = b => hSf (by rw [q]; exact hbf))).trans e) (Heap.get?_update_self _ hS' rfl) (.inr ⟨by omega, z, tz, rfl, ?_, ?_⟩) fun h'' tk'' kp'' => ?_⟩
      · rw [et]; simp
      · subst h0
        rw [et]
        intro y hy
        simp at hy
        subst hy
        exact Int.le_refl _
      · exact hR h'' tk'' fun b o nb nS e => kp'' b o nb nS ((Heap.get?_update_other _ _ (Ne.symm nS)).trans (kp b o nb e))
    · show wpAny _ A.in1 (tryCatch (holding [.int z tz, .int z tz] (richCompare .Gt (.int z tz) (.int m t) >>= _)) _ >>= _) _ _ _
      refine wpAny_bind (wpAny_tryCatch (wpAny_holding (wpAny_bind (CmpOf.ints_gt (P := fun i v => ∃ t, v = Value.int (if i = 0 then z else m) t) (fun i => if i = 0 then z else m) (fun _ _ h => h) 0 1 _ _ _ _ _ ⟨tz, rfl⟩ ⟨t, rfl⟩ ?_))))
      refine wpAny_bind (wpAny_holding (wpAny_truthy_bool ?_))
      refine wpAny_bind (wpAny_letGo (wpAny_pure ?_))
      show wpAny _ A.in1 (if decide (z > m) = true then _ else _) _ _ _
      by_cases hzm : z > m
      · rw [if_pos (decide_eq_true hzm)]
        refine wpAny_bind ?_
        refine wpAny_updateSeq hS' rfl (wpAny_bind (wpAny_letGo ?_))
        rw [hnm]
        refine wpAny_pure ⟨plainId_quiet PySem.F.plain_max_loop _, ih (j + 1) _ _ _ (by omega) lt (W.frame _ _ _ st' fun b hbf o e => (Heap.get?_update_other _ _ (fun q : S = b => hSf (by rw [q]; exact hbf))).trans e) (Heap.get?_update_self _ hS' rfl) (.inr ⟨by omega, z, tz, rfl, ?_, ?_⟩) fun h'' tk'' kp'' => ?_⟩
        · rw [et]; simp
        · rw [et]
          intro y hy
          rcases List.mem_append.mp hy with hy | hy
          · have := hb y hy
            omega
          · simp at hy
            omega
        · exact hR h'' tk'' fun b o nb nS e => kp'' b o nb nS ((Heap.get?_update_other _ _ (Ne.symm nS)).trans (kp b o nb e))
      · rw [if_neg (by rw [decide_eq_false hzm]; decide)]
        refine wpAny_bind (wpAny_letGo ?_)
        rw [hnm]
        refine wpAny_pure ⟨plainId_quiet PySem.F.plain_max_loop _, ih (j + 1) _ _ c (by omega) lt st' hS' (.inr ⟨by omega, m, t, rfl, ?_, ?_⟩) fun h'' tk'' kp'' => ?_⟩
        · rw [et]; exact List.mem_append_left _ hm
        · rw [et]
          intro y hy
          rcases List.mem_append.mp hy with hy | hy
          · exact hb y hy
          · simp at hy
            omega
        · exact hR h'' tk'' fun b o nb nS e => kp'' b o nb nS (kp b o nb e)
theorem dcall_max {s : Shared} {l : Addr} {items : Array Value} {ns : List Int} {d : Value} {Q : Value → Shared → Prop} (hh : A.handled = none) (hl : s.heap.IsList l items) (hi : IntsAre items.toList ns)
    (h : ∀ h' tk, (∀ b o, s.heap.get? b = some o → h'.get? b = some o) → (ns = [] → Q d { s with heap := h', toks := tk }) ∧ ∀ m t, m ∈ ns → (∀ y ∈ ns, y ≤ m) → Q (.int m t) { s with heap := h', toks := tk }) :
    wpAny (model prog w) A (call (.builtin "max") [.ref l] [(Str.ofString "default", d)]) Q E s := by
  have hnm : (toString "max" ++ toString ".loop" : String) = "max.loop" := by decide
  have hlt : l < s.heap.objs.size := by obtain ⟨_, e, _⟩ := hl; exact Heap.lt_size e
  refine PyProof.Rows.kmk_tree PySem.F.kind_max PySem.F.plain_max PySem.F.entry_max (dargs_max _ _) ?_
  show wpAny _ A.in1 (Builtin.Builtins.bindParams "max" ["key", "default"] 0 ⟨[], [(Str.ofString "default", d)]⟩ >>= _) _ _ s
  refine wpAny_bind (wpAny_of_eq (show Builtin.Builtins.bindParams "max" ["key", "default"] 0 ⟨[], [(Str.ofString "default", d)]⟩ = pure [none, some d] from rfl) ?_)
  refine wpAny_bind (wpAny_pure ?_)
  refine wpAny_bind (wpAny_pyIter_list hl ?_)
  refine wpAny_bind (wpAny_newList ?_ (Nat.zero_le _))
  rw [hnm]
  have W := Walks.list (prog := prog) (w := w) (A := A.in1) hh s.heap.objs.size l (Nat.ne_of_lt hlt) items
  have e1 : (s.heap.push { cls := .type "list_iterator", data := .fields #[.ref l, .int 0 0] }).objs.size = s.heap.objs.size + 1 := Heap.size_push ..
  refine wpAny_pure ⟨plainId_quiet PySem.F.plain_max_loop _, dloop_max (ns := ns) W (fun q => ?_) ?_ (fun i v hv => ?_) items.size 0 _ #[] _ (by omega) (Nat.zero_le _) ?_ (Heap.get?_push_size _ rfl) (.inl ⟨rfl, rfl⟩) fun h' tk kp => ?_⟩
  · rw [e1] at q
    rcases List.mem_cons.mp q with q | q
    · exact Nat.succ_ne_self _ q
    · have q := List.mem_singleton.mp q
      rw [← q] at hlt
      exact Nat.not_lt.mpr (Nat.le_succ _) hlt
  · rw [← hi.length]
    simp
  · obtain ⟨z, t, e2, e3⟩ := ints_get hi (show items.toList[i]? = some v by simpa using hv)
    exact ⟨z, t, e2, e3⟩
  · exact ⟨⟨_, Heap.get?_push_of_some _ (Heap.get?_push_size _ rfl), rfl, rfl⟩, (hl.push _).push _⟩
  · refine h h' tk fun b o e => ?_
    have hb := Heap.lt_size e
    refine kp b o (fun q => ?_) (fun q => ?_) (Heap.get?_push_of_some _ (Heap.get?_push_of_some _ e))
    · rw [List.mem_singleton.mp q] at hb
      exact Nat.lt_irrefl _ hb
    · rw [q, e1] at hb
      exact Nat.not_lt.mpr (Nat.le_succ _) hb
end
/-! ### min(xs, default=d) of whole numbers -/
section
variable {prog : Program} {w : World} {A : Around} {E : Value → Shared → Prop}
theorem dargs_min (a d : Value) : argsOk "min" ⟨[a], [(Str.ofString "default", d)]⟩ := by
  unfold argsOk
  kernel_rfl
/-- what is held while it goes on: nothing as yet, or the best of those that came -/
def Held_min (ns : List Int) (j : Nat) (its : Array Value) : Prop := (j = 0 ∧ its = #[]) ∨ (0 < j ∧ ∃ (m : Int) (t : Tok), its = #[.int m t, .int m t] ∧ m ∈ ns.take j ∧ ∀ y ∈ ns.take j, m ≤ y)
theorem dloop_min {R : Result → Shared → Prop} {I S : Addr} {fp wr : List Addr} {n : Nat} {Pv : Nat → Value → Prop} {St : Nat → Heap → Prop} {ns : List Int} {d : Value} (W : Walks prog w A.in1 I fp wr n Pv St) (hSf : S ∉ fp) (hn : ns.length = n)
    (hP : ∀ i v, Pv i v → ∃ (z : Int) (t : Tok), v = .int z t ∧ ns[i]? = some z) :
    ∀ (k j : Nat) (s : Shared) (its : Array Value) (c : Nat), n - j = k → j ≤ n → St j s.heap → s.heap.get? S = some { cls := .type "list", data := .seq its c } → Held_min ns j its →
    (∀ h' tk, (∀ b o, b ∉ wr → b ≠ S → s.heap.get? b = some o → h'.get? b = some o) → (ns = [] → R (.ok (.ret d)) { s with heap := h', toks := tk }) ∧ ∀ m t, m ∈ ns → (∀ y ∈ ns, m ≤ y) → R (.ok (.ret (.int m t))) { s with heap := h', toks := tk }) →
    codeAny (model prog w) A (.builtin "min.loop" ⟨[.ref I, .none, .ref S], [(Str.ofString "default", d)]⟩) R s := by
  have nSw : S ∉ wr := fun z => hSf (W.sub S z)
  have hnm : (toString "min" ++ toString ".loop" : String) = "min.loop" := by decide
  intro k
  induction k with
  | zero =>
    intro j s its c hk hj st hS hh hR
    have ej : j = n := by omega
    subst ej
    refine codeAny_builtin PySem.F.entry_min_loop ?_
    rw [Around.under_plainId PySem.F.plain_min_loop _]
    show wpAny _ A.in1 (seqItems? (.ref S) >>= _) _ _ s
    refine wpAny_bind (wpAny_seqItems hS rfl ?_)
    show wpAny _ A.in1 (tryCatch (pyNext (.ref I)) _ >>= _) _ _ s
    refine wpAny_bind (wpAny_tryCatch (W.done s _ _ st fun h' tk kp => ?_))
    have hS' := kp S _ nSw hS
    rcases hh with ⟨h0, rfl⟩ | ⟨h0, m, t, rfl, hm, hb⟩
    · refine wpAny_bind (wpAny_rule (wpAny_pure ?_))
      exact (hR h' tk fun b o nb _ e => kp b o nb e).1 (List.length_eq_zero_iff.mp (by omega))
    · show wpAny _ A.in1 (updateSeq S (fun _ => #[]) >>= _) _ _ _
      refine wpAny_bind ?_
      refine wpAny_updateSeq hS' rfl (wpAny_bind (wpAny_letGo (wpAny_pure ?_)))
      rw [List.take_of_length_le (by omega)] at hm hb
      exact (hR _ tk fun b o nb nS e => (Heap.get?_update_other _ _ (Ne.symm nS)).trans (kp b o nb e)).2 m t hm hb
  | succ k ih =>
    intro j s its c hk hj st hS hh hR
    have lt : j < n := by omega
    refine codeAny_builtin PySem.F.entry_min_loop ?_
    rw [Around.under_plainId PySem.F.plain_min_loop _]
    show wpAny _ A.in1 (seqItems? (.ref S) >>= _) _ _ s
    refine wpAny_bind (wpAny_seqItems hS rfl ?_)
    show wpAny _ A.in1 (tryCatch (pyNext (.ref I)) _ >>= _) _ _ s
    refine wpAny_bind (wpAny_tryCatch (W.item j s _ _ lt st fun v h' tk pv st' kp => ?_))
    have hS' := kp S _ nSw hS
    obtain ⟨z, tz, rfl, hz⟩ := hP j v pv
    have et : ns.take (j + 1) = ns.take j ++ [z] := by rw [List.take_add_one, hz]; rfl
    rcases hh with ⟨h0, rfl⟩ | ⟨h0, m, t, rfl, hm, hb⟩
    · show wpAny _ A.in1 (updateSeq S (fun _ => #[.int z tz, .int z tz]) >>= _) _ _ _
      refine wpAny_bind ?_
      refine wpAny_updateSeq hS' rfl ?_
      rw [hnm]
      refine wpAny_pure ⟨plainId_quiet PySem.F.plain_min_loop _, ih (j + 1) _ _ _ (by omega) lt (W.frame _ _ _ st' fun b hbf o e => (Heap.get?_update_other _ _ (fun q : S = b => hSf (by rw [q]; exact hbf))).trans e) (Heap.get?_update_self _ hS' rfl) (.inr ⟨by omega, z, tz, rfl, ?_, ?_⟩) fun h'' tk'' kp'' => ?_⟩
      · rw [et]; simp
      · subst h0
        rw [et]
        intro y hy
        simp at hy
        subst hy
        exact Int.le_refl _
      · exact hR h'' tk'' fun b o nb nS e => kp'' b o nb nS ((Heap.get?_update_other _ _ (Ne.symm nS)).trans (kp b o nb e))
    · show wpAny _ A.in1 (tryCatch (holding [.int z tz, .int z tz] (richCompare .Lt (.int z tz) (.int m t) >>= _)) _ >>= _) _ _ _
      refine wpAny_bind (wpAny_tryCatch (wpAny_holding (wpAny_bind (CmpOf.ints_lt (P := fun i v => ∃ t, v = Value.int (if i = 0 then z else m) t) (fun i => if i = 0 then z else m) (fun _ _ h => h) 0 1 _ _ _ _ _ ⟨tz, rfl⟩ ⟨t, rfl⟩ ?_))))
      refine wpAny_bind (wpAny_holding (wpAny_truthy_bool ?_))
      refine wpAny_bind (wpAny_letGo (wpAny_pure ?_))
      show wpAny _ A.in1 (if decide (z < m) = true then _ else _) _ _ _
      by_cases hzm : z < m
      · rw [if_pos (decide_eq_true hzm)]
        refine wpAny_bind ?_
        refine wpAny_updateSeq hS' rfl (wpAny_bind (wpAny_letGo ?_))
        rw [hnm]
        refine wpAny_pure ⟨plainId_quiet PySem.F.plain_min_loop _, ih (j + 1) _ _ _ (by omega) lt (W.frame _ _ _ st' fun b hbf o e => (Heap.get?_update_other _ _ (fun q : S = b => hSf (by rw [q]; exact hbf))).trans e) (Heap.get?_update_self _ hS' rfl) (.inr ⟨by omega, z, tz, rfl, ?_, ?_⟩) fun h'' tk'' kp'' => ?_⟩
        · rw [et]; simp
        · rw [et]
          intro y hy
          rcases List.mem_append.mp hy with hy | hy
          · have := hb y hy
            omega
          · simp at hy
            omega
        · exact hR h'' tk'' fun b o nb nS e => kp'' b o nb nS ((Heap.get?_update_other _ _ (Ne.symm nS)).trans (kp b o nb e))
      · rw [if_neg (by rw [decide_eq_false hzm]; decide)]
        refine wpAny_bind (wpAny_letGo ?_)
        rw [hnm]
        refine wpAny_pure ⟨plainId_quiet PySem.F.plain_min_loop _, ih (j + 1) _ _ c (by omega) lt st' hS' (.inr ⟨by omega, m, t, rfl, ?_, ?_⟩) fun h'' tk'' kp'' => ?_⟩
        · rw [et]; exact List.mem_append_left _ hm
        · rw [et]
          intro y hy
          rcases List.mem_append.mp hy with hy | hy
          · exact hb y hy
          · simp at hy
            omega
        · exact hR h'' tk'' fun b o nb nS e => kp'' b o nb nS (kp b o nb e)
theorem dcall_min {s : Shared} {l : Addr} {items : Array Value} {ns : List Int} {d : Value} {Q : Value → Shared → Prop} (hh : A.handled = none) (hl : s.heap.IsList l items) (hi : IntsAre items.toList ns)
    (h : ∀ h' tk, (∀ b o, s.heap.get? b = some o → h'.get? b = some o) → (ns = [] → Q d { s with heap := h', toks := tk }) ∧ ∀ m t, m ∈ ns → (∀ y ∈ ns, m ≤ y) → Q (.int m t) { s with heap := h', toks := tk }) :
    wpAny (model prog w) A (call (.builtin "min") [.ref l] [(Str.ofString "default", d)]) Q E s := by
  have hnm : (toString "min" ++ toString ".loop" : String) = "min.loop" := by decide
  have hlt : l < s.heap.objs.size := by obtain ⟨_, e, _⟩ := hl; exact Heap.lt_size e
  refine PyProof.Rows.kmk_tree PySem.F.kind_min PySem.F.plain_min PySem.F.entry_min (dargs_min _ _) ?_
  show wpAny _ A.in1 (Builtin.Builtins.bindParams "min" ["key", "default"] 0 ⟨[], [(Str.ofString "default", d)]⟩ >>= _) _ _ s
  refine wpAny_bind (wpAny_of_eq (show Builtin.Builtins.bindParams "min" ["key", "default"] 0 ⟨[], [(Str.ofString "default", d)]⟩ = pure [none, some d] from rfl) ?_)
  refine wpAny_bind (wpAny_pure ?_)
  refine wpAny_bind (wpAny_pyIter_list hl ?_)
  refine wpAny_bind (wpAny_newList ?_ (Nat.zero_le _))
  rw [hnm]
  have W := Walks.list (prog := prog) (w := w) (A := A.in1) hh s.heap.objs.size l (Nat.ne_of_lt hlt) items
  have e1 : (s.heap.push { cls := .type "list_iterator", data := .fields #[.ref l, .int 0 0] }).objs.size = s.heap.objs.size + 1 := Heap.size_push ..
  refine wpAny_pure ⟨plainId_quiet PySem.F.plain_min_loop _, dloop_min (ns := ns) W (fun q => ?_) ?_ (fun i v hv => ?_) items.size 0 _ #[] _ (by omega) (Nat.zero_le _) ?_ (Heap.get?_push_size _ rfl) (.inl ⟨rfl, rfl⟩) fun h' tk kp => ?_⟩
  · rw [e1] at q
    rcases List.mem_cons.mp q with q | q
    · exact Nat.succ_ne_self _ q
    · have q := List.mem_singleton.mp q
      rw [← q] at hlt
      exact Nat.not_lt.mpr (Nat.le_succ _) hlt
  · rw [← hi.length]
    simp
  · obtain ⟨z, t, e2, e3⟩ := ints_get hi (show items.toList[i]? = some v by simpa using hv)
    exact ⟨z, t, e2, e3⟩
  · exact ⟨⟨_, Heap.get?_push_of_some _ (Heap.get?_push_size _ rfl), rfl, rfl⟩, (hl.push _).push _⟩
  · refine h h' tk fun b o e => ?_
    have hb := Heap.lt_size e
    refine kp b o (fun q => ?_) (fun q => ?_) (Heap.get?_push_of_some _ (Heap.get?_push_of_some _ e))
    · rw [List.mem_singleton.mp q] at hb
      exact Nat.lt_irrefl _ hb
    · rw [q, e1] at hb
      exact Nat.not_lt.mpr (Nat.le_succ _) hb
end
/-! ### as rules -/
theorem fold_max : ∀ (ns : List Int) (d : Int), ns ≠ [] → (∀ y ∈ ns, d ≤ y) → ns.foldl max d ∈ ns ∧ ∀ y ∈ ns, y ≤ ns.foldl max d
  | [], _, h, _ => absurd rfl h
  | x :: r, d, _, hd => by
    rw [List.foldl_cons, Int.max_eq_right (hd x (List.mem_cons_self ..))]
    exact go r x
where
  go : ∀ (r : List Int) (x : Int), r.foldl max x ∈ x :: r ∧ ∀ y ∈ x :: r, y ≤ r.foldl max x
    | [], x => ⟨by simp, by simp⟩
    | z :: r, x => by
      obtain ⟨h1, h2⟩ := go r (max x z)
      rw [List.foldl_cons]
      constructor
      · rcases List.mem_cons.mp h1 with e | e
        · rw [e]
          by_cases hx : x ≤ z
          · rw [Int.max_eq_right hx]; simp
          · rw [Int.max_eq_left (by omega)]; simp
        · exact List.mem_cons_of_mem _ (List.mem_cons_of_mem _ e)
      · intro y hy
        have hm := h2 (max x z) (List.mem_cons_self ..)
        rcases List.mem_cons.mp hy with rfl | hy
        · omega
        · rcases List.mem_cons.mp hy with rfl | hy
          · omega
          · exact h2 y (List.mem_cons_of_mem _ hy)
theorem fold_min : ∀ (ns : List Int) (d : Int), ns ≠ [] → (∀ y ∈ ns, y ≤ d) → ns.foldl min d ∈ ns ∧ ∀ y ∈ ns, ns.foldl min d ≤ y
  | [], _, h, _ => absurd rfl h
  | x :: r, d, _, hd => by
    rw [List.foldl_cons, Int.min_eq_right (hd x (List.mem_cons_self ..))]
    exact go r x
where
  go : ∀ (r : List Int) (x : Int), r.foldl min x ∈ x :: r ∧ ∀ y ∈ x :: r, r.foldl min x ≤ y
    | [], x => ⟨by simp, by simp⟩
    | z :: r, x => by
      obtain ⟨h1, h2⟩ := go r (min x z)
      rw [List.foldl_cons]
      constructor
      · rcases List.mem_cons.mp h1 with e | e
        · rw [e]
          by_cases hx : x ≤ z
          · rw [Int.min_eq_left hx]; simp
          · rw [Int.min_eq_right (by omega)]; simp
        · exact List.mem_cons_of_mem _ (List.mem_cons_of_mem _ e)
      · intro y hy
        have hm := h2 (min x z) (List.mem_cons_self ..)
        rcases List.mem_cons.mp hy with rfl | hy
        · omega
        · rcases List.mem_cons.mp hy with rfl | hy
          · omega
          · exact h2 y (List.mem_cons_of_mem _ hy)
/-- max(xs, default=d), d no greater than any of xs -/
def rMaxW (K : PySem.W.Frag) : List V → List V → Hp → VK → Prop := fun vs zs H Q => ∃ (a : Addr) (ns : List Int) (d : Int), vs = [.ref a] ∧ zs = [.int d] ∧ SqL K H a (ns.map V.int) ∧ (∀ y ∈ ns, d ≤ y) ∧ Q (.int (ns.foldl max d)) H
def rMinW (K : PySem.W.Frag) : List V → List V → Hp → VK → Prop := fun vs zs H Q => ∃ (a : Addr) (ns : List Int) (d : Int), vs = [.ref a] ∧ zs = [.int d] ∧ SqL K H a (ns.map V.int) ∧ (∀ y ∈ ns, y ≤ d) ∧ Q (.int (ns.foldl min d)) H
theorem cr_maxW {X : Cx} (hc : X.calm = true) : CallRK X (.builtin "max") ["default"] (rMaxW X.K) := by
  intro pins s σ H vs zs us ws Q I r rz h
  obtain ⟨a, ns, d, rfl, rfl, hs, hd, q⟩ := h
  obtain ⟨its, rv, hl, _⟩ := I.list hs
  obtain ⟨u, rfl, ru⟩ := Vals.one rz
  obtain ⟨td, rfl⟩ := ru
  rw [Vals.ref1 r]
  refine dcall_max (I.ok.hd hc) hl.isList (by simpa using rv.ints) fun h' tk hk => ⟨fun e => ?_, fun m t hm hb => ?_⟩
  · subst e
    exact ⟨.int d, H, I.kept hk, ⟨_, rfl⟩, q⟩
  · have hne : ns ≠ [] := fun e => by rw [e] at hm; simp at hm
    obtain ⟨h1, h2⟩ := fold_max ns d hne hd
    have e : m = ns.foldl max d := Int.le_antisymm (h2 m hm) (hb _ h1)
    exact ⟨.int m, H, I.kept hk, ⟨_, rfl⟩, by rw [e]; exact q⟩
theorem cr_minW {X : Cx} (hc : X.calm = true) : CallRK X (.builtin "min") ["default"] (rMinW X.K) := by
  intro pins s σ H vs zs us ws Q I r rz h
  obtain ⟨a, ns, d, rfl, rfl, hs, hd, q⟩ := h
  obtain ⟨its, rv, hl, _⟩ := I.list hs
  obtain ⟨u, rfl, ru⟩ := Vals.one rz
  obtain ⟨td, rfl⟩ := ru
  rw [Vals.ref1 r]
  refine dcall_min (I.ok.hd hc) hl.isList (by simpa using rv.ints) fun h' tk hk => ⟨fun e => ?_, fun m t hm hb => ?_⟩
  · subst e
    exact ⟨.int d, H, I.kept hk, ⟨_, rfl⟩, q⟩
  · have hne : ns ≠ [] := fun e => by rw [e] at hm; simp at hm
    obtain ⟨h1, h2⟩ := fold_min ns d hne hd
    have e : m = ns.foldl min d := Int.le_antisymm (hb _ h1) (h2 m hm)
    exact ⟨.int m, H, I.kept hk, ⟨_, rfl⟩, by rw [e]; exact q⟩
end Lag

set_option maxRecDepth 100000
set_option maxHeartbeats 4000000
namespace Lag
open PySem PySem.Spec PyProof.Rows L2
abbrev sSumOf : Stmt := topS 31
abbrev sProdOf : Stmt := topS 32
abbrev sMostOf : Stmt := topS 33
abbrev sLeastOf : Stmt := topS 34
abbrev sFirstOf : Stmt := topS 35
abbrev sOneOf : Stmt := topS 36
/-! ### a gate's worth, of the worths that come -/
def kindVal (k : Str) (l : List Int) : Int :=
  if k = "sum" then l.sum % 97 else if k = "times" then l.foldl (fun a b => a * b % 97) 1 else if k = "most" then l.foldl max 0 else if k = "least" then l.foldl min 96
  else if k = "one" then (if l.foldl max 0 > 0 then 1 else 0) else l.headD 0
def WOk1 (l : List Int) : Prop := ∀ y ∈ l, 0 ≤ y ∧ y ≤ 96
theorem kv_sum (l : List Int) : kindVal "sum" l = l.sum % 97 := by unfold kindVal; rw [if_pos rfl]
theorem kv_times (l : List Int) : kindVal "times" l = l.foldl (fun a b => a * b % 97) 1 := by
  unfold kindVal
  rw [if_neg (by decide +kernel), if_pos rfl]
theorem kv_most (l : List Int) : kindVal "most" l = l.foldl max 0 := by
  unfold kindVal
  rw [if_neg (by decide +kernel), if_neg (by decide +kernel), if_pos rfl]
theorem kv_least (l : List Int) : kindVal "least" l = l.foldl min 96 := by
  unfold kindVal
  rw [if_neg (by decide +kernel), if_neg (by decide +kernel), if_neg (by decide +kernel), if_pos rfl]
theorem kv_one (l : List Int) : kindVal "one" l = if l.foldl max 0 > 0 then 1 else 0 := by
  unfold kindVal
  rw [if_neg (by decide +kernel), if_neg (by decide +kernel), if_neg (by decide +kernel), if_neg (by decide +kernel), if_pos rfl]
theorem kv_first (l : List Int) : kindVal "first" l = l.headD 0 := by
  unfold kindVal
  rw [if_neg (by decide +kernel), if_neg (by decide +kernel), if_neg (by decide +kernel), if_neg (by decide +kernel), if_neg (by decide +kernel)]
theorem kv_out (l : List Int) : kindVal "out" l = l.headD 0 := by
  unfold kindVal
  rw [if_neg (by decide +kernel), if_neg (by decide +kernel), if_neg (by decide +kernel), if_neg (by decide +kernel), if_neg (by decide +kernel)]
theorem prod_bound : ∀ (l : List Int) (a : Int), 0 ≤ a ∧ a ≤ 96 → 0 ≤ l.foldl (fun a b => a * b % 97) a ∧ l.foldl (fun a b => a * b % 97) a ≤ 96
  | [], a, h => h
  | x :: l, a, h => by
    rw [List.foldl_cons]
    refine prod_bound l _ ⟨Int.emod_nonneg _ (by decide), ?_⟩
    have := Int.emod_lt_of_pos (a * x) (show (0 : Int) < 97 by decide)
    omega
theorem max_bound : ∀ (l : List Int) (a : Int), WOk1 l → 0 ≤ a ∧ a ≤ 96 → 0 ≤ l.foldl max a ∧ l.foldl max a ≤ 96
  | [], a, _, h => h
  | x :: l, a, hl, h => by
    rw [List.foldl_cons]
    have hx := hl x (List.mem_cons_self ..)
    exact max_bound l _ (fun y hy => hl y (List.mem_cons_of_mem _ hy)) ⟨by omega, by omega⟩
theorem min_bound : ∀ (l : List Int) (a : Int), WOk1 l → 0 ≤ a ∧ a ≤ 96 → 0 ≤ l.foldl min a ∧ l.foldl min a ≤ 96
  | [], a, _, h => h
  | x :: l, a, hl, h => by
    rw [List.foldl_cons]
    have hx := hl x (List.mem_cons_self ..)
    exact min_bound l _ (fun y hy => hl y (List.mem_cons_of_mem _ hy)) ⟨by omega, by omega⟩
theorem kv_bound (k : Str) {l : List Int} (h : WOk1 l) : 0 ≤ kindVal k l ∧ kindVal k l ≤ 96 := by
  unfold kindVal
  split
  · have h1 := Int.emod_nonneg l.sum (show (97 : Int) ≠ 0 by decide)
    have h2 := Int.emod_lt_of_pos l.sum (show (0 : Int) < 97 by decide)
    omega
  split
  · exact prod_bound l 1 (by decide)
  split
  · exact max_bound l 0 h (by decide)
  split
  · exact min_bound l 96 h (by decide)
  split
  · split <;> decide
  · cases l with
    | nil => decide
    | cons x l => exact h x (List.mem_cons_self ..)
def spR (K : PySem.W.Frag) (k : Str) : Sp := fun vs H Q _ => ∃ (a : Addr) (ns : List Int), vs = [.ref a] ∧ SqL K H a (ns.map V.int) ∧ WOk1 ns ∧ (k = "out" ∨ k = "first" → ns ≠ []) ∧ Q (.int (kindVal k ns)) H
section
variable {P : Program} {w : World} {K : PySem.W.Frag} {mg : Str → Option Value} {base : Heap}
theorem int_at {l : List Int} {i : Nat} {x : V} (h : (l.map V.int)[i]? = some x) : ∃ z, l[i]? = some z ∧ x = V.int z := by
  rw [List.getElem?_map] at h
  cases e : l[i]? with
  | none =>
    rw [e] at h
    cases h
  | some z =>
    rw [e] at h
    exact ⟨z, rfl, (Option.some.inj h).symm⟩
theorem scSumOf : FnScope ["coming"] ["coming"] (defScope sSumOf) := ⟨rfl, rfl, rfl, by decide +kernel, rfl, by decide +kernel, by decide +kernel⟩
theorem ok_sumOf {f : Addr} {fd : FuncData} (F : Fun K "sum_of" "sum_of" sSumOf f fd) (ms : mg "sum" = none) (md : ∃ t, mg "DIVISOR" = some (.int 97 t)) : FnOk P w K mg base CX0 1 f fd ["coming"] (spR K "sum") := by
  obtain ⟨td, hd⟩ := md
  refine F.ok scSumOf (fun vs H Q E h => ?_) (fun cdv A outer s H vs Q E hr h => ?_)
  · obtain ⟨a, ns, rfl, _⟩ := h
    rfl
  · obtain ⟨a, ns, rfl, sq, _, _, q⟩ := h
    refine ⟨_, pss_one <| ps_ret <| pe_op op_mod (pe_callB (cr_sum rfl) (by rfl) ms (by decide +kernel) (pa_cons (pv 0) pa_nil)) (pe_glob (v := .int 97) (by rfl) hd ⟨_, rfl⟩), ?_⟩
    refine ⟨_, rfl, a, ns, rfl, sq, _, _, rfl, rfl, (by show (0 : Int) < 97; decide), ?_⟩
    rw [kv_sum] at q
    exact q
theorem scProdOf : FnScope ["coming", "told", "worth"] ["coming"] (defScope sProdOf) := ⟨rfl, rfl, rfl, by decide +kernel, rfl, by decide +kernel, by decide +kernel⟩
theorem ok_prodOf {f : Addr} {fd : FuncData} (F : Fun K "product_of" "product_of" sProdOf f fd) (md : ∃ t, mg "DIVISOR" = some (.int 97 t)) : FnOk P w K mg base CX0 1 f fd ["coming"] (spR K "times") := by
  obtain ⟨td, hd⟩ := md
  refine F.ok scProdOf (fun vs H Q E h => ?_) (fun cdv A outer s H vs Q E hr h => ?_)
  · obtain ⟨a, ns, rfl, _⟩ := h
    rfl
  · obtain ⟨a, ns, rfl, sq, hw, _, q⟩ := h
    have nd := scProdOf.nd
    refine ⟨_, pss_cons (ps_set (i := 1) nd rfl (.inl rfl) pe_int) <| pss_cons (ps_for PassesOwn.never rfl (pi_list (pv 0)) (pg_name (i := 2) nd rfl (.inl rfl)) <|
      pss_one <| ps_set (i := 1) nd rfl (.inl rfl) <| pe_op op_mod (pe_op op_mul (pv 1) (pv 2)) (pe_glob (v := .int 97) (by rfl) hd ⟨_, rfl⟩)) <| pss_one <| ps_ret (pv 1), ?_⟩
    refine ⟨_, rfl, a, rfl, ⟨_, sq⟩, for_list (K := K) (a := a) (xs := ns.map V.int) (fun i σ H' => ∃ y, σ = [some (.ref a), some (.int ((ns.take i).foldl (fun a b => a * b % 97) 1)), y] ∧ H' = H) ⟨_, rfl, rfl⟩ (fun i σ H' _ ⟨_, _, e⟩ => by rw [e]; exact sq) ?_ ?_⟩
    · rintro i x σ H' hx ⟨y, rfl, rfl⟩
      obtain ⟨z, hz, rfl⟩ := int_at hx
      have hb := prod_bound (ns.take i) 1 (by decide)
      refine ⟨_, rfl, _, rfl, _, _, rfl, rfl, .inl ⟨by omega, by omega⟩, _, _, rfl, rfl, (by show (0 : Int) < 97; decide), some (.int z), ?_, rfl⟩
      rw [List.take_add_one, hz, List.foldl_append]
      rfl
    · rintro σ H' ⟨y, rfl, rfl⟩
      rw [List.length_map, List.take_length]
      rw [kv_times] at q
      exact ⟨_, rfl, q⟩
theorem scMostOf : FnScope ["coming"] ["coming"] (defScope sMostOf) := ⟨rfl, rfl, rfl, by decide +kernel, rfl, by decide +kernel, by decide +kernel⟩
theorem ok_mostOf {f : Addr} {fd : FuncData} (F : Fun K "most_of" "most_of" sMostOf f fd) (mm : mg "max" = none) : FnOk P w K mg base CX0 1 f fd ["coming"] (spR K "most") := by
  refine F.ok scMostOf (fun vs H Q E h => ?_) (fun cdv A outer s H vs Q E hr h => ?_)
  · obtain ⟨a, ns, rfl, _⟩ := h
    rfl
  · obtain ⟨a, ns, rfl, sq, hw, _, q⟩ := h
    refine ⟨_, pss_one <| ps_ret <| pe_callBK (cr_maxW rfl) (by rfl) mm (by decide +kernel) (pa_cons (pv 0) pa_nil) (pk_cons pe_int pk_nil), ?_⟩
    rw [kv_most] at q
    exact ⟨_, rfl, a, ns, 0, rfl, rfl, sq, fun y hy => (hw y hy).1, q⟩
theorem scLeastOf : FnScope ["coming"] ["coming"] (defScope sLeastOf) := ⟨rfl, rfl, rfl, by decide +kernel, rfl, by decide +kernel, by decide +kernel⟩
theorem ok_leastOf {f : Addr} {fd : FuncData} (F : Fun K "least_of" "least_of" sLeastOf f fd) (mm : mg "min" = none) (mw : ∃ t, mg "GREATEST_WORTH" = some (.int 96 t)) : FnOk P w K mg base CX0 1 f fd ["coming"] (spR K "least") := by
  obtain ⟨td, hd⟩ := mw
  refine F.ok scLeastOf (fun vs H Q E h => ?_) (fun cdv A outer s H vs Q E hr h => ?_)
  · obtain ⟨a, ns, rfl, _⟩ := h
    rfl
  · obtain ⟨a, ns, rfl, sq, hw, _, q⟩ := h
    refine ⟨_, pss_one <| ps_ret <| pe_callBK (cr_minW rfl) (by rfl) mm (by decide +kernel) (pa_cons (pv 0) pa_nil) (pk_cons (pe_glob (v := .int 96) (by rfl) hd ⟨_, rfl⟩) pk_nil), ?_⟩
    rw [kv_least] at q
    exact ⟨_, rfl, a, ns, 96, rfl, rfl, sq, fun y hy => (hw y hy).2, q⟩
theorem scFirstOf : FnScope ["coming"] ["coming"] (defScope sFirstOf) := ⟨rfl, rfl, rfl, by decide +kernel, rfl, by decide +kernel, by decide +kernel⟩
theorem ok_firstOf {f : Addr} {fd : FuncData} {k : Str} (hk : k = "out" ∨ k = "first") (F : Fun K "first_of" "first_of" sFirstOf f fd) : FnOk P w K mg base CX0 1 f fd ["coming"] (spR K k) := by
  refine F.ok scFirstOf (fun vs H Q E h => ?_) (fun cdv A outer s H vs Q E hr h => ?_)
  · obtain ⟨a, ns, rfl, _⟩ := h
    rfl
  · obtain ⟨a, ns, rfl, sq, hw, hne, q⟩ := h
    refine ⟨_, pss_one <| ps_ret <| pe_ix ix_list (pv 0) pe_int (fun _ _ => rfl), ?_⟩
    have e : kindVal k ns = ns.headD 0 := by
      rcases hk with rfl | rfl
      · exact kv_out ns
      · exact kv_first ns
    cases ns with
    | nil => exact absurd rfl (hne hk)
    | cons x r =>
      rw [e] at q
      exact ⟨_, rfl, a, _, 0, .int x, rfl, rfl, sq, atI_nat (j := 0) rfl, q⟩
theorem scOneOf : FnScope ["coming"] ["coming"] (defScope sOneOf) := ⟨rfl, rfl, rfl, by decide +kernel, rfl, by decide +kernel, by decide +kernel⟩
theorem ok_oneOf {f : Addr} {fd : FuncData} (F : Fun K "one_of" "one_of" sOneOf f fd) (mm : mg "max" = none) : FnOk P w K mg base CX0 1 f fd ["coming"] (spR K "one") := by
  refine F.ok scOneOf (fun vs H Q E h => ?_) (fun cdv A outer s H vs Q E hr h => ?_)
  · obtain ⟨a, ns, rfl, _⟩ := h
    rfl
  · obtain ⟨a, ns, rfl, sq, hw, _, q⟩ := h
    refine ⟨_, pss_one <| ps_ret <| pe_ifExp (pt_cmpR op_gt (pe_callBK (cr_maxW rfl) (by rfl) mm (by decide +kernel) (pa_cons (pv 0) pa_nil) (pk_cons pe_int pk_nil)) pe_int (nomark _)) pe_int pe_int, ?_⟩
    rw [kv_one] at q
    refine ⟨_, rfl, a, ns, 0, rfl, rfl, sq, fun y hy => (hw y hy).1, _, _, rfl, rfl, _, rfl, ite2 (fun e => ?_) (fun e => ?_)⟩
    · rw [if_pos (of_decide_eq_true e)] at q
      exact q
    · rw [if_neg (fun z => e (decide_eq_true z))] at q
      exact q
end
end Lag

set_option maxRecDepth 100000
set_option maxHeartbeats 8000000
namespace Lag
open PySem PySem.Spec PyProof.Rows L2
abbrev sWorths : Stmt := topS 38
abbrev sComing : Stmt := topS 39
abbrev sWireWorth : Stmt := topS 40
abbrev sChkRow : Stmt := topS 41
/-! ### worths in a beat: the mathematics -/
/-- a wire's worth, of the gates' worths ts -/
def wv (ts : List Int) (x : Wr) : Int := match x.2.2 with
  | r :: _ => r
  | [] => ts.getD x.1 0
def cmg (ws : List Wr) (ts : List Int) (g : Nat) : List Int := (ws.filter fun x => x.2.1 == g).map (wv ts)
/-- ts are the gates' worths where rs is put in -/
structure IsW (gs : List Gt) (ws : List Wr) (rs ts : List Int) : Prop where
  len : ts.length = gs.length
  put : ∀ (i g : Nat) (r : Int), (plc gs "in" gs.length)[i]? = some g → rs[i]? = some r → ts.getD g 0 = r
  eq : ∀ g, g < gs.length → kindAt gs g ≠ "in" → ts.getD g 0 = kindVal (kindAt gs g) (cmg ws ts g)
theorem mem_plc {gs : List Gt} {k : Str} {n g : Nat} : g ∈ plc gs k n ↔ g < n ∧ kindAt gs g = k := by
  unfold plc
  rw [List.mem_filter, List.mem_range]
  simp
theorem wv_congr {ts ts' : List Int} {x : Wr} (h : x.2.2 = [] → ts.getD x.1 0 = ts'.getD x.1 0) : wv ts x = wv ts' x := by
  unfold wv
  cases e : x.2.2 with
  | nil => exact h e
  | cons r l => rfl
theorem IsW.unique {gs : List Gt} {ws : List Wr} {rs ts ts' : List Int} (N : NetOk gs ws) (hr : rs.length = (plc gs "in" gs.length).length) (h : IsW gs ws rs ts) (h' : IsW gs ws rs ts') : ts = ts' := by
  obtain ⟨ρ, hρ⟩ := N.rank
  have all : ∀ r g, g < gs.length → ρ g = r → ts.getD g 0 = ts'.getD g 0 := by
    intro r
    induction r using Nat.strongRecOn with
    | ind r ih =>
      intro g hg hrg
      by_cases hk : kindAt gs g = "in"
      · have hm : g ∈ plc gs "in" gs.length := mem_plc.mpr ⟨hg, hk⟩
        obtain ⟨i, hi⟩ := List.getElem?_of_mem hm
        have hil : i < rs.length := by
          rw [hr]
          exact (List.getElem?_eq_some_iff.mp hi).1
        rw [h.put i g _ hi (List.getElem?_eq_getElem hil), h'.put i g _ hi (List.getElem?_eq_getElem hil)]
      · rw [h.eq g hg hk, h'.eq g hg hk]
        have e : cmg ws ts g = cmg ws ts' g := by
          unfold cmg
          refine List.map_congr_left fun x hx => ?_
          rw [List.mem_filter] at hx
          have hxg : x.2.1 = g := by simpa using hx.2
          refine wv_congr fun hb => ?_
          have := hρ x hx.1 hb
          exact ih (ρ x.1) (by rw [← hrg, ← hxg]; exact this) x.1 (N.wok x hx.1).s rfl
        rw [e]
  refine List.ext_getElem? fun i => ?_
  by_cases hi : i < gs.length
  · have h1 : i < ts.length := by rw [h.len]; exact hi
    have h2 : i < ts'.length := by rw [h'.len]; exact hi
    have e := all _ i hi rfl
    rw [List.getD_eq_getElem?_getD, List.getD_eq_getElem?_getD, List.getElem?_eq_getElem h1, List.getElem?_eq_getElem h2] at e
    rw [List.getElem?_eq_getElem h1, List.getElem?_eq_getElem h2]
    exact congrArg some e
  · rw [List.getElem?_eq_none (by rw [h.len]; omega), List.getElem?_eq_none (by rw [h'.len]; omega)]
theorem getD_set {ts : List Int} {g i : Nat} {z : Int} (hg : g < ts.length) : (ts.set g z).getD i 0 = if i = g then z else ts.getD i 0 := by
  rw [List.getD_eq_getElem?_getD, List.getD_eq_getElem?_getD, List.getElem?_set]
  by_cases e : g = i
  · subst e
    rw [if_pos rfl, if_pos rfl, if_pos hg]
    rfl
  · rw [if_neg e, if_neg (fun z => e z.symm)]
theorem wok_getD {ts : List Int} (h : WOk1 ts) (i : Nat) : 0 ≤ ts.getD i 0 ∧ ts.getD i 0 ≤ 96 := by
  rw [List.getD_eq_getElem?_getD]
  cases e : ts[i]? with
  | none => decide
  | some z => exact h z (List.mem_of_getElem? e)
theorem wv_bound {gs : List Gt} {ws : List Wr} {ts : List Int} (N : NetOk gs ws) (h : WOk1 ts) {x : Wr} (hx : x ∈ ws) : 0 ≤ wv ts x ∧ wv ts x ≤ 96 := by
  have W := N.wok x hx
  unfold wv
  cases e : x.2.2 with
  | nil => exact wok_getD h x.1
  | cons r l => exact W.r r (by rw [e]; exact List.mem_cons_self ..)
theorem cmg_bound {gs : List Gt} {ws : List Wr} {ts : List Int} (N : NetOk gs ws) (h : WOk1 ts) (g : Nat) : WOk1 (cmg ws ts g) := by
  intro y hy
  obtain ⟨x, hx, rfl⟩ := List.mem_map.mp hy
  exact wv_bound N h (List.mem_filter.mp hx).1
theorem cmg_ne {gs : List Gt} {ws : List Wr} {ts : List Int} (N : NetOk gs ws) {g : Nat} (hg : g < gs.length) (hk : kindAt gs g = "out" ∨ kindAt gs g = "first") : cmg ws ts g ≠ [] := by
  have hp : 1 ≤ cnt ws g := by
    rcases hk with hk | hk
    · have := N.one g hg hk
      omega
    · exact N.some g hg hk
  intro z
  have hl := congrArg List.length z
  unfold cmg at hl
  rw [List.length_map, List.length_nil] at hl
  unfold cnt at hp
  rw [List.countP_eq_length_filter, hl] at hp
  omega
/-! ### promises -/
def spWireWorth (K : PySem.W.Frag) : Sp := fun vs H Q _ => ∃ (v : V) (x : Wr) (lt : Addr) (ts : List Int), vs = [v, .ref lt] ∧ WireV K H v x ∧ SqL K H lt (ts.map V.int) ∧ x.1 < ts.length ∧ Q (.int (wv ts x)) H
def spComing (K : PySem.W.Frag) : Sp := fun vs H Q _ => ∃ (g : Nat) (lw lt : Addr) (ws : List Wr) (ts : List Int), vs = [.int (g : Nat), .ref lw, .ref lt] ∧ RW K H lw ws ∧ SqL K H lt (ts.map V.int) ∧ (∀ x ∈ ws, x.1 < ts.length) ∧ ws.length ≤ 1000 ∧
  ∀ p H', H p = none → Same H H' → H' p = some (.lst ((cmg ws ts g).map V.int)) → Q (.ref p) H'
def spChkRow (K : PySem.W.Frag) (C : Addr) : Sp := fun vs H Q _ => ∃ (p ng nw lr : Addr) (gs : List Gt) (ws : List Wr) (rs : List Int), vs = [.ref p, .ref lr] ∧ NetAt K C H p ng nw gs ws ∧ gs.length ≤ 1000 ∧ SqL K H lr (rs.map V.int) ∧ rs.length = (plc gs "in" gs.length).length ∧ WOk1 rs ∧ ∀ H', Same H H' → Q .non H'
def spWorths (K : PySem.W.Frag) (C : Addr) : Sp := fun vs H Q _ => ∃ (p ng nw lr : Addr) (gs : List Gt) (ws : List Wr) (rs : List Int), vs = [.ref p, .ref lr] ∧ NetAt K C H p ng nw gs ws ∧ NetOk gs ws ∧ SqL K H lr (rs.map V.int) ∧ rs.length = (plc gs "in" gs.length).length ∧ WOk1 rs ∧
  ∀ l H' ts, H l = none → Same H H' → IsW gs ws rs ts → WOk1 ts → H' l = some (.lst (ts.map V.int)) → Q (.ref l) H'
section
variable {P : Program} {w : World} {K : PySem.W.Frag} {mg : Str → Option Value} {base : Heap}
theorem scWireWorth : FnScope ["wire", "told", "start", "end", "held"] ["wire", "told"] (defScope sWireWorth) := ⟨rfl, rfl, rfl, by decide +kernel, rfl, by decide +kernel, by decide +kernel⟩
abbrev DWireWorth (P : Program) (w : World) (K : PySem.W.Frag) (mg : Str → Option Value) (base : Heap) := Df P w K mg base 1 "wire_worth" ["wire", "told"] (spWireWorth K)
theorem ok_wireWorth {f : Addr} {fd : FuncData} (F : Fun K "wire_worth" "wire_worth" sWireWorth f fd) (hm : mg "wire_worth" = some (.ref f)) (B : Bt mg) : DWireWorth P w K mg base f fd := by
  refine ⟨?_, hm, F.kp, F.binds fun _ _ _ _ _ _ us hl => match us, hl with | [_, _], _ => rfl⟩
  refine F.ok scWireWorth (fun vs H Q E h => ?_) (fun cdv A outer s H vs Q E hr h => ?_)
  · obtain ⟨v, x, lt, ts, rfl, _⟩ := h
    rfl
  · obtain ⟨v, x, lt, ts, rfl, ⟨a, b, rfl, sq1, sq2⟩, st, hx, q⟩ := h
    have nd := scWireWorth.nd
    refine ⟨_, pss_cons (ps_asg (pv 0) (pg_tup (by rfl) (pgs_cons (pg_name (i := 2) nd rfl (.inl rfl)) (pgs_cons (pg_name (i := 3) nd rfl (.inl rfl)) (pgs_cons (pg_name (i := 4) nd rfl (.inl rfl)) pgs_nil))))) <|
      pss_one <| ps_ret <| pe_ifExp (pt_cmpR op_gt (pe_callB call_len_seq (by rfl) B.len PySem.boot_len (pa_cons (pv 4) pa_nil)) pe_int (nomark _)) (pe_ix ix_tup (pv 4) pe_int (fun _ _ => rfl)) (pe_ix ix_list (pv 1) (pv 2) (fun _ _ => rfl)), ?_⟩
    refine ⟨_, rfl, a, _, rfl, sq1, rfl, _, _, rfl, _, _, rfl, _, _, rfl, rfl, ?_⟩
    refine ⟨_, rfl, b, _, rfl, .inr sq2, _, _, rfl, rfl, _, rfl, ite2 (fun e => ?_) (fun e => ?_)⟩
    · cases er : x.2.2 with
      | nil =>
        rw [er] at e
        exact absurd (of_decide_eq_true e) (by decide)
      | cons r l =>
        rw [er] at sq2
        have ew : wv ts x = r := by unfold wv; rw [er]
        rw [ew] at q
        exact ⟨_, rfl, b, _, 0, .int r, rfl, rfl, sq2, atI_nat (j := 0) rfl, q⟩
    · have er : x.2.2 = [] := by
        cases er : x.2.2 with
        | nil => rfl
        | cons r l =>
          rw [er] at e
          exfalso
          apply e
          refine decide_eq_true ?_
          rw [List.length_map, List.length_cons]
          omega
      have ew : wv ts x = ts.getD x.1 0 := by unfold wv; rw [er]
      rw [ew, List.getD_eq_getElem?_getD, List.getElem?_eq_getElem hx] at q
      exact ⟨_, rfl, _, rfl, lt, _, _, .int (ts[x.1]'hx), rfl, rfl, st, atI_nat (by rw [List.getElem?_map, List.getElem?_eq_getElem hx]; rfl), q⟩
abbrev nComing : List Str := ["gate", "wires", "told", "wire"]
theorem scComing : FnScope nComing ["gate", "wires", "told"] (defScope sComing) := ⟨rfl, rfl, rfl, by decide +kernel, rfl, by decide +kernel, by decide +kernel⟩
abbrev DComing (P : Program) (w : World) (K : PySem.W.Frag) (mg : Str → Option Value) (base : Heap) := Df P w K mg base 2 "coming_to" ["gate", "wires", "told"] (spComing K)
theorem cmg_take {ws : List Wr} {ts : List Int} {g i : Nat} {x : Wr} (h : ws[i]? = some x) : cmg (ws.take (i + 1)) ts g = if x.2.1 = g then cmg (ws.take i) ts g ++ [wv ts x] else cmg (ws.take i) ts g := by
  unfold cmg
  rw [List.take_add_one, h]
  show ((ws.take i ++ [x]).filter _).map _ = _
  rw [List.filter_append, List.filter_cons]
  by_cases e : x.2.1 = g
  · rw [if_pos e, if_pos (by simpa using e), List.map_append]
    rfl
  · rw [if_neg e, if_neg (by simpa using e), List.filter_nil, List.append_nil]
theorem cmg_len (ws : List Wr) (ts : List Int) (g : Nat) : (cmg ws ts g).length ≤ ws.length := by
  unfold cmg
  rw [List.length_map]
  exact List.length_filter_le _ _
theorem ok_coming {f fW : Addr} {fd fdW : FuncData} (F : Fun K "coming_to" "coming_to" sComing f fd) (hm : mg "coming_to" = some (.ref f)) (DW : DWireWorth P w K mg base fW fdW) : DComing P w K mg base f fd := by
  refine ⟨?_, hm, F.kp, F.binds fun _ _ _ _ _ _ us hl => match us, hl with | [_, _, _], _ => rfl⟩
  refine F.ok scComing (fun vs H Q E h => ?_) (fun cdv A outer s H vs Q E hr h => ?_)
  · obtain ⟨g, lw, lt, ws, ts, rfl, _⟩ := h
    rfl
  · obtain ⟨g, lw, lt, ws, ts, rfl, ⟨vw, sw, wa⟩, st, hx, hl, q⟩ := h
    have nd := scComing.nd
    refine ⟨_, pss_one <| ps_ret <| pe_lc (own := [("wire", 3)]) (g := gName 3) (tt := tTest (tOp rEq (tOp (rIxT K) (tVar 3) (tC (.int 1))) (tVar 0))) (te := tCall (spWireWorth K) [] E0 (tCons (tVar 3) (tCons (tVar 2) tNil))) rfl nd
      (pi_list (pv 1)) (blkOk_by (N := nComing) (sc := defScope sComing) (own := [("wire", 3)]) (by decide +kernel)) (fun _ _ _ _ _ => pg_name (i := 3) nd rfl (.inl rfl))
      (fun _ _ _ _ _ => pts_one (pt_cmpR op_eq (pe_ix ix_tup (pv 3) pe_int (fun _ _ => rfl)) (pv 0) (nomark _))) (fun _ _ _ _ _ => pe_call DW.ok hr (by rfl) DW.mg DW.kp DW.bd .nil pass0 (pa_cons (pv 3) (pa_cons (pv 2) pa_nil))), ?_⟩
    have hlw : vw.length = ws.length := wa.1
    refine ⟨_, rfl, lw, rfl, ⟨_, sw⟩, fun D hD => ?_⟩
    refine lc_list (K := K) (a := lw) (xs := vw) (fun i Hc => Hc D = some (.lst ((cmg (ws.take i) ts g).map V.int)) ∧ Same H Hc) ⟨upd_same, same_new hD⟩ (fun i Hc _ ⟨_, sm⟩ => sm.seq sw) ?_ ?_
    · rintro i v Hc hv ⟨hc, sm⟩
      obtain ⟨x, hxi, wx⟩ := wa.get hv
      have hwx := wx
      obtain ⟨a, b, rfl, sq1, sq2⟩ := wx
      have hlen : ((cmg (ws.take i) ts g).map V.int).length ≤ 1000 := by
        rw [List.length_map]
        have := cmg_len (ws.take i) ts g
        rw [List.length_take] at this
        omega
      refine ⟨rfl, ?_⟩
      refine ⟨_, rfl, a, _, 1, _, rfl, rfl, (TK.same sm).seq sq1, atI_nat (j := 1) rfl, _, rfl, rfl, _, rfl, ite2 (fun e => ?_) (fun e => ?_)⟩
      · have hg : x.2.1 = g := by
          have := V.int.inj (of_decide_eq_true e)
          omega
        refine ⟨_, rfl, _, rfl, _, x, lt, ts, rfl, hwx.tk (TK.same sm), sm.seq st, hx x (List.mem_of_getElem? hxi), _, hc, Nat.lt_of_le_of_lt hlen (small1000 (Nat.le_refl _)), ?_, same_mut sm hD⟩
        rw [upd_same, cmg_take hxi, if_pos hg, List.map_append]
        rfl
      · have hg : ¬ x.2.1 = g := fun z => e (decide_eq_true (by rw [z]))
        refine ⟨?_, sm⟩
        rw [cmg_take hxi, if_neg hg]
        exact hc
    · rintro Hc ⟨hc, sm⟩
      rw [hlw, List.take_length] at hc
      exact q D Hc hD sm hc
end
end Lag

set_option maxRecDepth 100000
set_option maxHeartbeats 8000000
namespace Lag
open PySem PySem.Spec PyProof.Rows L2
/-- a call of the def that a slot holds, told with it -/
theorem pe_callD {X : Cx} {k i : Nat} {x : Str} {p pos : Pos} {e : Expr} {es : List Expr} {t : TA} (hr : Room k X.A) (hN : X.N[i]? = some x) (hv : Vis X.env.scope x) (ha : PA X (e :: es) t)
    (hdb : (x == ("__debug__" : Str)) = false := by decide) (hcd : (x == ("__classdict__" : Str)) = false := by decide)
    (he : starEach (e :: es) X.env = (false, eval e X.env) :: starEach es X.env := by rfl) (hpl : (backTo pos (starEach es X.env)).any (·.1) = false := by rfl) :
    PE X (.Call (.Name x p) (e :: es) [] pos) (fun σ H Q => ∃ f fd ps sp, FnOk X.prog X.w X.K X.mg X.base CX0 k f fd ps sp ∧ PySem.W.keepIn X.K (.ref f) = true ∧ Binds X.K fd ps [] ∧ tCallL i f sp [] E0 t σ H Q) := by
  refine ⟨fun pins s σ H Q I h => ?_⟩
  obtain ⟨f, fd, ps, sp, F, hk, hb, h⟩ := h
  exact (pe_callL F hr hN hv hk hb .nil pass0 ha hdb hcd he hpl).run pins s σ H Q I h
/-- the rules by their kinds -/
structure Rl (P : Program) (w : World) (K : PySem.W.Frag) (mg : Str → Option Value) (base : Heap) (aR : Addr) : Prop where
  mR : mg "RULES" = some (.ref aR)
  kd : ∀ k ∈ kinds, k ≠ "in" → ∃ f fd, KDct K w aR k (.ref f) ∧ FnOk P w K mg base CX0 1 f fd ["coming"] (spR K k) ∧ PySem.W.keepIn K (.ref f) = true ∧ Binds K fd ["coming"] []
theorem rs_all {K : PySem.W.Frag} {H : Hp} (b : Bool) : True := trivial
section
variable {P : Program} {w : World} {K : PySem.W.Frag} {mg : Str → Option Value} {base : Heap}
/-! ### check_row -/
abbrev nChkRow : List Str := ["net", "row", "worth"]
theorem scChkRow : FnScope nChkRow ["net", "row"] (defScope sChkRow) := ⟨rfl, rfl, rfl, by decide +kernel, rfl, by decide +kernel, by decide +kernel⟩
abbrev DChkRow (P : Program) (w : World) (K : PySem.W.Frag) (mg : Str → Option Value) (base : Heap) (C : Addr) := Df P w K mg base 4 "check_row" ["net", "row"] (spChkRow K C)
theorem ok_chkRow {f fW fN C : Addr} {fd fdW fdN : FuncData} (F : Fun K "check_row" "check_row" sChkRow f fd) (hm : mg "check_row" = some (.ref f)) (B : Bt mg) (T : NT K mg C) (DW : DWorth P w K mg base fW fdW) (ins : FnOk P w K mg base CX0 2 fN fdN ["self"] (spPorts K C "in")) (mN : Meth K C "ins" fN) (bN : Binds K fdN ["self"] []) : DChkRow P w K mg base C f fd := by
  refine ⟨?_, hm, F.kp, F.binds fun _ _ _ _ _ _ us hl => match us, hl with | [_, _], _ => rfl⟩
  refine F.ok scChkRow (fun vs H Q E h => ?_) (fun cdv A outer s H vs Q E hr h => ?_)
  · obtain ⟨p, ng, nw, lr, gs, ws, rs, rfl, _⟩ := h
    rfl
  · obtain ⟨p, ng, nw, lr, gs, ws, rs, rfl, N, hgl, sr, hl, hw, q⟩ := h
    have nd := scChkRow.nd
    have hr2 : Room 2 _ := hr.mono (by decide)
    refine ⟨_, pss_cons (ps_if (PW.pt (pw_or (pt_not (pt_val (pe_callB call_isi (by rfl) B.isi (by decide +kernel) (pa_cons (pv 1) (pa_cons (pe_bltn (v := .ty "list") (by rfl) B.list (by decide +kernel) rfl) pa_nil)))))
          (pw_or1 (pt_cmpR op_ne (pe_callB call_len_seq (by rfl) B.len PySem.boot_len (pa_cons (pv 1) pa_nil)) (pe_callB call_len_seq (by rfl) B.len PySem.boot_len (pa_cons (pe_meth0 (pv 0) T.cl mN ins hr2 bN .nil pass0) pa_nil)) (nomark _))))) (pss_one ps_never) pss_nil) <|
      pss_one <| ps_if (pt_not (pt_val (pe_callB (cr_all rfl) (by rfl) B.all (by decide +kernel) <| (pa_cons · pa_nil) <| pe_lc (own := [("worth", 2)]) (g := gName 2) (tt := tYes) (te := tCall spWorth [] E0 (tCons (tVar 2) tNil)) rfl nd (pi_list (pv 1)) (blkOk_by (N := nChkRow) (sc := defScope sChkRow) (own := [("worth", 2)]) (by decide +kernel))
          (fun _ _ _ _ _ => pg_name (i := 2) nd rfl (.inl rfl)) (fun _ _ _ _ _ => pts_nil) (fun _ _ _ _ _ => pe_call DW.ok hr (by rfl) DW.mg DW.kp DW.bd .nil pass0 (pa_cons (pv 2) pa_nil))))) (pss_one ps_never) pss_nil, ?_⟩
    obtain ⟨dx, ob⟩ := N.ob
    have hpl := plc_len gs "in" gs.length
    refine ⟨_, rfl, _, _, _, _, true, rfl, .ty "list", ty_lst sr, kit_ty (by decide +kernel), true, rfl, iteF ?_⟩
    refine ⟨_, rfl, lr, _, rfl, .inl sr, _, rfl, p, dx, _, rfl, ob, nf_no _ _ (by decide +kernel) (by decide +kernel), p, ng, nw, gs, ws, rfl, N, hgl, fun l1 H1 hl1 sm1 el1 => ?_⟩
    refine ⟨l1, _, rfl, .inl (SqL.of el1), rfl, false, ?_, iteF ?_⟩
    · show V.bl (!decide (V.int (((rs.map V.int).length : Nat) : Int) = V.int ((((plc gs "in" gs.length).map fun i => V.int (i : Nat)).length : Nat) : Int))) = V.bl false
      rw [List.length_map, List.length_map, hl, decide_eq_true rfl]
      rfl
    refine ⟨_, rfl, lr, rfl, ⟨_, sm1.seq sr⟩, fun D hD => ?_⟩
    refine lc_list (K := K) (a := lr) (xs := rs.map V.int) (fun i Hc => Hc D = some (.lst ((List.replicate i true).map V.bl)) ∧ Same H1 Hc) ⟨upd_same, same_new hD⟩ (fun i Hc _ ⟨_, sm⟩ => (sm1.trans sm).seq sr) ?_ ?_
    · rintro i y Hc hy ⟨hc, sm⟩
      obtain ⟨z, ez, rfl⟩ := int_at hy
      have hz := hw z (List.mem_of_getElem? ez)
      have hi : i < rs.length := (List.getElem?_eq_some_iff.mp ez).1
      refine ⟨rfl, tyes ?_⟩
      refine ⟨_, rfl, z, rfl, _, hc, by rw [List.length_map, List.length_replicate]; exact small1000 (by omega), ?_, same_mut sm hD⟩
      rw [upd_same, decide_eq_true hz.1, decide_eq_true hz.2, List.replicate_succ', List.map_append]
      rfl
    · rintro Hc ⟨hc, sm⟩
      refine ⟨D, _, rfl, SqL.of hc, true, ?_, iteF (q Hc (sm1.trans sm))⟩
      have e : (List.replicate (rs.map V.int).length true).all id = true := by
        rw [List.all_eq_true]
        intro y hy
        rw [List.mem_replicate] at hy
        rw [hy.2]
        rfl
      rw [e]
/-! ### worths -/
theorem scWorths : FnScope ["net", "row", "told", "gate", "put", "kind", "rule"] ["net", "row"] (defScope sWorths) := ⟨rfl, rfl, rfl, by decide +kernel, rfl, by decide +kernel, by decide +kernel⟩
abbrev DWorths (P : Program) (w : World) (K : PySem.W.Frag) (mg : Str → Option Value) (base : Heap) (C : Addr) := Df P w K mg base 5 "worths" ["net", "row"] (spWorths K C)
theorem set_int {ts : List Int} {g : Nat} {z : Int} : (ts.map V.int).set g (V.int z) = (ts.set g z).map V.int := by simp [List.map_set]
theorem wok_set {ts : List Int} {g : Nat} {z : Int} (h : WOk1 ts) (hz : 0 ≤ z ∧ z ≤ 96) : WOk1 (ts.set g z) := by
  intro y hy
  rcases List.mem_or_eq_of_mem_set hy with hy | hy
  · exact h y hy
  · rw [hy]
    exact hz
theorem zeros (n : Nat) : (List.replicate n [V.int 0]).flatten = (List.replicate n (0 : Int)).map V.int := by
  induction n with
  | zero => rfl
  | succ n ih =>
    rw [List.replicate_succ, List.flatten_cons, ih, List.replicate_succ]
    rfl
theorem plc_nodup (gs : List Gt) (k : Str) (n : Nat) : (plc gs k n).Nodup := List.nodup_range.sublist List.filter_sublist

/-- the list at l may be changed -/
theorem But.put {l : Addr} {H H' : Hp} {o : HO} (b : But l H H') : But l H (L2.upd H' l o) := fun c u n e => by
  rw [upd_ne n]
  exact b c u n e
theorem But.net {K : PySem.W.Frag} {C l p ng nw : Addr} {H H' : Hp} {gs : List Gt} {ws : List Wr} {xs : List V} (b : But l H H') (hl : H l = some (.lst xs)) (n : NetAt K C H p ng nw gs ws) (h1 : ng ≠ l) (h2 : nw ≠ l) : NetAt K C H' p ng nw gs ws := by
  obtain ⟨dx, ob⟩ := n.ob
  obtain ⟨gv, hg, ga⟩ := n.g
  obtain ⟨wv, hw, wa⟩ := n.w
  have t : TK H H' := fun c u t e => b c u (fun z => by
    rw [z, hl] at e
    cases e
    exact t) e
  exact ⟨⟨dx, b _ _ (ne_of ob hl (by intro z; cases z)) ob⟩, ⟨gv, b _ _ h1 hg, ga.imp fun _ _ r => r.tk t⟩, ⟨wv, b _ _ h2 hw, wa.imp fun _ _ r => r.tk t⟩, n.ne⟩
theorem ok_worths {f fR fO fC fN C aR : Addr} {fd fdR fdO fdC fdN : FuncData} (F : Fun K "worths" "worths" sWorths f fd) (hm : mg "worths" = some (.ref f)) (B : Bt mg) (T : NT K mg C) (RL : Rl P w K mg base aR) (DR : DChkRow P w K mg base C fR fdR) (DO : DOrder P w K mg base fO fdO) (DC : DComing P w K mg base fC fdC)
    (ins : FnOk P w K mg base CX0 2 fN fdN ["self"] (spPorts K C "in")) (mN : Meth K C "ins" fN) (bN : Binds K fdN ["self"] []) : DWorths P w K mg base C f fd := by
  refine ⟨?_, hm, F.kp, F.binds fun _ _ _ _ _ _ us hl => match us, hl with | [_, _], _ => rfl⟩
  refine F.ok scWorths (fun vs H Q E h => ?_) (fun cdv A outer s H vs Q E hr h => ?_)
  · obtain ⟨p, ng, nw, lr, gs, ws, rs, rfl, _⟩ := h
    rfl
  · obtain ⟨p, ng, nw, lr, gs, ws, rs, rfl, NA, N, sr, hl, hw, q⟩ := h
    have nd := scWorths.nd
    have hr1 : Room 1 _ := hr.mono (by decide)
    have hr2 : Room 2 _ := hr.mono (by decide)
    refine ⟨_, pss_cons (ps_expr (pe_call DR.ok hr (by rfl) DR.mg DR.kp DR.bd .nil pass0 (pa_cons (pv 0) (pa_cons (pv 1) pa_nil)))) <|
      pss_cons (ps_set (i := 2) nd rfl (.inl rfl) (pe_op op_rep (pe_lst (pa_cons pe_int pa_nil)) (pe_callB call_len_seq (by rfl) B.len PySem.boot_len (pa_cons (pe_fld (pv 0) rfl) pa_nil)))) <|
      pss_cons (ps_for PassesOwn.never rfl (pi_zip (by rfl) B.zip (pa_cons (pe_meth0 (pv 0) T.cl mN ins hr2 bN .nil pass0) (pa_cons (pv 1) pa_nil))) (pg_tup rfl (pgs_cons (pg_name (i := 3) nd rfl (.inl rfl)) (pgs_cons (pg_name (i := 4) nd rfl (.inl rfl)) pgs_nil))) <|
        pss_one <| ps_asg (pv 4) (pg_sub (pv 2) (pv 3) set_list)) <|
      pss_cons (ps_for PassesOwn.never rfl (pi_list (pe_call DO.ok hr2 (by rfl) DO.mg DO.kp DO.bd .nil pass0 (pa_cons (pe_callB call_len_seq (by rfl) B.len PySem.boot_len (pa_cons (pe_fld (pv 0) rfl) pa_nil)) (pa_cons (pe_fld (pv 0) rfl) pa_nil)))) (pg_name (i := 3) nd rfl (.inl rfl)) <|
        pss_cons (ps_set (i := 5) nd rfl (.inl rfl) (pe_ix ix_tup (pe_ix ix_list (pe_fld (pv 0) rfl) (pv 3) (fun _ _ => rfl)) pe_int (fun _ _ => rfl))) <|
        pss_one <| ps_if (pt_cmpR op_ne (pv 5) pe_str (nomark _))
          (pss_cons (ps_set (i := 6) nd rfl (.inl rfl) (pe_ix ix_kdict (pe_glob (v := .ref aR) (by rfl) RL.mR rfl) (pv 5) (fun _ _ => rfl))) <|
            pss_one <| ps_asg (pe_callD (i := 6) hr1 rfl (.inl rfl) (pa_cons (pe_call DC.ok hr2 (by rfl) DC.mg DC.kp DC.bd .nil pass0 (pa_cons (pv 3) (pa_cons (pe_fld (pv 0) rfl) (pa_cons (pv 2) pa_nil)))) pa_nil)) (pg_sub (pv 2) (pv 3) set_list)) pss_nil) <|
      pss_one <| ps_ret (pv 2), ?_⟩
    obtain ⟨dx, ob⟩ := NA.ob
    have hgl := N.gl
    obtain ⟨gv, hgv, ga⟩ := id NA.g
    have hlg : gv.length = gs.length := ga.1
    have hgl' : gs.length ≤ 1000 := by omega
    refine ⟨_, rfl, _, rfl, p, ng, nw, lr, gs, ws, rs, rfl, NA, hgl', sr, hl, hw, fun H1 sm1 => ?_⟩
    -- told = [0] * len(net.gates)
    refine ⟨(by show 1 ≤ sizeLine; decide), fun l0 hl0 => ?_⟩
    have sm2 := sm1.trans (same_new (o := .lst [.int 0]) hl0)
    refine ⟨_, rfl, p, C, dx, _, _, rfl, sm2 _ _ ob, T.cl, T.nG, nf_gates _ _, ng, gv, rfl, .inl (SqL.of (sm2 _ _ hgv)), l0, _, _, rfl, rfl, upd_same, by omega, by omega, ?_, fun lt hlt => ?_⟩
    · show 1 * _ ≤ sizeLine
      have : 1 * ((gv.length : Int)).toNat ≤ 1000 := by omega
      exact Nat.le_of_lt (small1000 this)
    rw [Int.toNat_natCast, zeros, hlg]
    have hltH : H lt = none := sm2.free hlt
    have sm3 := sm2.trans (same_new (o := .lst ((List.replicate gs.length (0 : Int)).map V.int)) hlt)
    have elt : (upd (upd H1 l0 (.lst [.int 0])) lt (.lst ((List.replicate gs.length (0 : Int)).map V.int))) lt = some (.lst ((List.replicate gs.length (0 : Int)).map V.int)) := upd_same
    generalize upd (upd H1 l0 (.lst [.int 0])) lt (.lst ((List.replicate gs.length (0 : Int)).map V.int)) = H3 at sm3 elt
    have nglt : ng ≠ lt := ne_of_none hgv hltH
    have nwlt : nw ≠ lt := by
      obtain ⟨wv0, hwv0, _⟩ := NA.w
      exact ne_of_none hwv0 hltH
    have nlr : ∀ {H' : Hp}, But lt H H' → SqL K H' lr (rs.map V.int) := fun {H'} b => by
      refine Same.seq (fun c o e => b c o (ne_of_none e hltH) e) sr
    -- for gate, put in zip(net.ins(), row)
    refine ⟨_, rfl, p, dx, _, rfl, sm3 _ _ ob, nf_no _ _ (by decide +kernel) (by decide +kernel), p, ng, nw, gs, ws, rfl, NA.same sm3, hgl', fun li H4 hli sm4 eli => ?_⟩
    have sm14 := sm3.trans sm4
    have elt4 := sm4 _ _ elt
    have nlilt : li ≠ lt := fun z => by
      rw [z, elt] at hli
      cases hli
    have hpl := plc_len gs "in" gs.length
    refine ⟨_, rfl, li, lr, _, _, rfl, SqL.of eli, sm14.seq sr, RZ.for_zipL (K := K) (a := li) (b := lr) (xs := (plc gs "in" gs.length).map fun i => V.int (i : Nat)) (ys := rs.map V.int) (by rw [List.length_map, List.length_map, hl])
      (fun i σ H' => ∃ (s3 s4 : Option V) (ts : List Int), σ = [some (.ref p), some (.ref lr), some (.ref lt), s3, s4, none, none] ∧ H' lt = some (.lst (ts.map V.int)) ∧ But lt H4 H' ∧ ts.length = gs.length ∧ WOk1 ts ∧ ∀ (j g : Nat) (r : Int), j < i → (plc gs "in" gs.length)[j]? = some g → rs[j]? = some r → ts.getD g 0 = r)
      ⟨_, _, List.replicate gs.length 0, rfl, elt4, But.refl _ _, List.length_replicate, ?_, fun j g r h => by omega⟩ (fun i σ H' ⟨_, _, _, _, _, b, _⟩ => ⟨SqL.of (b _ _ nlilt eli), nlr ((But.same sm14).trans b)⟩) ?_ ?_⟩
    · intro y hy
      rw [List.mem_replicate] at hy
      rw [hy.2]
      decide
    · rintro i x y T' σ H' hx hy ⟨s3', s4', ts, rfl, et, bt, htl, hwt, hput⟩ hT
      rw [List.getElem?_map] at hx
      cases eg : (plc gs "in" gs.length)[i]? with
      | none =>
        rw [eg] at hx
        cases hx
      | some g =>
      rw [eg] at hx
      cases hx
      obtain ⟨r, er, rfl⟩ := int_at hy
      have hg := mem_plc.mp (List.mem_of_getElem? eg)
      have hr0 := hw r (List.mem_of_getElem? er)
      have sT : Same H' (upd H' T' (.tup [.int (g : Nat), .int r])) := same_new hT
      refine ⟨T', _, rfl, .inl (.inl upd_same), rfl, _, _, rfl, _, _, rfl, rfl, ?_⟩
      refine ⟨_, rfl, _, rfl, _, rfl, lt, _, _, g, rfl, rfl, sT _ _ et, Evl.ixN_nat (by rw [List.length_map, htl]; exact hg.1), ?_⟩
      rw [set_int]
      refine ⟨_, _, ts.set g r, rfl, upd_same, (bt.trans (But.same sT)).put, by rw [List.length_set]; exact htl, wok_set hwt hr0, fun j g' r' hj e1 e2 => ?_⟩
      rw [getD_set (by rw [htl]; exact hg.1)]
      by_cases hji : j = i
      · subst hji
        rw [eg] at e1
        cases e1
        rw [er] at e2
        cases e2
        rw [if_pos rfl]
      · rw [if_neg (fun z => hji (nd_ix (plc_nodup gs "in" gs.length) e1 (by rw [z]; exact eg)))]
        exact hput j g' r' (by omega) e1 e2
    · rintro σ H' ⟨s3', s4', ts0, rfl, et0, bt0, htl0, hwt0, hput0⟩
      have hpl2 : ((plc gs "in" gs.length).map fun i => V.int (i : Nat)).length = (plc gs "in" gs.length).length := List.length_map ..
      rw [hpl2] at hput0
      have b5 : But lt H H' := (But.same sm14).trans bt0
      have NA5 : NetAt K C H' p ng nw gs ws := bt0.net elt4 (NA.same sm14) nglt nwlt
      obtain ⟨dx5, ob5⟩ := NA5.ob
      obtain ⟨gv5, hgv5, ga5⟩ := NA5.g
      have hlg5 : gv5.length = gs.length := ga5.1
      -- for gate in bare_order(..)
      refine ⟨_, rfl, p, C, dx5, _, _, rfl, ob5, T.cl, T.nG, nf_gates _ _, ng, gv5, rfl, .inl (SqL.of hgv5), _, rfl, p, C, dx5, _, _, rfl, ob5, T.cl, T.nW, nf_wires _ _, gv5.length, nw, ws, rfl, NA5.w.rw, fun x hx => ?_, by omega, N.wl, fun ord lo H6 ho sm6 hlo elo => ?_⟩
      · rw [hlg5]
        exact ⟨(N.wok x hx).s, (N.wok x hx).e⟩
      rw [hlg5] at ho
      have et6 := sm6 _ _ et0
      have nlolt : lo ≠ lt := fun z => by
        rw [z, et0] at hlo
        cases hlo
      have NA6 := NA5.same sm6
      have hperm := ho.full (fun x hx => ⟨(N.wok x hx).s, (N.wok x hx).e⟩) N.rank
      refine ⟨lo, rfl, ⟨_, SqL.of elo⟩, for_list (K := K) (a := lo) (xs := ord.map fun i => V.int (i : Nat)) (fun i σ H' => ∃ (s3 s4 s5 s6 : Option V) (ts : List Int), σ = [some (.ref p), some (.ref lr), some (.ref lt), s3, s4, s5, s6] ∧ H' lt = some (.lst (ts.map V.int)) ∧ But lt H6 H' ∧ ts.length = gs.length ∧ WOk1 ts ∧
          (∀ (j g : Nat) (r : Int), (plc gs "in" gs.length)[j]? = some g → rs[j]? = some r → ts.getD g 0 = r) ∧ ∀ g, g ∈ ord.take i → kindAt gs g ≠ "in" → ts.getD g 0 = kindVal (kindAt gs g) (cmg ws ts g))
        ⟨_, _, _, _, ts0, rfl, et6, But.refl _ _, htl0, hwt0, fun j g r e1 e2 => hput0 j g r (List.getElem?_eq_some_iff.mp e1).1 e1 e2, by simp⟩ (fun i σ H' _ ⟨_, _, _, _, _, _, _, b, _⟩ => SqL.of (b _ _ nlolt elo)) ?_ ?_⟩
      · rintro i x σ H7 hx ⟨t3, t4, t5, t6, ts, rfl, et, bt, htl, hwt, hput, heq⟩
        rw [List.getElem?_map] at hx
        cases eg : ord[i]? with
        | none =>
          rw [eg] at hx
          cases hx
        | some g =>
        rw [eg] at hx
        cases hx
        have hg : g < gs.length := ho.lt g (List.mem_of_getElem? eg)
        have NA7 : NetAt K C H7 p ng nw gs ws := bt.net et6 NA6 nglt nwlt
        obtain ⟨dx7, ob7⟩ := NA7.ob
        obtain ⟨gv7, hgv7, ga7⟩ := NA7.g
        have hggs : gs[g]? = some gs[g] := List.getElem?_eq_getElem hg
        obtain ⟨y, hy, a, rfl, sq⟩ := ga7.getR hggs
        have hk : kindAt gs g = gs[g].1 := kindAt_get hggs
        have etk : ord.take (i + 1) = ord.take i ++ [g] := take_add eg
        have ngt : g ∉ ord.take i := nodup_take ho.nd eg
        refine ⟨_, rfl, p, C, dx7, _, _, rfl, ob7, T.cl, T.nG, nf_gates _ _, _, rfl, ng, gv7, _, _, rfl, rfl, SqL.of hgv7, atI_nat hy, a, _, 0, _, rfl, rfl, sq, atI_nat (j := 0) rfl, ?_⟩
        refine ⟨_, rfl, rfl, _, rfl, ite2 (fun e => ?_) (fun e => ?_)⟩
        · have hkn : kindAt gs g ≠ "in" := fun z => by
            rw [hk] at z
            rw [z] at e
            simp at e
          obtain ⟨fk, fdk, kd, Fk, kpk, bk⟩ := RL.kd gs[g].1 (N.gok _ (List.getElem_mem hg)).1 (by rw [← hk]; exact hkn)
          refine ⟨_, rfl, aR, gs[g].1, .ref fk, rfl, rfl, kd, ?_⟩
          refine ⟨fk, fdk, ["coming"], spR K gs[g].1, Fk, kpk, bk, rfl, _, rfl, _, rfl, p, C, dx7, _, _, rfl, ob7, T.cl, T.nW, nf_wires _ _, _, rfl, g, nw, lt, ws, ts, rfl, NA7.w.rw, SqL.of et, fun x hx => by rw [htl]; exact (N.wok x hx).s, N.wl, fun lc H8 hlc sm8 elc => ?_⟩
          refine ⟨lc, _, rfl, SqL.of elc, cmg_bound N hwt g, fun z => cmg_ne N hg (by rw [hk]; exact z), ?_⟩
          refine ⟨_, rfl, _, rfl, lt, _, _, g, rfl, rfl, sm8 _ _ et, Evl.ixN_nat (by rw [List.length_map, htl]; exact hg), ?_⟩
          rw [set_int]
          have hcg : ∀ e', (∀ x ∈ ws, x.2.1 = e' → x.2.2 = [] → x.1 ≠ g) → cmg ws (ts.set g (kindVal gs[g].1 (cmg ws ts g))) e' = cmg ws ts e' := fun e' he' => by
            unfold cmg
            refine List.map_congr_left fun x hx => ?_
            rw [List.mem_filter] at hx
            refine wv_congr fun hb => ?_
            rw [getD_set (by rw [htl]; exact hg), if_neg (he' x hx.1 (by simpa using hx.2) hb)]
          have hbare : ∀ j e', ord[j]? = some e' → j ≤ i → ∀ x ∈ ws, x.2.1 = e' → x.2.2 = [] → x.1 ≠ g := fun j e' hj hji x hx hxe hxr z => by
            have hb : (x.1, x.2.1) ∈ bare ws := List.mem_map.mpr ⟨x, List.mem_filter.mpr ⟨hx, by rw [hxr]; rfl⟩, rfl⟩
            have := ho.top j e' hj _ hb hxe
            rw [show ((x.1, x.2.1) : Nat × Nat).1 = x.1 from rfl, z] at this
            exact ngt (List.take_subset_take_left ord hji this)
          refine ⟨_, _, _, _, _, rfl, upd_same, (bt.trans (But.same sm8)).put, by rw [List.length_set]; exact htl, wok_set hwt (kv_bound _ (cmg_bound N hwt g)), fun j g' r' e1 e2 => ?_, fun g' hg' hk' => ?_⟩
          · rw [getD_set (by rw [htl]; exact hg), if_neg (fun z => hkn (by rw [← z]; exact (mem_plc.mp (List.mem_of_getElem? e1)).2))]
            exact hput j g' r' e1 e2
          · rw [etk] at hg'
            rcases List.mem_append.mp hg' with hg' | hg'
            · obtain ⟨j, hj⟩ := List.getElem?_of_mem hg'
              have hji : j < i := by
                have := (List.getElem?_eq_some_iff.mp hj).1
                rw [List.length_take] at this
                omega
              rw [List.getElem?_take_of_lt hji] at hj
              rw [getD_set (by rw [htl]; exact hg), if_neg (fun z => ngt (by rw [← z]; exact hg')), hcg g' (hbare j g' hj (by omega))]
              exact heq g' hg' hk'
            · simp at hg'
              subst hg'
              rw [getD_set (by rw [htl]; exact hg), if_pos rfl, hcg _ (hbare i _ eg (Nat.le_refl _)), hk]
        · have hki : kindAt gs g = "in" := by
            rw [hk]
            refine Classical.byContradiction fun z => e ?_
            show (!decide (V.str gs[g].1 = V.str "in")) = true
            rw [decide_eq_false (fun y => z (V.str.inj y))]
            rfl
          refine ⟨_, _, _, _, ts, rfl, et, bt, htl, hwt, hput, fun g' hg' hk' => ?_⟩
          rw [etk] at hg'
          rcases List.mem_append.mp hg' with hg' | hg'
          · exact heq g' hg' hk'
          · simp at hg'
            subst hg'
            exact absurd hki hk'
      · rintro σ H7 ⟨t3, t4, t5, t6, ts, rfl, et, bt, htl, hwt, hput, heq⟩
        rw [List.length_map, List.take_length] at heq
        refine ⟨_, rfl, q lt H7 ts hltH (fun b o e => (b5.trans ((But.same sm6).trans bt)) b o (ne_of_none e hltH) e) ⟨htl, hput, fun g hg hk => heq g (hperm.mem_iff.mpr (List.mem_range.mpr hg)) hk⟩ hwt et⟩
end
end Lag

set_option maxRecDepth 100000
set_option maxHeartbeats 8000000
namespace Lag
open PySem PySem.Spec PyProof.Rows L2
abbrev sNetBehind : Stmt := topS 43 -- @net_behind
abbrev sBeat : Stmt := topS 42
abbrev sBehind : Stmt := topS 44
section
variable {K : PySem.W.Frag} {C : Addr} {H : Hp}
/-- Net(gates, wires), behind its arguments -/
theorem net_in {Q : Addr → Hp → Prop} {lg lw : Addr} {gs : List Gt} {ws : List Wr} (R : RG K H lg gs) (R2 : RW K H lw ws) (N : NetOk gs ws)
    (q : ∀ p ng nw H', NetAt K C H' p ng nw gs ws → Same H H' → H p = none → H ng = none → H nw = none → Q p H') :
    ∀ x dx, H x = none → H dx = none → dx ≠ x → spInit K C (.ref x :: ([.ref lg, .ref lw] ++ [])) (upd (upd H dx (.own x)) x (.ins C dx [])) (fun v H' => v = .non ∧ Q x H') E0 := by
  intro x dx hx hdx ne
  have s0 : Same H (upd (upd H dx (.own x)) x (.ins C dx [])) := fun b o e => by
    rw [upd_ne (ne_of_none e hx), upd_ne (ne_of_none e hdx)]
    exact e
  refine ⟨x, dx, lg, lw, gs, ws, rfl, upd_same, R.same s0, R2.same s0, N, fun H' ng nw A h1 h2 k => ⟨rfl, ?_⟩⟩
  exact q x ng nw H' A (Same.made hx hdx k) hx (s0.free h1) (s0.free h2)
end
/-! ### a wire behind a beat -/
def bh (ts : List Int) (x : Wr) : Wr := match x.2.2 with
  | [] => x
  | _ :: l => (x.1, x.2.1, l ++ [ts.getD x.1 0])
theorem bh_ends (ts : List Int) (x : Wr) : (bh ts x).1 = x.1 ∧ (bh ts x).2.1 = x.2.1 ∧ (bh ts x).2.2.length = x.2.2.length := by
  unfold bh
  cases e : x.2.2 with
  | nil => simp [e]
  | cons r l => simp
theorem bh_bare {ts : List Int} {x : Wr} (h : (bh ts x).2.2 = []) : x.2.2 = [] := by
  have := (bh_ends ts x).2.2
  rw [h] at this
  exact List.length_eq_zero_iff.mp this.symm
theorem NetOk.behind {gs : List Gt} {ws : List Wr} {ts : List Int} (N : NetOk gs ws) (ht : WOk1 ts) : NetOk gs (ws.map (bh ts)) := by
  obtain ⟨ρ, hρ⟩ := N.rank
  have c : ∀ e, cnt (ws.map (bh ts)) e = cnt ws e := fun e => by
    unfold cnt
    rw [List.countP_map]
    refine List.countP_congr fun x _ => ?_
    simp only [Function.comp, (bh_ends ts x).2.1]
  refine ⟨N.ne, N.gl, by rw [List.length_map]; exact N.wl, N.gok, fun y hy => ?_, fun e he hk => by rw [c]; exact N.one e he hk, fun e he hk => by rw [c]; exact N.some e he hk, ρ, fun y hy h => ?_⟩
  · obtain ⟨x, hx, rfl⟩ := List.mem_map.mp hy
    have W := N.wok x hx
    obtain ⟨e1, e2, e3⟩ := bh_ends ts x
    refine ⟨by rw [e1]; exact W.s, by rw [e2]; exact W.e, by rw [e1]; exact W.ks, by rw [e2]; exact W.ke, ?_, by rw [e3]; exact W.rl⟩
    unfold bh
    cases e : x.2.2 with
    | nil =>
      show ROk x.2.2
      exact W.r
    | cons r l =>
      intro y hy
      rcases List.mem_append.mp hy with hy | hy
      · exact W.r y (by rw [e]; exact List.mem_cons_of_mem _ hy)
      · simp only [List.mem_singleton] at hy
        rw [hy]
        exact wok_getD ht x.1
  · obtain ⟨x, hx, rfl⟩ := List.mem_map.mp hy
    obtain ⟨e1, e2, _⟩ := bh_ends ts x
    rw [e1, e2]
    exact hρ x hx (bh_bare h)
def spBehind (K : PySem.W.Frag) : Sp := fun vs H Q _ => ∃ (v : V) (x : Wr) (lt : Addr) (ts : List Int), vs = [v, .ref lt] ∧ WireV K H v x ∧ SqL K H lt (ts.map V.int) ∧ x.1 < ts.length ∧ x.2.2.length ≤ 100 ∧ ∀ v' H', Same H H' → WireV K H' v' (bh ts x) → Q v' H'
def spBeat (K : PySem.W.Frag) (C : Addr) : Sp := fun vs H Q _ => ∃ (p ng nw lr : Addr) (gs : List Gt) (ws : List Wr) (rs : List Int), vs = [.ref p, .ref lr] ∧ NetAt K C H p ng nw gs ws ∧ NetOk gs ws ∧ SqL K H lr (rs.map V.int) ∧ rs.length = (plc gs "in" gs.length).length ∧ WOk1 rs ∧
  ∀ t p' ng' nw' lo H' ts, Same H H' → IsW gs ws rs ts → WOk1 ts → NetAt K C H' p' ng' nw' gs (ws.map (bh ts)) → H' lo = some (.lst ((plc gs "out" gs.length).map fun g => V.int (ts.getD g 0))) → H' t = some (.tup [.ref p', .ref lo]) → H p' = none → H ng' = none → H nw' = none → H lo = none → Q (.ref t) H'
section
variable {P : Program} {w : World} {K : PySem.W.Frag} {mg : Str → Option Value} {base : Heap}
theorem scBehind : FnScope ["wire", "told", "start", "end", "held"] ["wire", "told"] (defScope sBehind) := ⟨rfl, rfl, rfl, by decide +kernel, rfl, by decide +kernel, by decide +kernel⟩
abbrev DBehind (P : Program) (w : World) (K : PySem.W.Frag) (mg : Str → Option Value) (base : Heap) := Df P w K mg base 1 "wire_behind" ["wire", "told"] (spBehind K)
theorem ok_behind {f : Addr} {fd : FuncData} (F : Fun K "wire_behind" "wire_behind" sBehind f fd) (hm : mg "wire_behind" = some (.ref f)) (B : Bt mg) : DBehind P w K mg base f fd := by
  refine ⟨?_, hm, F.kp, F.binds fun _ _ _ _ _ _ us hl => match us, hl with | [_, _], _ => rfl⟩
  refine F.ok scBehind (fun vs H Q E h => ?_) (fun cdv A outer s H vs Q E hr h => ?_)
  · obtain ⟨v, x, lt, ts, rfl, _⟩ := h
    rfl
  · obtain ⟨v, x, lt, ts, rfl, hwv, st, hx, hxl, q⟩ := h
    have hwv0 := hwv
    obtain ⟨a, b, rfl, sq1, sq2⟩ := hwv
    have nd := scBehind.nd
    refine ⟨_, pss_cons (ps_asg (pv 0) (pg_tup (by rfl) (pgs_cons (pg_name (i := 2) nd rfl (.inl rfl)) (pgs_cons (pg_name (i := 3) nd rfl (.inl rfl)) (pgs_cons (pg_name (i := 4) nd rfl (.inl rfl)) pgs_nil))))) <|
      pss_one <| ps_ret <| pe_ifExp (pt_cmpR op_gt (pe_callB call_len_seq (by rfl) B.len PySem.boot_len (pa_cons (pv 4) pa_nil)) pe_int (nomark _))
        (pe_tup (pa_cons (pv 2) (pa_cons (pv 3) (pa_cons (pe_op op_catA (pe_slice sl_tupA (pv 4) (po_some pe_int) po_none) (pe_tup (pa_cons (pe_ix ix_list (pv 1) (pv 2) (fun _ _ => rfl)) pa_nil))) pa_nil)))) (pv 0), ?_⟩
    refine ⟨_, rfl, a, _, rfl, sq1, rfl, _, _, rfl, _, _, rfl, _, _, rfl, rfl, ?_⟩
    refine ⟨_, rfl, b, _, rfl, .inr sq2, _, _, rfl, rfl, _, rfl, ite2 (fun e => ?_) (fun e => ?_)⟩
    · obtain ⟨x1, x2, xr⟩ := x
      cases xr with
      | nil => exact absurd (of_decide_eq_true e) (by simp)
      | cons r l =>
      have eb : bh ts (x1, x2, r :: l) = (x1, x2, l ++ [ts.getD x1 0]) := rfl
      have hll : l.length ≤ 100 := by
        have h2 : l.length + 1 ≤ 100 := hxl
        omega
      have ef : cutV ((r :: l).map V.int) (some 1) none = l.map V.int := (cut_from (xs := (r :: l).map V.int) 1).trans rfl
      refine ⟨_, rfl, _, rfl, _, rfl, 1, rfl, b, _, rfl, sq2, fun z => ?_, fun _ s1 hs1 => ?_⟩
      · exfalso
        have z1 : min 1 ((r :: l).map V.int).length = 0 := (HT.sIx_nat _ 0 1).symm.trans z.1
        rw [List.map_cons, List.length_cons] at z1
        omega
      rw [ef]
      have sm1 : Same H (upd H s1 (.tup (l.map V.int))) := same_new hs1
      have egd : ts.getD x1 0 = ts[x1]'hx := by
        rw [List.getD_eq_getElem?_getD, List.getElem?_eq_getElem hx]
        rfl
      refine ⟨_, rfl, _, rfl, lt, _, _, .int (ts.getD x1 0), rfl, rfl, sm1.seq st, atI_nat (by rw [List.getElem?_map, List.getElem?_eq_getElem hx, egd]; rfl), (by show 1 ≤ sizeLine; decide), fun t1 ht1 => ?_⟩
      have sm2 := sm1.trans (same_new (o := .tup [.int (ts.getD x1 0)]) ht1)
      have es1 : SqT K (upd (upd H s1 (.tup (l.map V.int))) t1 (.tup [.int (ts.getD x1 0)])) s1 (l.map V.int) := (TK.new ht1).seq (.inl (.inl upd_same))
      refine ⟨s1, t1, l.map V.int, [.int (ts.getD x1 0)], rfl, rfl, es1, .inl (.inl upd_same), ?_, fun z => ?_, (fun _ z => by cases z), fun _ _ c hc => ?_⟩
      · rw [List.length_map]
        show _ + 1 ≤ sizeLine
        exact Nat.le_of_lt (small1000 (by omega))
      · refine ⟨(by show 3 ≤ sizeLine; decide), fun t2 ht2 => ?_⟩
        have ez : l = [] := List.map_eq_nil_iff.mp z
        refine q _ _ (sm2.trans (same_new ht2)) ?_
        rw [eb]
        have e5 : (l ++ [ts.getD x1 0]).map V.int = [.int (ts.getD x1 0)] := by
          rw [ez]
          rfl
        refine ⟨t2, t1, rfl, .inl (.inl upd_same), (TK.new ht2).seq ?_⟩
        show SqT K _ t1 ((l ++ [ts.getD x1 0]).map V.int)
        rw [e5]
        exact .inl (.inl upd_same)
      · refine ⟨(by show 3 ≤ sizeLine; decide), fun t2 ht2 => ?_⟩
        have sm3 := sm2.trans (same_new (o := .tup (l.map V.int ++ [.int (ts.getD x1 0)])) hc)
        refine q _ _ (sm3.trans (same_new ht2)) ?_
        rw [eb]
        refine ⟨t2, c, rfl, .inl (.inl upd_same), (TK.new ht2).seq ?_⟩
        rw [List.map_append]
        exact .inl (.inl upd_same)
    · have er : x.2.2 = [] := by
        cases er : x.2.2 with
        | nil => rfl
        | cons r l =>
          rw [er] at e
          exfalso
          apply e
          refine decide_eq_true ?_
          rw [List.length_map, List.length_cons]
          omega
      have eb : bh ts x = x := by unfold bh; rw [er]
      rw [eb] at q
      exact ⟨_, rfl, q _ H (Same.refl H) hwv0⟩
def spNetBehind (K : PySem.W.Frag) (C : Addr) : Sp := fun vs H Q _ => ∃ (p ng nw lt : Addr) (gs : List Gt) (ws : List Wr) (ts : List Int), vs = [.ref p, .ref lt] ∧ NetAt K C H p ng nw gs ws ∧ NetOk gs ws ∧ H lt = some (.lst (ts.map V.int)) ∧ ts.length = gs.length ∧ WOk1 ts ∧
  ∀ p' ng' nw' H', Same H H' → NetAt K C H' p' ng' nw' gs (ws.map (bh ts)) → H p' = none → H ng' = none → H nw' = none → Q (.ref p') H'
abbrev nNetB : List Str := ["net", "told", "wire"]
theorem scNetB : FnScope nNetB ["net", "told"] (defScope sNetBehind) := ⟨rfl, rfl, rfl, by decide +kernel, rfl, by decide +kernel, by decide +kernel⟩
abbrev DNetB (P : Program) (w : World) (K : PySem.W.Frag) (mg : Str → Option Value) (base : Heap) (C : Addr) := Df P w K mg base 8 "net_behind" ["net", "told"] (spNetBehind K C)
theorem ok_netBehind {f fB fI C : Addr} {fd fdB fdI : FuncData} (F : Fun K "net_behind" "net_behind" sNetBehind f fd) (hm : mg "net_behind" = some (.ref f)) (T : NT K mg C) (DB : DBehind P w K mg base fB fdB)
    (MK : Mk K C fI) (init : FnOk P w K mg base CX0 6 fI fdI ["self", "gates", "wires"] (spInit K C)) (bI : Binds K fdI ["self", "gates", "wires"] []) : DNetB P w K mg base C f fd := by
  refine ⟨?_, hm, F.kp, F.binds fun _ _ _ _ _ _ us hl => match us, hl with | [_, _], _ => rfl⟩
  refine F.ok scNetB (fun vs H Q E h => ?_) (fun cdv A outer s H vs Q E hr h => ?_)
  · obtain ⟨p, ng, nw, lt, gs, ws, ts, rfl, _⟩ := h
    rfl
  · obtain ⟨p, ng, nw, lt, gs, ws, ts, rfl, NA1, N, elt, hlt, wt, q⟩ := h
    have nd := scNetB.nd
    have hr1 : Room 1 _ := hr.mono (by decide)
    refine ⟨_, pss_one <| ps_ret (pe_make MK init hr (by rfl) T.mg bI .nil pass0 (pa_cons (pe_fld (pv 0) rfl) (pa_cons
        (pe_lc (own := [("wire", 2)]) (g := gName 2) (tt := tYes) (te := tCall (spBehind K) [] E0 (tCons (tVar 2) (tCons (tVar 1) tNil))) rfl nd (pi_list (pe_fld (pv 0) rfl)) (blkOk_by (N := nNetB) (sc := defScope sNetBehind) (own := [("wire", 2)]) (by decide +kernel)) (fun _ _ _ _ _ => pg_name (i := 2) nd rfl (.inl rfl)) (fun _ _ _ _ _ => pts_nil)
          (fun _ _ _ _ _ => pe_call DB.ok hr1 (by rfl) DB.mg DB.kp DB.bd .nil pass0 (pa_cons (pv 2) (pa_cons (pv 1) pa_nil)))) pa_nil))), ?_⟩
    have hgl := N.gl
    have hwl := N.wl
    obtain ⟨dx, ob⟩ := NA1.ob
    obtain ⟨vw, hvw, wa⟩ := NA1.w
    have hlw : vw.length = ws.length := wa.1
    refine ⟨_, rfl, p, C, dx, _, _, rfl, ob, T.cl, T.nG, nf_gates _ _, _, rfl, p, C, dx, _, _, rfl, ob, T.cl, T.nW, nf_wires _ _, nw, rfl, ⟨_, SqL.of hvw⟩, fun D hD => ?_⟩
    refine lc_list (K := K) (a := nw) (xs := vw) (fun i Hc => ∃ acc, Hc D = some (.lst acc) ∧ acc.length = i ∧ All2 (WireV K Hc) acc ((ws.take i).map (bh ts)) ∧ Same H Hc) ⟨[], upd_same, rfl, by simpa using All2.nil, same_new hD⟩ (fun i Hc _ ⟨_, _, _, _, sm⟩ => SqL.of (sm _ _ hvw)) ?_ ?_
    · rintro i v Hc hv ⟨acc, hacc, hal, haa, sm⟩
      obtain ⟨x, hx, wx⟩ := wa.get hv
      have hi : i < ws.length := (List.getElem?_eq_some_iff.mp hx).1
      have W := N.wok x (List.mem_of_getElem? hx)
      refine ⟨rfl, tyes ?_⟩
      refine ⟨_, rfl, _, rfl, v, x, lt, ts, rfl, wx.tk (TK.same sm), SqL.of (sm _ _ elt), by rw [hlt]; exact W.s, W.rl, fun v' H2 sm2 wx' => ?_⟩
      have hacc2 := sm2 _ _ hacc
      refine ⟨acc, hacc2, small1000 (by omega), acc ++ [v'], upd_same, by simp [hal], ?_, same_mut (sm.trans sm2) hD⟩
      have t2 : TK Hc (upd H2 D (.lst (acc ++ [v']))) := (TK.same sm2).trans (TK.lst hacc2)
      rw [List.take_add_one, hx, List.map_append]
      exact (haa.imp fun _ _ r => r.tk t2).snoc (wx'.tk (TK.lst hacc2))
    · rintro H2 ⟨acc, hacc, hal, haa, sm2⟩
      rw [hlw, List.take_length] at haa
      exact net_in (NA1.g.same sm2).rg ⟨acc, SqL.of hacc, haa⟩ (N.behind wt) fun p' ng' nw' H3 NA3 s3 hp' hng' hnw' => q p' ng' nw' H3 (sm2.trans s3) NA3 (sm2.free hp') (sm2.free hng') (sm2.free hnw')
abbrev nBeat : List Str := ["net", "row", "told", "gate"]
theorem scBeat : FnScope nBeat ["net", "row"] (defScope sBeat) := ⟨rfl, rfl, rfl, by decide +kernel, rfl, by decide +kernel, by decide +kernel⟩
abbrev DBeat (P : Program) (w : World) (K : PySem.W.Frag) (mg : Str → Option Value) (base : Heap) (C : Addr) := Df P w K mg base 9 "beat" ["net", "row"] (spBeat K C)
theorem ok_beat {f fW fB fO C : Addr} {fd fdW fdB fdO : FuncData} (F : Fun K "beat" "beat" sBeat f fd) (hm : mg "beat" = some (.ref f)) (T : NT K mg C) (DW : DWorths P w K mg base C fW fdW) (DB : DNetB P w K mg base C fB fdB) (outs : FnOk P w K mg base CX0 2 fO fdO ["self"] (spPorts K C "out")) (mO : Meth K C "outs" fO) (bO : Binds K fdO ["self"] []) : DBeat P w K mg base C f fd := by
  refine ⟨?_, hm, F.kp, F.binds fun _ _ _ _ _ _ us hl => match us, hl with | [_, _], _ => rfl⟩
  refine F.ok scBeat (fun vs H Q E h => ?_) (fun cdv A outer s H vs Q E hr h => ?_)
  · obtain ⟨p, ng, nw, lr, gs, ws, rs, rfl, _⟩ := h
    rfl
  · obtain ⟨p, ng, nw, lr, gs, ws, rs, rfl, NA, N, sr, hl, hw, q⟩ := h
    have nd := scBeat.nd
    have hr5 : Room 5 _ := hr.mono (by decide)
    have hr2 : Room 2 _ := hr.mono (by decide)
    refine ⟨_, pss_cons (ps_set (i := 2) nd rfl (Or.inr rfl) (pe_call DW.ok hr5 (by rfl) DW.mg DW.kp DW.bd .nil pass0 (pa_cons (pv 0) (pa_cons (pv 1) pa_nil)))) <|
      pss_one <| ps_ret <| pe_tup <| pa_cons (pe_call DB.ok hr (by rfl) DB.mg DB.kp DB.bd .nil pass0 (pa_cons (pv 0) (pa_cons (pv 2) pa_nil))) <| (pa_cons · pa_nil) <| pe_lc (own := [("gate", 3)]) (g := gName 3) (tt := tYes) (te := tOp (rIxL K) (tVar 2) (tVar 3)) rfl nd (pi_list (pe_meth0 (pv 0) T.cl mO outs hr2 bO .nil pass0)) (blkOk_by (N := nBeat) (sc := defScope sBeat) (own := [("gate", 3)]) (by decide +kernel)) (fun _ _ _ _ _ => pg_name (i := 3) nd rfl (.inl rfl)) (fun _ _ _ _ _ => pts_nil)
          (fun _ _ _ _ _ => pe_ix ix_list (pv 2) (pv 3) (fun _ _ => rfl)), ?_⟩
    have hgl := N.gl
    have hwl := N.wl
    refine ⟨_, rfl, _, rfl, p, ng, nw, lr, gs, ws, rs, rfl, NA, N, sr, hl, hw, fun lt H1 ts hlt sm1 iw wt elt => ?_⟩
    have NA1 := NA.same sm1
    refine ⟨_, rfl, _, rfl, p, ng, nw, lt, gs, ws, ts, rfl, NA1, N, elt, iw.len, wt, fun p' ng' nw' H3 s3 NA3 hp' hng' hnw' => ?_⟩
    · have s13 := sm1.trans s3
      have NAo := NA.same s13
      obtain ⟨dx3, ob3⟩ := NAo.ob
      have elt3 := s3 _ _ elt
      refine ⟨_, rfl, p, dx3, _, rfl, ob3, nf_no _ _ (by decide +kernel) (by decide +kernel), p, ng, nw, gs, ws, rfl, NAo, by omega, fun lo0 H4 hlo0 s4 elo0 => ?_⟩
      refine ⟨lo0, rfl, ⟨_, SqL.of elo0⟩, fun D2 hD2 => ?_⟩
      have hpl := plc_len gs "out" gs.length
      refine lc_list (K := K) (a := lo0) (xs := (plc gs "out" gs.length).map fun i => V.int (i : Nat)) (fun i Hc => Hc D2 = some (.lst (((plc gs "out" gs.length).take i).map fun g => V.int (ts.getD g 0))) ∧ Same H4 Hc) ⟨upd_same, same_new hD2⟩ (fun i Hc _ ⟨_, sm⟩ => SqL.of (sm _ _ elo0)) ?_ ?_
      · rintro i v Hc hv ⟨hc, sm⟩
        rw [List.getElem?_map] at hv
        cases eg : (plc gs "out" gs.length)[i]? with
        | none =>
          rw [eg] at hv
          cases hv
        | some g =>
        rw [eg] at hv
        cases hv
        have hg := (mem_plc.mp (List.mem_of_getElem? eg)).1
        have hgt : g < ts.length := by rw [iw.len]; exact hg
        have egd : ts.getD g 0 = ts[g]'hgt := by
          rw [List.getD_eq_getElem?_getD, List.getElem?_eq_getElem hgt]
          rfl
        have hi : i < (plc gs "out" gs.length).length := (List.getElem?_eq_some_iff.mp eg).1
        refine ⟨rfl, tyes ?_⟩
        refine ⟨_, rfl, _, rfl, lt, _, _, .int (ts.getD g 0), rfl, rfl, SqL.of (sm _ _ (s4 _ _ elt3)), atI_nat (by rw [List.getElem?_map, List.getElem?_eq_getElem hgt, egd]; rfl), _, hc, ?_, ?_, same_mut sm hD2⟩
        · rw [List.length_map, List.length_take]
          exact small1000 (by omega)
        · rw [upd_same, List.take_add_one, eg, List.map_append]
          rfl
      · rintro H5 ⟨hc, sm5⟩
        rw [List.length_map, List.take_length] at hc
        refine ⟨(by show 2 ≤ sizeLine; decide), fun t ht => ?_⟩
        have s6 : Same H5 (upd H5 t (.tup [.ref p', .ref D2])) := same_new ht
        have s36 := (s4.trans sm5).trans s6
        exact q t p' ng' nw' D2 _ ts (s13.trans s36) iw wt (NA3.same s36) (s6 _ _ hc) upd_same (sm1.free hp') (sm1.free hng') (sm1.free hnw') (s13.free (s4.free hD2))
end
end Lag

set_option maxRecDepth 100000
set_option maxHeartbeats 8000000
namespace Lag
open PySem PySem.Spec PyProof.Rows L2
abbrev sRun : Stmt := topS 45
/-! ### several beats: the mathematics -/
def outsOf (gs : List Gt) (ts : List Int) : List Int := (plc gs "out" gs.length).map fun g => ts.getD g 0
/-- the gates' worths tss, beat by beat, and the wires behind all of them -/
def Run (gs : List Gt) : List Wr → List (List Int) → List (List Int) → List Wr → Prop
  | ws, [], tss, we => tss = [] ∧ we = ws
  | ws, rs :: rss, tss, we => ∃ ts tl, tss = ts :: tl ∧ IsW gs ws rs ts ∧ WOk1 ts ∧ Run gs (ws.map (bh ts)) rss tl we
/-- a row of this net -/
def RowOk (gs : List Gt) (rs : List Int) : Prop := rs.length = (plc gs "in" gs.length).length ∧ WOk1 rs
theorem Run.snoc {gs : List Gt} : ∀ {rss : List (List Int)} {ws wm : List Wr} {tss : List (List Int)} {rs ts : List Int}, Run gs ws rss tss wm → IsW gs wm rs ts → WOk1 ts → Run gs ws (rss ++ [rs]) (tss ++ [ts]) (wm.map (bh ts))
  | [], ws, wm, tss, rs, ts, h, i, w => by
    obtain ⟨h1, h2⟩ := h
    subst h1 h2
    exact ⟨ts, [], rfl, i, w, rfl, rfl⟩
  | r :: rss, ws, wm, tss, rs, ts, h, i, w => by
    obtain ⟨t, tl, h1, h2, h3, h4⟩ := h
    subst h1
    exact ⟨t, tl ++ [ts], rfl, h2, h3, Run.snoc h4 i w⟩
theorem Run.len {gs : List Gt} : ∀ {rss : List (List Int)} {ws we : List Wr} {tss : List (List Int)}, Run gs ws rss tss we → tss.length = rss.length
  | [], _, _, _, h => by rw [h.1]
  | r :: rss, _, _, _, h => by
    obtain ⟨t, tl, h1, _, _, h4⟩ := h
    rw [h1, List.length_cons, List.length_cons, Run.len h4]
theorem Run.ok {gs : List Gt} : ∀ {rss : List (List Int)} {ws we : List Wr} {tss : List (List Int)}, NetOk gs ws → Run gs ws rss tss we → NetOk gs we
  | [], _, _, _, N, h => by rw [h.2]; exact N
  | r :: rss, _, _, _, N, h => by
    obtain ⟨t, tl, _, _, h3, h4⟩ := h
    exact Run.ok (N.behind h3) h4
theorem Run.unique {gs : List Gt} : ∀ {rss : List (List Int)} {ws we we' : List Wr} {tss tss' : List (List Int)}, NetOk gs ws → (∀ rs ∈ rss, RowOk gs rs) → Run gs ws rss tss we → Run gs ws rss tss' we' → tss = tss' ∧ we = we'
  | [], _, _, _, _, _, N, _, h, h' => by rw [h.1, h.2, h'.1, h'.2]; exact ⟨rfl, rfl⟩
  | r :: rss, ws, we, we', tss, tss', N, hr, h, h' => by
    obtain ⟨t, tl, h1, h2, h3, h4⟩ := h
    obtain ⟨t', tl', h1', h2', h3', h4'⟩ := h'
    have e := h2.unique N (hr r (List.mem_cons_self ..)).1 h2'
    subst e
    obtain ⟨e1, e2⟩ := Run.unique (N.behind h3) (fun rs h => hr rs (List.mem_cons_of_mem _ h)) h4 h4'
    rw [h1, h1', e1, e2]
    exact ⟨rfl, rfl⟩
/-- cut in two -/
theorem Run.cut {gs : List Gt} : ∀ {r1 r2 : List (List Int)} {ws we : List Wr} {tss : List (List Int)}, Run gs ws (r1 ++ r2) tss we → ∃ t1 t2 wm, tss = t1 ++ t2 ∧ Run gs ws r1 t1 wm ∧ Run gs wm r2 t2 we
  | [], r2, ws, we, tss, h => ⟨[], tss, ws, rfl, ⟨rfl, rfl⟩, h⟩
  | r :: r1, r2, ws, we, tss, h => by
    obtain ⟨t, tl, h1, h2, h3, h4⟩ := h
    obtain ⟨t1, t2, wm, e, a, b⟩ := Run.cut h4
    exact ⟨t :: t1, t2, wm, by rw [h1, e]; rfl, ⟨t, t1, rfl, h2, h3, a⟩, b⟩
theorem LG.dr {K : PySem.W.Frag} {wl l : Addr} {H H' : Hp} {gs : List Gt} (h : LG K H l gs) (n : l ≠ wl) (W : WellAt wl H) (d : Dr wl H H') : LG K H' l gs := by
  obtain ⟨vs, q, a⟩ := h
  exact ⟨vs, d.but _ _ n q, a.imp fun _ _ r => r.tk (TK.dr W d.but)⟩
theorem LW.dr {K : PySem.W.Frag} {wl l : Addr} {H H' : Hp} {ws : List Wr} (h : LW K H l ws) (n : l ≠ wl) (W : WellAt wl H) (d : Dr wl H H') : LW K H' l ws := by
  obtain ⟨vs, q, a⟩ := h
  exact ⟨vs, d.but _ _ n q, a.imp fun _ _ r => r.tk (TK.dr W d.but)⟩
/-- what stands while a net is asked -/
structure RS (K : PySem.W.Frag) (C wl : Addr) (H : Hp) (lg lw p ng nw : Addr) (gs : List Gt) (ws : List Wr) : Prop where
  W : WellAt wl H
  g : LG K H lg gs
  w : LW K H lw ws
  n : NetAt K C H p ng nw gs ws
  n1 : lg ≠ wl
  n2 : lw ≠ wl
  n3 : p ≠ wl
  n4 : ng ≠ wl
  n5 : nw ≠ wl
theorem NetAt.dr {K : PySem.W.Frag} {C wl p ng nw : Addr} {H H' : Hp} {gs : List Gt} {ws : List Wr} (n : NetAt K C H p ng nw gs ws) (W : WellAt wl H) (n3 : p ≠ wl) (n4 : ng ≠ wl) (n5 : nw ≠ wl) (d : Dr wl H H') : NetAt K C H' p ng nw gs ws := by
  obtain ⟨dx, h⟩ := n.ob
  exact ⟨⟨dx, d.but _ _ n3 h⟩, n.g.dr n4 W d, n.w.dr n5 W d, n.ne⟩
theorem RS.dr {K : PySem.W.Frag} {C wl lg lw p ng nw : Addr} {H H' : Hp} {gs : List Gt} {ws : List Wr} (r : RS K C wl H lg lw p ng nw gs ws) (d : Dr wl H H') : RS K C wl H' lg lw p ng nw gs ws :=
  ⟨d.well, r.g.dr r.n1 r.W d, r.w.dr r.n2 r.W d, r.n.dr r.W r.n3 r.n4 r.n5 d, r.n1, r.n2, r.n3, r.n4, r.n5⟩
theorem RS.same {K : PySem.W.Frag} {C wl lg lw p ng nw : Addr} {H H' : Hp} {gs : List Gt} {ws : List Wr} (r : RS K C wl H lg lw p ng nw gs ws) (s : Same H H') : RS K C wl H' lg lw p ng nw gs ws := r.dr ⟨But.same s, r.W.same s⟩
theorem LG.mut {K : PySem.W.Frag} {l a : Addr} {H : Hp} {gs : List Gt} {xs : List V} {o : HO} (h : LG K H l gs) (e : H a = some (.lst xs)) (n : l ≠ a) : LG K (upd H a o) l gs := by
  obtain ⟨vs, q, al⟩ := h
  exact ⟨vs, by rw [upd_ne n]; exact q, al.imp fun _ _ r => r.tk (TK.lst e)⟩
theorem LW.mut {K : PySem.W.Frag} {l a : Addr} {H : Hp} {ws : List Wr} {xs : List V} {o : HO} (h : LW K H l ws) (e : H a = some (.lst xs)) (n : l ≠ a) : LW K (upd H a o) l ws := by
  obtain ⟨vs, q, al⟩ := h
  exact ⟨vs, by rw [upd_ne n]; exact q, al.imp fun _ _ r => r.tk (TK.lst e)⟩
theorem NetAt.mut {K : PySem.W.Frag} {C p ng nw a : Addr} {H : Hp} {gs : List Gt} {ws : List Wr} {xs : List V} {o : HO} (n : NetAt K C H p ng nw gs ws) (e : H a = some (.lst xs)) (h1 : ng ≠ a) (h2 : nw ≠ a) : NetAt K C (upd H a o) p ng nw gs ws := by
  obtain ⟨dx, h⟩ := n.ob
  exact ⟨⟨dx, by rw [upd_ne (ne_of h e (by intro z; cases z))]; exact h⟩, n.g.mut e h1, n.w.mut e h2, n.ne⟩
theorem RS.mut {K : PySem.W.Frag} {C wl lg lw p ng nw a : Addr} {H : Hp} {gs : List Gt} {ws : List Wr} {xs : List V} {o : HO} (r : RS K C wl H lg lw p ng nw gs ws) (e : H a = some (.lst xs)) (h0 : a ≠ wl) (h1 : lg ≠ a) (h2 : lw ≠ a) (h3 : ng ≠ a) (h4 : nw ≠ a) : RS K C wl (upd H a o) lg lw p ng nw gs ws := by
  obtain ⟨x, y, z, hw⟩ := r.W
  exact ⟨⟨x, y, z, by rw [upd_ne h0.symm]; exact hw⟩, r.g.mut e h1, r.w.mut e h2, r.n.mut e h3 h4, r.n1, r.n2, r.n3, r.n4, r.n5⟩
theorem All2.imp' {α β : Type} {R S : α → β → Prop} {xs : List α} {ys : List β} (h : All2 R xs ys) (f : ∀ x y, x ∈ xs → R x y → S x y) : All2 S xs ys := ⟨h.1, fun i x y a b => f x y (List.mem_of_getElem? a) (h.2 i x y a b)⟩
/-! ### lists of lists of whole numbers -/
def RowV (K : PySem.W.Frag) (H : Hp) (v : V) (rs : List Int) : Prop := ∃ a, v = .ref a ∧ SqL K H a (rs.map V.int)
def RR (K : PySem.W.Frag) (H : Hp) (l : Addr) (rss : List (List Int)) : Prop := ∃ vs, SqL K H l vs ∧ All2 (RowV K H) vs rss
theorem RowV.same {K : PySem.W.Frag} {H H' : Hp} {v : V} {rs : List Int} (h : RowV K H v rs) (s : Same H H') : RowV K H' v rs := by
  obtain ⟨a, e, q⟩ := h
  exact ⟨a, e, s.seq q⟩
theorem RR.same {K : PySem.W.Frag} {H H' : Hp} {l : Addr} {rss : List (List Int)} (h : RR K H l rss) (s : Same H H') : RR K H' l rss := by
  obtain ⟨vs, q, a⟩ := h
  exact ⟨vs, s.seq q, a.imp fun _ _ r => r.same s⟩
/-- lists that were laid since H0, in a list that was -/
structure LL (H0 H : Hp) (l : Addr) (xss : List (List Int)) (as : List Addr) : Prop where
  at_ : H l = some (.lst (as.map V.ref))
  al : All2 (fun a xs => H a = some (.lst (xs.map V.int))) as xss
  new : ∀ a ∈ as, H0 a = none
  nd : as.Nodup
  nl : l ∉ as
  ln : H0 l = none
theorem LL.same {H0 H H' : Hp} {l : Addr} {xss : List (List Int)} {as : List Addr} (h : LL H0 H l xss as) (s : Same H H') : LL H0 H' l xss as :=
  ⟨s _ _ h.at_, h.al.imp fun _ _ r => s _ _ r, h.new, h.nd, h.nl, h.ln⟩
theorem LL.rr {K : PySem.W.Frag} {H0 H : Hp} {l : Addr} {xss : List (List Int)} {as : List Addr} (h : LL H0 H l xss as) : RR K H l xss := by
  refine ⟨_, SqL.of h.at_, by rw [List.length_map]; exact h.al.1, fun i v xs hv hx => ?_⟩
  rw [List.getElem?_map] at hv
  cases e : as[i]? with
  | none =>
    rw [e] at hv
    cases hv
  | some a =>
    rw [e] at hv
    cases hv
    exact ⟨a, rfl, SqL.of (h.al.2 i a xs e hx)⟩
def spRun (K : PySem.W.Frag) (C : Addr) : Sp := fun vs H Q _ => ∃ (p ng nw lr : Addr) (gs : List Gt) (ws : List Wr) (rss : List (List Int)), vs = [.ref p, .ref lr] ∧ NetAt K C H p ng nw gs ws ∧ NetOk gs ws ∧ RR K H lr rss ∧ (∀ rs ∈ rss, RowOk gs rs) ∧ rss.length ≤ 1000 ∧
  ∀ t p' ng' nw' lo H' tss we as, Same H H' → Run gs ws rss tss we → NetAt K C H' p' ng' nw' gs we → LL H H' lo (tss.map (outsOf gs)) as → H' t = some (.tup [.ref p', .ref lo]) → H p' = none → H ng' = none → H nw' = none → Q (.ref t) H'
section
variable {P : Program} {w : World} {K : PySem.W.Frag} {mg : Str → Option Value} {base : Heap}
abbrev nRun : List Str := ["net", "rows", "now", "told", "row", "outs"]
theorem scRun : FnScope nRun ["net", "rows"] (defScope sRun) := ⟨rfl, rfl, rfl, by decide +kernel, rfl, by decide +kernel, by decide +kernel⟩
abbrev DRun (P : Program) (w : World) (K : PySem.W.Frag) (mg : Str → Option Value) (base : Heap) (C : Addr) := Df P w K mg base 10 "run" ["net", "rows"] (spRun K C)
theorem ok_run {f fB fI C : Addr} {fd fdB fdI : FuncData} (F : Fun K "run" "run" sRun f fd) (hm : mg "run" = some (.ref f)) (B : Bt mg) (T : NT K mg C) (DB : DBeat P w K mg base C fB fdB) (MK : Mk K C fI) (init : FnOk P w K mg base CX0 6 fI fdI ["self", "gates", "wires"] (spInit K C)) (bI : Binds K fdI ["self", "gates", "wires"] []) : DRun P w K mg base C f fd := by
  refine ⟨?_, hm, F.kp, F.binds fun _ _ _ _ _ _ us hl => match us, hl with | [_, _], _ => rfl⟩
  refine F.ok scRun (fun vs H Q E h => ?_) (fun cdv A outer s H vs Q E hr h => ?_)
  · obtain ⟨p, ng, nw, lr, gs, ws, rss, rfl, _⟩ := h
    rfl
  · obtain ⟨p, ng, nw, lr, gs, ws, rss, rfl, NA, N, ⟨rv, sr, ra⟩, hro, hrl, q⟩ := h
    have nd := scRun.nd
    have hr7 : Room 7 _ := hr.mono (by decide)
    refine ⟨_, pss_cons (ps_if (pt_not (pt_val (pe_callB call_isi (by rfl) B.isi (by decide +kernel) (pa_cons (pv 1) (pa_cons (pe_bltn (v := .ty "list") (by rfl) B.list (by decide +kernel) rfl) pa_nil))))) (pss_one ps_never) pss_nil) <|
      pss_cons (ps_set (i := 2) nd rfl (.inl rfl) (pe_make MK init hr7 (by rfl) T.mg bI .nil pass0 (pa_cons (pe_fld (pv 0) rfl) (pa_cons (pe_fld (pv 0) rfl) pa_nil)))) <|
      pss_cons (ps_set (i := 3) nd rfl (.inl rfl) (pe_lst pa_nil)) <|
      pss_cons (ps_for PassesOwn.never rfl (pi_list (pv 1)) (pg_name (i := 4) nd rfl (.inl rfl)) <|
        pss_cons (ps_asg (pe_call DB.ok hr (by rfl) DB.mg DB.kp DB.bd .nil pass0 (pa_cons (pv 2) (pa_cons (pv 4) pa_nil))) (pg_tup (by rfl) (pgs_cons (pg_name (i := 2) nd rfl (.inl rfl)) (pgs_cons (pg_name (i := 5) nd rfl (.inl rfl)) pgs_nil)))) <|
        pss_one <| ps_expr (pe_bm PySem.F.plainAttrs_list PySem.F.slot_list_append PySem.F.type_list_append mt_append (pv 3) (pa_cons (pv 5) pa_nil))) <|
      pss_one <| ps_ret <| pe_tup <| pa_cons (pv 2) <| pa_cons (pv 3) pa_nil, ?_⟩
    obtain ⟨dx, ob⟩ := NA.ob
    have hlr : rv.length = rss.length := ra.1
    refine ⟨_, rfl, _, _, _, _, true, rfl, .ty "list", ty_lst sr, kit_ty (by decide +kernel), true, rfl, iteF ?_⟩
    refine ⟨_, rfl, p, C, dx, _, _, rfl, ob, T.cl, T.nG, nf_gates _ _, _, rfl, p, C, dx, _, _, rfl, ob, T.cl, T.nW, nf_wires _ _, ?_⟩
    refine net_in NA.g.rg NA.w.rw N fun p1 ng1 nw1 H1 NA1 s1 hp1 hng1 hnw1 => ?_
    refine ⟨Nat.zero_le _, fun D hD => ?_⟩
    have hD0 : H D = none := s1.free hD
    have s2 := s1.trans (same_new (o := .lst []) hD)
    have NA2 := NA1.same (same_new (o := .lst []) hD)
    obtain ⟨g1, hg1, _⟩ := id NA1.g
    obtain ⟨w1, hw1, _⟩ := id NA1.w
    refine ⟨_, rfl, lr, rfl, ⟨_, s2.seq sr⟩, for_list (K := K) (a := lr) (xs := rv) (fun i σ H' => ∃ (s4 s5 : Option V) (pn gn wn : Addr) (wm : List Wr) (tss : List (List Int)) (as : List Addr), σ = [some (.ref p), some (.ref lr), some (.ref pn), some (.ref D), s4, s5] ∧
        NetAt K C H' pn gn wn gs wm ∧ Run gs ws (rss.take i) tss wm ∧ Same H H' ∧ LL H H' D (tss.map (outsOf gs)) as ∧ as.length = i ∧ H pn = none ∧ H gn = none ∧ H wn = none ∧ gn ≠ D ∧ wn ≠ D)
      ⟨_, _, p1, ng1, nw1, ws, [], [], rfl, NA2, ⟨rfl, rfl⟩, s2, ⟨upd_same, All2.nil, by simp, List.nodup_nil, by simp, hD0⟩, rfl, hp1, hng1, hnw1, ne_of_none hg1 hD, ne_of_none hw1 hD⟩ (fun i σ H' _ ⟨_, _, _, _, _, _, _, _, _, _, _, sm, _⟩ => sm.seq sr) ?_ ?_⟩
    · rintro i v σ H' hv ⟨s4, s5, pn, gn, wn, wm, tss, as, rfl, NAn, hrun, sm, ll, hal, hpn, hgn, hwn, ngD, nwD⟩
      obtain ⟨rs, hrs, a, rfl, sq⟩ := ra.get hv
      have hi : i < rss.length := (List.getElem?_eq_some_iff.mp hrs).1
      have hro' := hro rs (List.mem_of_getElem? hrs)
      have Nm := hrun.ok N
      refine ⟨_, rfl, _, rfl, pn, gn, wn, a, gs, wm, rs, rfl, NAn, Nm, sm.seq sq, hro'.1, hro'.2, fun t p' ng' nw' lo H2 ts s3 iw wt NA' elo et hp' hng' hnw' hlo => ?_⟩
      refine ⟨t, _, rfl, .inl (.inl et), rfl, _, _, rfl, _, _, rfl, rfl, ?_⟩
      have llD := s3 _ _ ll.at_
      have nloD : lo ≠ D := fun z => by
        rw [z, ll.at_] at hlo
        cases hlo
      have ng'D : ng' ≠ D := fun z => by
        rw [z, ll.at_] at hng'
        cases hng'
      have nw'D : nw' ≠ D := fun z => by
        rw [z, ll.at_] at hnw'
        cases hnw'
      refine ⟨_, rfl, .inl ⟨rfl, _, SqL.of llD⟩, _, rfl, D, _, _, rfl, rfl, llD, by rw [List.length_map]; exact small1000 (by omega), ?_⟩
      refine ⟨_, _, p', ng', nw', wm.map (bh ts), tss ++ [ts], as ++ [lo], rfl, NA'.mut llD ng'D nw'D, ?_, same_mut (sm.trans s3) hD0, ⟨?_, ?_, ?_, ?_, ?_, hD0⟩, by simp [hal], sm.free hp', sm.free hng', sm.free hnw', ng'D, nw'D⟩
      · rw [List.take_add_one, hrs]
        exact hrun.snoc iw wt
      · rw [upd_same, List.map_append]
        rfl
      · rw [List.map_append]
        refine All2.snoc (ll.al.imp' fun a xs ha r => ?_) ?_
        · rw [upd_ne (show a ≠ D from fun z => ll.nl (by rw [← z]; exact ha))]
          exact s3 _ _ r
        · rw [upd_ne nloD, elo]
          unfold outsOf
          rw [List.map_map]
          rfl
      · intro b hb
        rcases List.mem_append.mp hb with hb | hb
        · exact ll.new b hb
        · simp at hb
          rw [hb]
          exact sm.free hlo
      · rw [List.nodup_append]
        refine ⟨ll.nd, by simp, fun x hx y hy => ?_⟩
        simp at hy
        subst hy
        intro z
        subst z
        obtain ⟨k, hk⟩ := List.getElem?_of_mem hx
        obtain ⟨xs, _, r⟩ := ll.al.get hk
        rw [r] at hlo
        cases hlo
      · intro z
        rcases List.mem_append.mp z with z | z
        · exact ll.nl z
        · simp at z
          exact nloD z.symm
    · rintro σ H' ⟨s4, s5, pn, gn, wn, wm, tss, as, rfl, NAn, hrun, sm, ll, hal, hpn, hgn, hwn, ngD, nwD⟩
      rw [hlr, List.take_length] at hrun
      refine ⟨_, rfl, _, rfl, (by show 2 ≤ sizeLine; decide), fun t ht => ?_⟩
      have st : Same H' (upd H' t (.tup [.ref pn, .ref D])) := same_new ht
      exact q t pn gn wn D _ tss wm as (sm.trans st) hrun (NAn.same st) (ll.same st) upd_same hpn hgn hwn
end
end Lag

set_option maxRecDepth 100000
set_option maxHeartbeats 8000000
namespace Lag
open PySem PySem.Spec PyProof.Rows L2
abbrev sRows : Stmt := topS 54
theorem LL.push {H0 H H2 : Hp} {l R : Addr} {xss : List (List Int)} {xs : List Int} {as : List Addr} (h : LL H0 H l xss as) (k : ∀ a o, a = l ∨ a ∈ as → H a = some o → H2 a = some o) (hR : H R = none) (hR0 : H0 R = none) (eR : H2 R = some (.lst (xs.map V.int))) :
    LL H0 (upd H2 l (.lst (as.map V.ref ++ [.ref R]))) l (xss ++ [xs]) (as ++ [R]) := by
  have nRl : R ≠ l := fun z => by
    rw [z, h.at_] at hR
    cases hR
  refine ⟨by rw [upd_same, List.map_append]; rfl, ?_, ?_, ?_, ?_, h.ln⟩
  · refine All2.snoc (h.al.imp' fun a xs ha r => ?_) ?_
    · rw [upd_ne (show a ≠ l from fun z => h.nl (by rw [← z]; exact ha))]
      exact k a _ (.inr ha) r
    · rw [upd_ne nRl]
      exact eR
  · intro b hb
    rcases List.mem_append.mp hb with hb | hb
    · exact h.new b hb
    · simp at hb
      rw [hb]
      exact hR0
  · rw [List.nodup_append]
    refine ⟨h.nd, by simp, fun x hx y hy => ?_⟩
    simp at hy
    subst hy
    intro z
    subst z
    obtain ⟨j, hj⟩ := List.getElem?_of_mem hx
    obtain ⟨xs, _, r⟩ := h.al.get hj
    rw [r] at hR
    cases hR
  · intro z
    rcases List.mem_append.mp z with z | z
    · exact h.nl z
    · simp at z
      exact nRl z.symm
theorem LL.dr {H0 H H' : Hp} {wl l : Addr} {xss : List (List Int)} {as : List Addr} (h : LL H0 H l xss as) (W0 : WellAt wl H0) (d : Dr wl H H') : LL H0 H' l xss as :=
  ⟨d.but _ _ (W0.ne h.ln).symm h.at_, h.al.imp' fun a _ ha r => d.but _ _ (W0.ne (h.new a ha)).symm r, h.new, h.nd, h.nl, h.ln⟩
def spRows (K : PySem.W.Frag) : Sp := fun vs H Q _ => ∃ (wl lg : Addr) (m : Nat) (gs : List Gt), vs = [.ref wl, .ref lg, .int (m : Nat)] ∧ WellAt wl H ∧ lg ≠ wl ∧ LG K H lg gs ∧ gs.length ≤ 100 ∧ m ≤ 50 ∧
  ∀ rss l H' as, Dr wl H H' → (∀ rs ∈ rss, RowOk gs rs) → rss.length ≤ m → LL H H' l rss as → Q (.ref l) H'
section
variable {P : Program} {w : World} {K : PySem.W.Frag} {mg : Str → Option Value} {base : Heap}
abbrev nRows : List Str := ["_law_well_here", "_law_gates", "_law_most", "_law_many", "_law_rows_here", "_law_k", "_law_gate_here", "_law_j"]
theorem scRows : FnScope nRows ["_law_well_here", "_law_gates", "_law_most"] (defScope sRows) := ⟨rfl, rfl, rfl, by decide +kernel, rfl, by decide +kernel, by decide +kernel⟩
abbrev DRows (P : Program) (w : World) (K : PySem.W.Frag) (mg : Str → Option Value) (base : Heap) := Df P w K mg base 3 "_law_rows" ["_law_well_here", "_law_gates", "_law_most"] (spRows K)
theorem ok_rows {f fD fO : Addr} {fd fdD fdO : FuncData} (F : Fun K "_law_rows" "_law_rows" sRows f fd) (hm : mg "_law_rows" = some (.ref f)) (B : Bt mg) (DD : DDraw P w K mg base fD fdD) (DO : DOne P w K mg base fO fdO) : DRows P w K mg base f fd := by
  refine ⟨?_, hm, F.kp, F.binds fun _ _ _ _ _ _ us hl => match us, hl with | [_, _, _], _ => rfl⟩
  refine F.ok scRows (fun vs H Q E h => ?_) (fun cdv A outer s H vs Q E hr h => ?_)
  · obtain ⟨wl, lg, m, gs, rfl, _⟩ := h
    rfl
  · obtain ⟨wl, lg, mm, gs, rfl, hw, nlg, G, hgl, hmm, q⟩ := h
    have nd := scRows.nd
    have hr1 : Room 1 _ := hr.mono (by decide)
    refine ⟨_, pss_cons (ps_set (i := 3) nd rfl (.inl rfl) (pe_callB call_len_seq (by rfl) B.len PySem.boot_len (pa_cons
        (pe_lc (own := [("_law_gate_here", 6)]) (g := gName 6) (tt := tTest (tOp rEq (tOp (rIxT K) (tVar 6) (tC (.int 0))) (tC (.str "in")))) (te := tVar 6) rfl nd (pi_list (pv 1)) (blkOk_by (N := nRows) (sc := defScope sRows) (own := [("_law_gate_here", 6)]) (by decide +kernel)) (fun _ _ _ _ _ => pg_name (i := 6) nd rfl (.inl rfl))
          (fun _ _ _ _ _ => pts_one (pt_cmpR op_eq (pe_ix ix_tup (pv 6) pe_int (fun _ _ => rfl)) pe_str (nomark _))) (fun _ _ _ _ _ => pv 6)) pa_nil))) <|
      pss_cons (ps_set (i := 4) nd rfl (.inl rfl) (pe_lst pa_nil)) <|
      pss_cons (ps_for PassesOwn.never rfl (pi_range1 (by rfl) B.range (pa_cons (pe_call DD.ok hr1 (by rfl) DD.mg DD.kp DD.bd .nil pass0 (pa_cons (pv 0) (pa_cons (pe_op op_add (pv 2) pe_int) pa_nil))) pa_nil)) (pg_name (i := 5) nd rfl (.inl rfl)) <|
        pss_one <| ps_expr <| pe_bm PySem.F.plainAttrs_list PySem.F.slot_list_append PySem.F.type_list_append mt_append (pv 4) <| (pa_cons · pa_nil) <|
          pe_lc (own := [("_law_j", 7)]) (g := gName 7) (tt := tYes) (te := tCall (spOne K) [] E0 (tCons (tVar 0) (tCons (tLst (tCons (tCall spDraw [] E0 (tCons (tVar 0) (tCons (tC (.int 97)) tNil))) (tCons (tCall spDraw [] E0 (tCons (tVar 0) (tCons (tC (.int 2)) tNil))) (tCons (tC (.int 96)) tNil)))) tNil))) rfl nd
            (pi_range1 (by rfl) B.range (pa_cons (pv 3) pa_nil)) (blkOk_by (N := nRows) (sc := defScope sRows) (own := [("_law_j", 7)]) (by decide +kernel)) (fun _ _ _ _ _ => pg_name (i := 7) nd rfl (Or.inl rfl)) (fun _ _ _ _ _ => pts_nil)
            (fun _ _ _ _ _ => pe_call DO.ok hr (by rfl) DO.mg DO.kp DO.bd .nil pass0 (pa_cons (pv 0) (pa_cons (pe_lst
              (pa_cons (pe_call DD.ok hr1 (by rfl) DD.mg DD.kp DD.bd .nil pass0 (pa_cons (pv 0) (pa_cons pe_int pa_nil))) (pa_cons (pe_call DD.ok hr1 (by rfl) DD.mg DD.kp DD.bd .nil pass0 (pa_cons (pv 0) (pa_cons pe_int pa_nil))) (pa_cons pe_int pa_nil)))) pa_nil)))) <|
      pss_one <| ps_ret (pv 4), ?_⟩
    obtain ⟨gv, hgv, ga⟩ := id G
    have hlgv : gv.length = gs.length := ga.1
    refine ⟨_, rfl, lg, rfl, ⟨_, SqL.of hgv⟩, fun M hM => ?_⟩
    refine lc_list (K := K) (a := lg) (xs := gv) (fun i Hc => ∃ acc, Hc M = some (.lst acc) ∧ acc.length = (plc gs "in" i).length ∧ Same H Hc) ⟨[], upd_same, rfl, same_new hM⟩ (fun i Hc _ ⟨_, _, _, smc⟩ => SqL.of (smc _ _ hgv)) ?_ ?_
    · rintro i v Hc hv ⟨acc, hacc, hal, smc⟩
      obtain ⟨gt, hgt, gA, rfl, sq⟩ := ga.get hv
      have hi : i < gs.length := (List.getElem?_eq_some_iff.mp hgt).1
      have hkk : kindAt gs i = gt.1 := kindAt_get hgt
      have hpl := plc_len gs "in" i
      refine ⟨rfl, ?_⟩
      refine ⟨_, rfl, gA, _, 0, _, rfl, rfl, (TK.same smc).seq sq, atI_nat (j := 0) rfl, rfl, _, rfl, ite2 (fun e => ?_) (fun e => ?_)⟩
      · have hk : kindAt gs i = "in" := by
          rw [hkk]
          exact V.str.inj (of_decide_eq_true e)
        refine ⟨_, rfl, acc, hacc, small1000 (by omega), acc ++ [.ref gA], upd_same, ?_, same_mut smc hM⟩
        rw [plc_succ, if_pos hk, List.length_append, List.length_append, hal]
        rfl
      · have hk : ¬ kindAt gs i = "in" := fun z => e (decide_eq_true (by rw [← hkk, z]))
        exact ⟨acc, hacc, by rw [plc_succ, if_neg hk]; exact hal, smc⟩
    rintro H3 ⟨macc, hmacc, hml, sm3⟩
    rw [hlgv] at hml
    have D3 : Dr wl H H3 := ⟨But.same sm3, hw.same sm3⟩
    have hpl := plc_len gs "in" gs.length
    refine ⟨M, _, rfl, .inl (SqL.of hmacc), ?_⟩
    rw [hml]
    generalize hme : (plc gs "in" gs.length).length = m at hpl
    refine ⟨Nat.zero_le _, fun L hL => ?_⟩
    have hL0 : H L = none := sm3.free hL
    have nLw : L ≠ wl := (hw.ne hL0).symm
    have D4 := D3.trans (Dr.new (o := .lst []) D3.well hL)
    refine ⟨_, rfl, _, rfl, _, _, rfl, rfl, wl, _, rfl, by omega, by omega, D4.well, fun d H5 d0 d1 E5 => ?_⟩
    have D5 := D4.trans E5
    refine ⟨_, rfl, by omega, by omega, for_range (lo := 0) (n := d.toNat) (fun i σ H' => ∃ (s5 : Option V) (rss : List (List Int)) (as : List Addr), σ = [some (.ref wl), some (.ref lg), some (.int (mm : Nat)), some (.int (m : Nat)), some (.ref L), s5, none, none] ∧ LL H H' L rss as ∧ as.length = i ∧ rss.length = i ∧ (∀ rs ∈ rss, RowOk gs rs) ∧ Dr wl H H')
      ⟨_, [], [], rfl, ⟨E5.but _ _ nLw upd_same, All2.nil, by simp, List.nodup_nil, by simp, hL0⟩, rfl, rfl, by simp, D5⟩ ?_ ?_⟩
    · rintro i σ H' hi ⟨s5, rss, as, rfl, ll, hal, hrl, hok, D6⟩
      refine ⟨_, rfl, .inl ⟨rfl, _, SqL.of ll.at_⟩, _, rfl, _, rfl, by omega, by omega, fun R hR => ?_⟩
      have nRw : R ≠ wl := (D6.well.ne hR).symm
      have hR0 : H R = none := D6.free hw hR
      refine lc_range (lo := 0) (n := ((m : Int)).toNat) (fun j Hc => ∃ rs : List Int, rs.length = j ∧ WOk1 rs ∧ Hc R = some (.lst (rs.map V.int)) ∧ Dr wl H' Hc) ⟨[], rfl, by simp [WOk1], upd_same, Dr.new D6.well hR⟩ ?_ ?_
      · rintro j H7 hj ⟨rs, hrl, hrk, hrD, D7⟩
        refine ⟨rfl, tyes ?_⟩
        refine ⟨_, rfl, _, rfl, wl, 97, rfl, by decide, by decide, D7.well, fun d1 H8 a1 b1 E8 => ?_⟩
        have D8 := D7.trans E8
        refine ⟨_, rfl, wl, 2, rfl, by decide, by decide, D8.well, fun d2 H9 a2 b2 E9 => ?_⟩
        have D9 := D8.trans E9
        refine ⟨(by show 3 ≤ sizeLine; decide), fun l2 hl2 => ?_⟩
        refine ⟨wl, l2, [.int d1, .int d2, .int 96], rfl, (D9.well.ne hl2).symm, D9.well.new hl2, SqL.of upd_same, by simp, by show 3 < 1000000; decide, fun v H10 hv E10 => ?_⟩
        have D10 := (D9.trans (Dr.new D9.well hl2)).trans E10
        obtain ⟨x, rfl, x0, x1⟩ := menu3 hv a1 b1 a2 (by omega)
        have h10 : H10 R = some (.lst (rs.map V.int)) := by
          refine E10.but _ _ nRw ?_
          have h9 := E9.but _ _ nRw (E8.but _ _ nRw hrD)
          rw [upd_ne (ne_of_none h9 hl2)]
          exact h9
        refine ⟨_, h10, by rw [List.length_map, hrl]; exact small1000 (by omega), rs ++ [x], by simp [hrl], ?_, ?_, set_well D10 hR nRw⟩
        · intro y hy
          rcases List.mem_append.mp hy with hy | hy
          · exact hrk y hy
          · simp at hy
            subst hy
            exact ⟨x0, x1⟩
        · rw [upd_same, List.map_append]
          rfl
      rintro H7 ⟨rs, hrsl, hrk, hrD, D7⟩
      have ll7 := ll.dr hw D7
      refine ⟨L, _, _, rfl, rfl, ll7.at_, by rw [List.length_map]; exact small1000 (by omega), ?_⟩
      refine ⟨_, rss ++ [rs], as ++ [R], rfl, ll.push (fun a o ha e => ?_) hR hR0 hrD, by simp [hal], by simp [hrl], fun r hr => ?_, set_well (D6.trans D7) hL0 nLw⟩
      · rcases ha with rfl | ha
        · exact D7.but _ _ nLw e
        · exact D7.but _ _ (hw.ne (ll.new a ha)).symm e
      · rcases List.mem_append.mp hr with hr | hr
        · exact hok r hr
        · simp at hr
          subst hr
          exact ⟨by rw [hme]; omega, hrk⟩
    · rintro σ H' ⟨s5, rss, as, rfl, ll, hal, hrl, hok, D6⟩
      exact ⟨_, rfl, q rss L H' as D6 hok (by omega) ll⟩
end
end Lag

set_option maxRecDepth 100000
set_option maxHeartbeats 8000000
namespace Lag
open PySem PySem.Spec PyProof.Rows L2
/-! ### a wire's row of worths -/
def colOf (tss : List (List Int)) (g : Nat) : List Int := tss.map fun ts => ts.getD g 0
def rowOf (x : Wr) (tss : List (List Int)) : List Int := x.2.2 ++ colOf tss x.1
theorem rowOf_cons (x : Wr) (t : List Int) (tl : List (List Int)) : rowOf x (t :: tl) = wv t x :: rowOf (bh t x) tl := by
  obtain ⟨a, b, r⟩ := x
  cases r with
  | nil => rfl
  | cons r l =>
    show (r :: l) ++ (t.getD a 0 :: colOf tl a) = r :: ((l ++ [t.getD a 0]) ++ colOf tl a)
    rw [List.append_assoc]
    rfl
theorem Run.wire {gs : List Gt} : ∀ {rss : List (List Int)} {ws we : List Wr} {tss : List (List Int)}, Run gs ws rss tss we → we = ws.map fun x => (x.1, x.2.1, (rowOf x tss).drop tss.length)
  | [], ws, we, tss, h => by
    obtain ⟨h1, h2⟩ := h
    subst h1 h2
    refine (List.map_id'' (fun x => ?_) we).symm
    obtain ⟨a, b, r⟩ := x
    show (a, b, (r ++ []).drop 0) = (a, b, r)
    rw [List.append_nil, List.drop_zero]
  | r :: rss, ws, we, tss, h => by
    obtain ⟨t, tl, h1, _, _, h4⟩ := h
    subst h1
    rw [Run.wire h4, List.map_map]
    refine List.map_congr_left fun x _ => ?_
    obtain ⟨e1, e2, _⟩ := bh_ends t x
    show ((bh t x).1, (bh t x).2.1, (rowOf (bh t x) tl).drop tl.length) = (x.1, x.2.1, (rowOf x (t :: tl)).drop (tl.length + 1))
    rw [e1, e2, rowOf_cons, List.drop_succ_cons]
theorem one_in {gs : List Gt} {ws : List Wr} (N : NetOk gs ws) {x : Wr} (hx : x ∈ ws) (hk : kindAt gs x.2.1 = "out") (ts : List Int) : cmg ws ts x.2.1 = [wv ts x] := by
  have h1 := N.one x.2.1 (N.wok x hx).e hk
  unfold cnt at h1
  rw [List.countP_eq_length_filter] at h1
  have hm : x ∈ ws.filter fun y => y.2.1 == x.2.1 := List.mem_filter.mpr ⟨hx, by simp⟩
  unfold cmg
  obtain ⟨y, hy⟩ := List.length_eq_one_iff.mp h1
  rw [hy] at hm ⊢
  simp at hm
  rw [hm]
  rfl
theorem Run.out {gs : List Gt} : ∀ {rss : List (List Int)} {ws we : List Wr} {tss : List (List Int)} {x : Wr}, NetOk gs ws → Run gs ws rss tss we → x ∈ ws → kindAt gs x.2.1 = "out" → colOf tss x.2.1 = (rowOf x tss).take tss.length
  | [], ws, we, tss, x, N, h, _, _ => by
    rw [h.1]
    rfl
  | r :: rss, ws, we, tss, x, N, h, hx, hk => by
    obtain ⟨t, tl, h1, h2, h3, h4⟩ := h
    subst h1
    obtain ⟨e1, e2, _⟩ := bh_ends t x
    have ih := Run.out (x := bh t x) (N.behind h3) h4 (List.mem_map_of_mem hx) (by rw [e2]; exact hk)
    rw [e2] at ih
    rw [rowOf_cons]
    show t.getD x.2.1 0 :: colOf tl x.2.1 = (wv t x :: rowOf (bh t x) tl).take (tl.length + 1)
    rw [List.take_succ_cons, ← ih, h2.eq x.2.1 (N.wok x hx).e (by rw [hk]; decide +kernel), hk, one_in N hx hk, kv_out]
    rfl
theorem Run.row_len {x : Wr} {tss : List (List Int)} : (rowOf x tss).length = x.2.2.length + tss.length := by
  unfold rowOf colOf
  rw [List.length_append, List.length_map]
/-- alike as far as the rows are -/
theorem Run.same {gs : List Gt} {r1 r2 r2' : List (List Int)} {ws we we' : List Wr} {tss tss' : List (List Int)} (N : NetOk gs ws) (hr : ∀ rs ∈ r1, RowOk gs rs) (h : Run gs ws (r1 ++ r2) tss we) (h' : Run gs ws (r1 ++ r2') tss' we') : tss.take r1.length = tss'.take r1.length := by
  obtain ⟨t1, t2, wm, e, a, _⟩ := h.cut
  obtain ⟨t1', t2', wm', e', a', _⟩ := h'.cut
  obtain ⟨z, _⟩ := a.unique N hr a'
  rw [e, e', ← z, ← a.len, List.take_left, List.take_left]
end Lag

set_option maxRecDepth 100000
set_option maxHeartbeats 8000000
namespace Lag
open PySem PySem.Spec PyProof.Rows L2
/-- whole numbers, as data -/
def numsD (l : List Int) : PyData := .list (l.map PyData.int)
theorem numsD_eq (a b : List Int) : PyData.eqv (numsD a) (numsD b) = decide (a = b) := eqvAll_map (fun x y => intD_eq x y) a b
theorem sh_nums (l : List Int) : Sh 1 (numsD l) := by
  refine sh_list fun d hd => ?_
  obtain ⟨i, _, rfl⟩ := List.mem_map.mp hd
  exact sh_int _
theorem dp_nums {K : PySem.W.Frag} {H : Hp} {l : Addr} {xs : List Int} (h : SqL K H l (xs.map V.int)) : Dp K H (.ref l) (numsD xs) := .lst h (ints_dp xs)
def tupD (l : List Int) : PyData := .tuple (l.map PyData.int)
theorem tupD_eq (a b : List Int) : PyData.eqv (tupD a) (tupD b) = decide (a = b) := eqvAll_map (fun x y => intD_eq x y) a b
theorem sh_tup (l : List Int) : Sh 1 (tupD l) := by
  refine sh_tuple fun d hd => ?_
  obtain ⟨i, _, rfl⟩ := List.mem_map.mp hd
  exact sh_int _
theorem dp_tup {K : PySem.W.Frag} {H : Hp} {l : Addr} {xs : List Int} (h : SqT K H l (xs.map V.int)) : Dp K H (.ref l) (tupD xs) := .tup h (ints_dp xs)
def rowsD (l : List (List Int)) : PyData := .list (l.map numsD)
theorem rowsD_eq (a b : List (List Int)) : PyData.eqv (rowsD a) (rowsD b) = decide (a = b) := eqvAll_map numsD_eq a b
theorem sh_rows (l : List (List Int)) : Sh 2 (rowsD l) := by
  refine sh_list fun d hd => ?_
  obtain ⟨i, _, rfl⟩ := List.mem_map.mp hd
  exact sh_nums i
theorem RowV.dp {K : PySem.W.Frag} {H : Hp} {v : V} {rs : List Int} (h : RowV K H v rs) : Dp K H v (numsD rs) := by
  obtain ⟨a, rfl, q⟩ := h
  exact dp_nums q
theorem RR.dp {K : PySem.W.Frag} {H : Hp} {l : Addr} {xss : List (List Int)} (h : RR K H l xss) : Dp K H (.ref l) (rowsD xss) := by
  obtain ⟨vs, q, a⟩ := h
  exact .lst q (dp_all (fun _ _ r => r.dp) a)
theorem slA {K : PySem.W.Frag} {H : Hp} {a : Addr} {xs : List V} {lo hi : Option Int} {Q : VK} (sq : SqT K H a xs) (q : ∀ b H', Same H H' → SqT K H' b (cutV xs lo hi) → Q (.ref b) H') : rSlA K (.ref a) lo hi H Q := by
  refine ⟨a, xs, rfl, sq, fun z => q a H (Same.refl _) ?_, fun _ p hp => q p _ (same_new hp) (.inl (.inl upd_same))⟩
  unfold cutV
  rw [z.1, z.2, List.drop_zero, Nat.sub_zero, List.take_length]
  exact sq
theorem slN {K : PySem.W.Frag} {σ : L2.St} {H : Hp} {a : Addr} {xs : List V} {lo : Option Int} {Q : VK} (sq : SqT K H a xs) (q : ∀ b H', Same H H' → SqT K H' b (cutV xs lo none) → Q (.ref b) H') : tNoPart σ H (fun u H3 => rSlA K (.ref a) lo u H3 Q) := slA sq q
theorem LL.rv {K : PySem.W.Frag} {H0 H : Hp} {l : Addr} {xss : List (List Int)} {as : List Addr} (h : LL H0 H l xss as) : All2 (RowV K H) (as.map V.ref) xss := by
  refine ⟨by rw [List.length_map]; exact h.al.1, fun i v xs hv hx => ?_⟩
  rw [List.getElem?_map] at hv
  cases e : as[i]? with
  | none =>
    rw [e] at hv
    cases hv
  | some a =>
    rw [e] at hv
    cases hv
    exact ⟨a, rfl, SqL.of (h.al.2 i a xs e hx)⟩
theorem catA {K : PySem.W.Frag} {H : Hp} {a b : Addr} {xs ys : List V} {Q : VK} (sa : SqT K H a xs) (sb : SqT K H b ys) (hl : xs.length + ys.length ≤ sizeLine) (q : ∀ c H', Same H H' → SqT K H' c (xs ++ ys) → Q (.ref c) H') : rCatA K (.ref a) (.ref b) H Q := by
  refine ⟨a, b, xs, ys, rfl, rfl, sa, sb, hl, fun z => q b H (Same.refl _) ?_, fun _ z => q a H (Same.refl _) ?_, fun _ _ p hp => q p _ (same_new hp) (.inl (.inl upd_same))⟩
  · rw [z]
    exact sb
  · rw [z, List.append_nil]
    exact sa
theorem Run.lens {gs : List Gt} : ∀ {rss : List (List Int)} {ws we : List Wr} {tss : List (List Int)}, Run gs ws rss tss we → ∀ ts ∈ tss, ts.length = gs.length
  | [], _, _, _, h, ts, hts => by
    rw [h.1] at hts
    cases hts
  | r :: rss, _, _, _, h, ts, hts => by
    obtain ⟨t, tl, h1, h2, _, h4⟩ := h
    rw [h1] at hts
    rcases List.mem_cons.mp hts with e | hts
    · rw [e]
      exact h2.len
    · exact Run.lens h4 ts hts
theorem getD_at {ts : List Int} {g : Nat} (h : g < ts.length) : (ts.map V.int)[g]? = some (.int (ts.getD g 0)) := by
  rw [List.getElem?_map, List.getElem?_eq_getElem h, List.getD_eq_getElem?_getD, List.getElem?_eq_getElem h]
  rfl
def spRight : Sp := fun vs H Q _ => ∃ wl : Addr, vs = [.ref wl] ∧ WellAt wl H ∧ ∀ H', Dr wl H H' → Q (.bl true) H'
theorem first_self {K : PySem.W.Frag} (C : Addr) : PySem.W.notFirst K C (.ref C) = true := by simp [PySem.W.notFirst]
structure NC (P : Program) (w : World) (K : PySem.W.Frag) (mg : Str → Option Value) (base : Heap) (C fI fE fO : Addr) (fdI fdE fdO : FuncData) : Prop where
  T : NT K mg C
  Y : NTy K C
  mk0 : Mk K C fI
  init : FnOk P w K mg base CX0 6 fI fdI ["self", "gates", "wires"] (spInit K C)
  bI : Binds K fdI ["self", "gates", "wires"] []
  eq : FnOk P w K mg base CX0 1 fE fdE ["self", "other"] (spEqN K C)
  sE : PySem.W.findIn K (.ref C) "__eq__" = some (some (.ref fE))
  fnE : PySem.W.isFn K (.ref fE) = true
  bE : Binds K fdE ["self", "other"] []
  outs : FnOk P w K mg base CX0 2 fO fdO ["self"] (spPorts K C "out")
  mO : Meth K C "outs" fO
  bO : Binds K fdO ["self"] []
def spLaw (K : PySem.W.Frag) : Sp := fun vs H Q _ => ∃ (a : Addr) (ns : List Int), vs = [.ref a] ∧ SqL K H a (ns.map V.int) ∧ ns.length ≤ 63 ∧ ∀ H', Q (.bl true) H'
theorem mem_cut {xs : List V} {lo hi : Option Int} {v : V} (h : v ∈ cutV xs lo hi) : v ∈ xs := by
  unfold cutV at h
  exact List.mem_of_mem_drop (List.mem_of_mem_take h)
end Lag

set_option maxRecDepth 100000
set_option maxHeartbeats 8000000
namespace Lag
open PySem PySem.Spec PyProof.Rows L2
/-- what is made behind: the list grows by one -/
theorem All2.pushT {α : Type} {R : Hp → V → α → Prop} {H H2 : Hp} {D : Addr} {acc : List V} {l : List α} {v : V} {x : α} {o : HO} (mono : ∀ {H H' : Hp} {v : V} {x : α}, TK H H' → R H v x → R H' v x) (h : All2 (R H) acc l) (hD : H2 D = some (.lst acc)) (t : TK H H2) (r : R H2 v x) : All2 (R (upd H2 D o)) (acc ++ [v]) (l ++ [x]) :=
  (h.imp fun _ _ r => mono (t.trans (TK.lst hD)) r).snoc (mono (TK.lst hD) r)
def rTupOf (K : PySem.W.Frag) : List V → Hp → VK → Prop := fun xs H Q => ∃ p ys, xs = [.ref p] ∧ ((SqL K H p ys ∧ ∀ l, H l = none → Q (.ref l) (upd H l (.tup ys))) ∨ (SqT K H p ys ∧ Q (.ref p) H))
theorem pi_or {X : Cx} {tg l : Expr} {w1 w2 : TI} (h1 : PI X tg l w1) (h2 : PI X tg l w2) : PI X tg l (fun σ H R => w1 σ H R ∨ w2 σ H R) := ⟨fun pins s σ H R I h => h.elim (h1.run pins s σ H R I) (h2.run pins s σ H R I)⟩
theorem walk_zipT {K : PySem.W.Frag} {a b : Addr} {xs ys : List V} {n : Nat} (hn : n = min xs.length ys.length) : Walk (RZ.ItzT K a b) n (fun H => SqT K H a xs ∧ SqT K H b ys) (YPair (fun i => xs[i]?) (fun i => ys[i]?)) := by
  subst hn
  refine ⟨fun i _ hi q => ?_, fun _ q => ⟨xs, ys, q.1, q.2, by omega⟩, fun i H v H' _ q y => ?_⟩
  · have h1 : i < xs.length := by omega
    have h2 : i < ys.length := by omega
    exact ⟨xs, ys, xs[i], ys[i], q.1, q.2, by simp [h1], by simp [h2]⟩
  · obtain ⟨T, x, z, h1, h2, h3, h4, h5⟩ := y
    exact ⟨T, x, z, h1, h2, h3, h4 xs q.1, h5 ys q.2⟩
/-- the slots, written out -/
theorem st_norm {f : L2.St → Hp → Prop} {σ σ' : L2.St} {H : Hp} (e : σ = σ') (h : f σ' H) : f σ H := e ▸ h
/-- wires alike but for the worths in their registers -/
def LikeW (x y : Wr) : Prop := x.1 = y.1 ∧ x.2.1 = y.2.1 ∧ x.2.2.length = y.2.2.length
theorem cnt_like : ∀ {ws us : List Wr} (e : Nat), All2 LikeW ws us → cnt us e = cnt ws e
  | [], [], _, _ => rfl
  | [], _ :: _, _, a => by cases a.1
  | _ :: _, [], _, a => by cases a.1
  | x :: ws, y :: us, e, a => by
    have ih := cnt_like e a.tail
    unfold cnt at ih ⊢
    rw [List.countP_cons, List.countP_cons, ih, a.head.2.1]
theorem NetOk.like {gs : List Gt} {ws us : List Wr} (N : NetOk gs ws) (a : All2 LikeW ws us) (h : ∀ x ∈ us, ROk x.2.2) : NetOk gs us := by
  obtain ⟨ρ, hρ⟩ := N.rank
  have back : ∀ y ∈ us, ∃ x ∈ ws, LikeW x y := fun y hy => by
    obtain ⟨i, hi⟩ := List.getElem?_of_mem hy
    obtain ⟨x, hx, r⟩ := a.getR hi
    exact ⟨x, List.mem_of_getElem? hx, r⟩
  refine ⟨N.ne, N.gl, by rw [← a.1]; exact N.wl, N.gok, fun y hy => ?_, fun e he hk => by rw [cnt_like e a]; exact N.one e he hk, fun e he hk => by rw [cnt_like e a]; exact N.some e he hk, ρ, fun y hy h0 => ?_⟩
  · obtain ⟨x, hx, h1, h2, h3⟩ := back y hy
    have W := N.wok x hx
    exact ⟨by rw [← h1]; exact W.s, by rw [← h2]; exact W.e, by rw [← h1]; exact W.ks, by rw [← h2]; exact W.ke, h y hy, by rw [← h3]; exact W.rl⟩
  · obtain ⟨x, hx, h1, h2, h3⟩ := back y hy
    rw [← h1, ← h2]
    refine hρ x hx ?_
    rw [h0] at h3
    exact List.length_eq_zero_iff.mp h3
theorem kindAt_map {gs : List Gt} {f : Gt → Gt} {i : Nat} (h : i < gs.length) : kindAt (gs.map f) i = (f gs[i]).1 := by
  unfold kindAt
  rw [List.getD_eq_getElem?_getD, List.getElem?_map, List.getElem?_eq_getElem h]
  rfl
theorem kindAt_i {gs : List Gt} {i : Nat} (h : i < gs.length) : kindAt gs i = gs[i].1 := by
  unfold kindAt
  rw [List.getD_eq_getElem?_getD, List.getElem?_eq_getElem h]
  rfl
theorem like_bh (ts : List Int) (ws : List Wr) : All2 LikeW ws (ws.map (bh ts)) := by
  refine ⟨by rw [List.length_map], fun i x y hx hy => ?_⟩
  rw [List.getElem?_map, hx] at hy
  cases hy
  obtain ⟨h1, h2, h3⟩ := bh_ends ts x
  exact ⟨h1.symm, h2.symm, h3.symm⟩
theorem like_trans {ws us vs : List Wr} (a : All2 LikeW ws us) (b : All2 LikeW us vs) : All2 LikeW ws vs := by
  refine ⟨a.1.trans b.1, fun i x z hx hz => ?_⟩
  obtain ⟨y, hy, r⟩ := a.get hx
  have r2 := b.2 i y z hy hz
  exact ⟨r.1.trans r2.1, r.2.1.trans r2.2.1, r.2.2.trans r2.2.2⟩
theorem like_refl (ws : List Wr) : All2 LikeW ws ws := ⟨rfl, fun i x y hx hy => by
  rw [hx] at hy
  cases hy
  exact ⟨rfl, rfl, rfl⟩⟩
theorem Run.like {gs : List Gt} : ∀ {rss : List (List Int)} {ws we : List Wr} {tss : List (List Int)}, Run gs ws rss tss we → All2 LikeW ws we
  | [], ws, we, tss, h => by rw [h.2]; exact like_refl _
  | r :: rss, ws, we, tss, h => by
    obtain ⟨t, tl, _, _, _, h4⟩ := h
    exact like_trans (like_bh t ws) (Run.like h4)
/-- [_law_draw(_law_well_here, 97) for _law_worth in <a row>], in a tuple or a list -/
def drawsT (i : TI) (k : Nat) : TE := tLc i (gName k) tYes (tCall spDraw [] E0 (tCons (tVar 0) (tCons (tC (.int 97)) tNil))) [k]
theorem draws_in {J : It} {n : Nat} {G : Hp → Prop} {Y : Nat → Hp → V → Hp → Prop} (W : Walk J n G Y) (hY : ∀ i H x H', Y i H x H' → H' = H) {wl D : Addr} {k : Nat} {σ : L2.St} {H : Hp} {Q : Hp → Prop} (hk : k ≠ 0) (h0 : σ[0]? = some (some (.ref wl))) (hw : WellAt wl H) (hD : H D = none) (hn : n ≤ 1000)
    (hG : ∀ H', Dr wl H H' → G H') (q : ∀ H' rs, Dr wl H H' → rs.length = n → WOk1 rs → H' D = some (.lst (rs.map V.int)) → Q H') :
    ∃ W : Nat → Nat → Hp → Prop, (∃ m, W 0 m (upd H D (.lst []))) ∧ ∀ i m H, W i m H →
      (J.stop i H ∧ Q H) ∨ (J.go i H ∧ ∃ Nx : Hp → Prop, (∀ H', Nx H' → ∃ m', m' < m ∧ W (i + 1) m' H') ∧ ∀ x H', J.yld i H x H' → gName k x (wipe σ [k]) H' fun σ2 H2 => wipe σ2 [k] = wipe σ [k] ∧ tYes σ2 H2 fun b H3 =>
        if b = true then (tCall spDraw [] E0 (tCons (tVar 0) (tCons (tC (.int 97)) tNil))) σ2 H3 fun y H4 => ∃ acc, H4 D = some (.lst acc) ∧ acc.length < sizeLine ∧ Nx (upd H4 D (.lst (acc ++ [y]))) else Nx H3) := by
  have nDw : D ≠ wl := (hw.ne hD).symm
  have s0 : ∀ x, (((wipe σ [k]).set k x))[0]? = some (some (.ref wl)) := fun x => by
    show (((σ.set k none).set k x))[0]? = _
    rw [List.getElem?_set_ne hk, List.getElem?_set_ne hk]
    exact h0
  refine lc_it W (fun i Hc => ∃ rs : List Int, rs.length = i ∧ WOk1 rs ∧ Hc D = some (.lst (rs.map V.int)) ∧ Dr wl H Hc) ⟨[], rfl, by simp [WOk1], upd_same, Dr.new hw hD⟩ (fun i Hc _ ⟨_, _, _, _, d⟩ => hG Hc d) ?_ ?_
  · rintro i x Hc Hc' hi ⟨rs, hl, hr, hc, d⟩ y
    have := hY _ _ _ _ y
    subst this
    refine ⟨?_, tyes ?_⟩
    · show ((σ.set k none).set k _).set k none = σ.set k none
      simp
    refine ⟨_, s0 _, wl, 97, rfl, by decide, by decide, d.well, fun z H2 z0 z1 E => ?_⟩
    refine ⟨_, E.but _ _ nDw hc, by rw [List.length_map]; exact small1000 (by omega), rs ++ [z], by simp [hl], ?_, ?_, set_well (d.trans E) hD nDw⟩
    · intro y hy
      rcases List.mem_append.mp hy with hy | hy
      · exact hr y hy
      · simp at hy
        subst hy
        exact ⟨z0, by omega⟩
    · rw [upd_same, List.map_append]
      rfl
  · rintro Hc ⟨rs, hl, hr, hc, d⟩
    exact q Hc rs d hl hr hc
def TupV (K : PySem.W.Frag) (H : Hp) (v : V) (rs : List Int) : Prop := ∃ a, v = .ref a ∧ SqT K H a (rs.map V.int)
theorem TupV.tk {K : PySem.W.Frag} {H H' : Hp} {v : V} {rs : List Int} (t : TK H H') (h : TupV K H v rs) : TupV K H' v rs := by
  obtain ⟨a, e, s⟩ := h
  exact ⟨a, e, t.seq s⟩
def RTs (K : PySem.W.Frag) (H : Hp) (l : Addr) (xss : List (List Int)) : Prop := ∃ vs, SqL K H l vs ∧ All2 (TupV K H) vs xss
end Lag

set_option maxRecDepth 100000
set_option maxHeartbeats 8000000
namespace Lag
open PySem PySem.Spec PyProof.Rows L2
/-! ### gates numbered anew: the gate k is the old gate at left's place k -/
def anG (left : List Nat) (gs : List Gt) : List Gt := left.map fun k => gs.getD k ("", 0)
def anW (left : List Nat) (x : Wr) : Wr := (left.idxOf x.1, left.idxOf x.2.1, x.2.2)
def anT (left : List Nat) (ts : List Int) : List Int := left.map fun k => ts.getD k 0
structure Anew (gs : List Gt) (left : List Nat) : Prop where
  p : left.Perm (List.range gs.length)
  i : left.filter (fun k => decide (kindAt gs k = "in")) = plc gs "in" gs.length
  o : left.filter (fun k => decide (kindAt gs k = "out")) = plc gs "out" gs.length
theorem spots_map (p : Nat → Bool) (l : List Nat) : (((List.range l.length).filter fun i => p (l.getD i 0)).map fun i => l.getD i 0) = l.filter p := by
  rw [show (fun i => p (l.getD i 0)) = p ∘ (fun i => l.getD i 0) from rfl, ← List.filter_map, range_getD]
where
  range_getD : (List.range l.length).map (fun i => l.getD i 0) = l := by
    refine List.ext_getElem (by simp) fun i h1 h2 => ?_
    rw [List.getElem_map, List.getElem_range, List.getD_eq_getElem?_getD, List.getElem?_eq_getElem h2]
    rfl
section
variable {gs : List Gt} {left : List Nat}
theorem Anew.len (A : Anew gs left) : left.length = gs.length := by rw [A.p.length_eq, List.length_range]
theorem Anew.nd (A : Anew gs left) : left.Nodup := A.p.nodup_iff.mpr List.nodup_range
theorem Anew.lt (A : Anew gs left) {i : Nat} (h : i ∈ left) : i < gs.length := List.mem_range.mp (A.p.mem_iff.mp h)
theorem Anew.mem (A : Anew gs left) {i : Nat} (h : i < gs.length) : i ∈ left := A.p.mem_iff.mpr (List.mem_range.mpr h)
theorem Anew.at_ (A : Anew gs left) {i : Nat} (h : i < gs.length) : left[left.idxOf i]? = some i := by
  rw [List.getElem?_eq_getElem (List.idxOf_lt_length_iff.mpr (A.mem h)), List.getElem_idxOf]
theorem Anew.atD (A : Anew gs left) {i : Nat} (h : i < gs.length) : left.getD (left.idxOf i) 0 = i := by
  rw [List.getD_eq_getElem?_getD, A.at_ h]
  rfl
theorem Anew.il (A : Anew gs left) {i : Nat} (h : i < gs.length) : left.idxOf i < left.length := List.idxOf_lt_length_iff.mpr (A.mem h)
theorem Anew.inj (A : Anew gs left) {i j : Nat} (hi : i < gs.length) (hj : j < gs.length) (e : left.idxOf i = left.idxOf j) : i = j := by
  have h1 := A.at_ hi
  rw [e, A.at_ hj] at h1
  exact (Option.some.inj h1).symm
theorem Anew.back (A : Anew gs left) {k : Nat} (h : k < left.length) : left.getD k 0 < gs.length ∧ left.idxOf (left.getD k 0) = k := by
  rw [List.getD_eq_getElem?_getD, List.getElem?_eq_getElem h]
  exact ⟨A.lt (List.getElem_mem h), List.Nodup.idxOf_getElem A.nd k h⟩
theorem anG_kind (gs : List Gt) (left : List Nat) {k : Nat} (h : k < left.length) : kindAt (anG left gs) k = kindAt gs (left.getD k 0) := by
  unfold kindAt anG
  rw [List.getD_eq_getElem?_getD, List.getElem?_map, List.getElem?_eq_getElem h, List.getD_eq_getElem?_getD (l := left), List.getElem?_eq_getElem h]
  rfl
theorem anT_at (ts : List Int) (left : List Nat) {k : Nat} (h : k < left.length) : (anT left ts).getD k 0 = ts.getD (left.getD k 0) 0 := by
  unfold anT
  rw [List.getD_eq_getElem?_getD, List.getElem?_map, List.getElem?_eq_getElem h, List.getD_eq_getElem?_getD (l := left), List.getElem?_eq_getElem h]
  rfl
theorem anG_len (A : Anew gs left) : (anG left gs).length = gs.length := by
  unfold anG
  rw [List.length_map, A.len]
theorem anG_plc (A : Anew gs left) {k : Str} (h : left.filter (fun j => decide (kindAt gs j = k)) = plc gs k gs.length) : (plc (anG left gs) k (anG left gs).length).map (fun i => left.getD i 0) = plc gs k gs.length := by
  rw [← h, ← spots_map]
  congr 1
  unfold plc
  rw [anG_len A, ← A.len]
  refine List.filter_congr fun i hi => ?_
  rw [anG_kind gs left (List.mem_range.mp hi)]
/-- the same worths -/
theorem IsW.anew {ws : List Wr} {rs ts : List Int} (A : Anew gs left) (hx : ∀ x ∈ ws, x.1 < gs.length ∧ x.2.1 < gs.length) (h : IsW gs ws rs ts) : IsW (anG left gs) (ws.map (anW left)) rs (anT left ts) := by
  refine ⟨?_, fun i g r hg hr => ?_, fun g hg hk => ?_⟩
  · unfold anT anG
    rw [List.length_map, List.length_map]
  · have hgl : g < left.length := by
      have := (mem_plc.mp (List.mem_of_getElem? hg)).1
      rw [anG_len A, ← A.len] at this
      exact this
    rw [anT_at ts left hgl]
    refine h.put i _ r ?_ hr
    rw [← anG_plc A A.i, List.getElem?_map, hg]
    rfl
  · rw [anG_len A, ← A.len] at hg
    obtain ⟨b1, b2⟩ := A.back hg
    rw [anG_kind gs left hg] at hk ⊢
    rw [anT_at ts left hg, h.eq _ b1 hk]
    congr 1
    unfold cmg
    rw [List.filter_map, List.map_map]
    have e : ws.filter ((fun x => x.2.1 == g) ∘ anW left) = ws.filter fun x => x.2.1 == left.getD g 0 := by
      refine List.filter_congr fun x hx1 => ?_
      rw [Bool.eq_iff_iff]
      simp only [Function.comp, anW, beq_iff_eq]
      constructor
      · intro z
        refine A.inj (hx x hx1).2 b1 ?_
        rw [z, b2]
      · intro z
        rw [z, b2]
    rw [e]
    refine List.map_congr_left fun x hx1 => ?_
    have hx2 := hx x (List.mem_filter.mp hx1).1
    unfold wv anW
    simp only [Function.comp]
    cases e3 : x.2.2 with
    | cons r l => rfl
    | nil =>
      show ts.getD x.1 0 = (anT left ts).getD (left.idxOf x.1) 0
      rw [anT_at ts left (A.il hx2.1), A.atD hx2.1]
theorem bh_anew {ts : List Int} {x : Wr} (A : Anew gs left) (hx : x.1 < gs.length) : bh (anT left ts) (anW left x) = anW left (bh ts x) := by
  unfold bh anW
  cases e : x.2.2 with
  | nil =>
    simp only [e]
  | cons r l =>
    simp only
    rw [anT_at ts left (A.il hx), A.atD hx]
theorem anT_wok {ts : List Int} (h : WOk1 ts) (left : List Nat) : WOk1 (anT left ts) := fun y hy => by
  obtain ⟨k, _, rfl⟩ := List.mem_map.mp hy
  exact wok_getD h k
theorem Run.anew (A : Anew gs left) : ∀ {rss : List (List Int)} {ws we : List Wr} {tss : List (List Int)}, (∀ x ∈ ws, x.1 < gs.length ∧ x.2.1 < gs.length) → Run gs ws rss tss we → Run (anG left gs) (ws.map (anW left)) rss (tss.map (anT left)) (we.map (anW left))
  | [], ws, we, tss, _, h => by
    obtain ⟨rfl, rfl⟩ := h
    exact ⟨rfl, rfl⟩
  | r :: rss, ws, we, tss, hx, h => by
    obtain ⟨t, tl, rfl, h2, h3, h4⟩ := h
    refine ⟨anT left t, tl.map (anT left), rfl, h2.anew A hx, anT_wok h3 left, ?_⟩
    have e : (ws.map (anW left)).map (bh (anT left t)) = (ws.map (bh t)).map (anW left) := by
      rw [List.map_map, List.map_map]
      exact List.map_congr_left fun x hx1 => bh_anew A (hx x hx1).1
    rw [e]
    refine Run.anew A (fun y hy => ?_) h4
    obtain ⟨x, hx1, rfl⟩ := List.mem_map.mp hy
    obtain ⟨e1, e2, _⟩ := bh_ends t x
    rw [e1, e2]
    exact hx x hx1
theorem outsOf_anew (A : Anew gs left) (ts : List Int) : outsOf (anG left gs) (anT left ts) = outsOf gs ts := by
  unfold outsOf
  rw [← anG_plc A A.o, List.map_map]
  refine List.map_congr_left fun i hi => ?_
  have h := (mem_plc.mp hi).1
  rw [anG_len A, ← A.len] at h
  exact anT_at ts left h
theorem row_anew (A : Anew gs left) {rs : List Int} (h : RowOk gs rs) : RowOk (anG left gs) rs := by
  refine ⟨?_, h.2⟩
  rw [h.1, ← anG_plc A A.i, List.length_map]
end
/-! ### inputs and outputs in their order among themselves: the spots refilled -/
def refill (p : Nat → Bool) : List Nat → List Nat → List Nat
  | [], _ => []
  | x :: l, [] => x :: l
  | x :: l, v :: vs => if p x = true then v :: refill p l vs else x :: refill p l (v :: vs)
theorem refill_nil (p : Nat → Bool) (l : List Nat) : refill p l [] = l := by cases l <;> rfl
theorem refill_p (p : Nat → Bool) : ∀ {l vs : List Nat}, vs.length = (l.filter p).length → (∀ v ∈ vs, p v = true) → (refill p l vs).filter p = vs
  | [], vs, h, _ => by
    have : vs = [] := List.length_eq_zero_iff.mp h
    rw [this]
    rfl
  | x :: l, [], h, _ => by
    rw [refill_nil]
    exact List.length_eq_zero_iff.mp h.symm
  | x :: l, v :: vs, h, hv => by
    unfold refill
    by_cases hp : p x = true
    · rw [if_pos hp, List.filter_cons_of_pos (hv v (List.mem_cons_self ..))]
      rw [List.filter_cons_of_pos hp] at h
      rw [refill_p p (by simpa using h) fun y hy => hv y (List.mem_cons_of_mem _ hy)]
    · rw [if_neg hp, List.filter_cons_of_neg hp]
      rw [List.filter_cons_of_neg hp] at h
      exact refill_p p h hv
theorem refill_q (p q : Nat → Bool) (hpq : ∀ x, p x = true → q x = false) : ∀ {l vs : List Nat}, (∀ v ∈ vs, p v = true) → (refill p l vs).filter q = l.filter q
  | [], vs, _ => rfl
  | x :: l, [], _ => by rw [refill_nil]
  | x :: l, v :: vs, hv => by
    unfold refill
    by_cases hp : p x = true
    · have h1 : ¬ q v = true := by rw [hpq v (hv v (List.mem_cons_self ..))]; decide
      have h2 : ¬ q x = true := by rw [hpq x hp]; decide
      rw [if_pos hp, List.filter_cons_of_neg h1, List.filter_cons_of_neg h2]
      exact refill_q p q hpq fun y hy => hv y (List.mem_cons_of_mem _ hy)
    · rw [if_neg hp]
      by_cases hq : q x = true
      · rw [List.filter_cons_of_pos hq, List.filter_cons_of_pos hq, refill_q p q hpq hv]
      · rw [List.filter_cons_of_neg hq, List.filter_cons_of_neg hq, refill_q p q hpq hv]
theorem refill_perm (p : Nat → Bool) {l vs : List Nat} (h : vs.Perm (l.filter p)) : (refill p l vs).Perm l := by
  have hv : ∀ v ∈ vs, p v = true := fun v hv => (List.mem_filter.mp (h.mem_iff.mp hv)).2
  have e1 := refill_p p h.length_eq hv
  have e2 := refill_q p (fun x => !p x) (fun x hx => by rw [hx]; rfl) (l := l) hv
  have a := List.filter_append_perm p (refill p l vs)
  have b := List.filter_append_perm p l
  refine (a.symm.trans ?_).trans b
  rw [e1, e2]
  exact List.Perm.append_right _ h
theorem refill_len (p : Nat → Bool) : ∀ (l vs : List Nat), (refill p l vs).length = l.length
  | [], vs => rfl
  | x :: l, [] => rfl
  | x :: l, v :: vs => by
    unfold refill
    split
    · rw [List.length_cons, List.length_cons, refill_len p l vs]
    · rw [List.length_cons, List.length_cons, refill_len p l (v :: vs)]
/-- the places where p holds -/
def spots (p : Nat → Bool) : List Nat → Nat → List Nat
  | [], _ => []
  | x :: l, o => if p x = true then o :: spots p l (o + 1) else spots p l (o + 1)
theorem spots_snoc (p : Nat → Bool) : ∀ (l : List Nat) (x o : Nat), spots p (l ++ [x]) o = spots p l o ++ (if p x = true then [o + l.length] else [])
  | [], x, o => by
    show (if p x = true then o :: [] else []) = [] ++ _
    rfl
  | y :: l, x, o => by
    show (if p y = true then o :: spots p (l ++ [x]) (o + 1) else spots p (l ++ [x]) (o + 1)) = (if p y = true then o :: spots p l (o + 1) else spots p l (o + 1)) ++ _
    rw [spots_snoc p l x (o + 1), List.length_cons, show o + 1 + l.length = o + (l.length + 1) by omega]
    split <;> rfl
theorem spots_len (p : Nat → Bool) : ∀ (l : List Nat) (o : Nat), (spots p l o).length = (l.filter p).length
  | [], _ => rfl
  | x :: l, o => by
    unfold spots
    by_cases hp : p x = true
    · rw [if_pos hp, List.filter_cons_of_pos hp, List.length_cons, List.length_cons, spots_len p l]
    · rw [if_neg hp, List.filter_cons_of_neg hp, spots_len p l]
theorem spots_lt (p : Nat → Bool) : ∀ (l : List Nat) (o k : Nat), k ∈ spots p l o → o ≤ k ∧ k < o + l.length
  | [], _, _, h => by cases h
  | x :: l, o, k, h => by
    unfold spots at h
    rw [List.length_cons]
    split at h
    · rcases List.mem_cons.mp h with rfl | h
      · omega
      · have := spots_lt p l _ _ h
        omega
    · have := spots_lt p l _ _ h
      omega
theorem spots_vals (p : Nat → Bool) : ∀ (m l : List Nat) (o : Nat), o = m.length → (spots p l o).map (fun k => (m ++ l).getD k 0) = l.filter p
  | m, [], o, _ => rfl
  | m, x :: l, o, h => by
    have ih := spots_vals p (m ++ [x]) l (o + 1) (by rw [List.length_append, h]; rfl)
    rw [List.append_assoc] at ih
    unfold spots
    have hx : (m ++ x :: l).getD o 0 = x := by
      rw [List.getD_eq_getElem?_getD, h, List.getElem?_append_right (Nat.le_refl _), Nat.sub_self]
      rfl
    by_cases hp : p x = true
    · rw [if_pos hp, List.filter_cons_of_pos hp, List.map_cons, hx]
      exact congrArg _ ih
    · rw [if_neg hp, List.filter_cons_of_neg hp]
      exact ih
/-- one spot more -/
theorem refill_set (p : Nat → Bool) : ∀ (l : List Nat) (o : Nat) (vs : List Nat) (i s v : Nat), (spots p l o)[i]? = some s → vs[i]? = some v → (refill p l (vs.take i)).set (s - o) v = refill p l (vs.take (i + 1)) ∧ o ≤ s
  | [], o, vs, i, s, v, h, _ => by simp [spots] at h
  | x :: l, o, [], i, s, v, _, h => by simp at h
  | x :: l, o, y :: vs, i, s, v, h, hv => by
    unfold spots at h
    by_cases hp : p x = true
    · rw [if_pos hp] at h
      cases i with
      | zero =>
        cases h
        cases hv
        rw [Nat.sub_self]
        refine ⟨?_, Nat.le_refl _⟩
        show (x :: l).set 0 y = (if p x = true then y :: refill p l [] else x :: refill p l [y])
        rw [if_pos hp, refill_nil]
        rfl
      | succ i =>
        rw [List.getElem?_cons_succ] at h hv
        obtain ⟨ih, hs⟩ := refill_set p l (o + 1) vs i s v h hv
        refine ⟨?_, by omega⟩
        show (if p x = true then y :: refill p l (vs.take i) else _).set (s - o) v = (if p x = true then y :: refill p l (vs.take (i + 1)) else _)
        rw [if_pos hp, if_pos hp, ← ih, show s - o = (s - (o + 1)) + 1 by omega]
        rfl
    · rw [if_neg hp] at h
      obtain ⟨ih, hs⟩ := refill_set p l (o + 1) (y :: vs) i s v h hv
      refine ⟨?_, by omega⟩
      have e : ∀ zs, refill p (x :: l) zs = x :: refill p l zs := fun zs => by
        cases zs with
        | nil => rw [refill_nil, refill_nil]
        | cons z zs =>
          show (if p x = true then _ else x :: refill p l (z :: zs)) = _
          rw [if_neg hp]
      rw [e, e, ← ih, show s - o = (s - (o + 1)) + 1 by omega]
      rfl
/-- sorted: the places of that kind -/
theorem sorted_plc {gs : List Gt} {left so : List Nat} (k : Str) (hp : left.Perm (List.range gs.length)) (h : so.Perm (left.filter fun j => decide (kindAt gs j = k))) (hs : so.Pairwise (· ≤ ·)) : so = plc gs k gs.length := by
  have h2 : so.Perm (plc gs k gs.length) := h.trans (hp.filter _)
  have s2 : (plc gs k gs.length).Pairwise (· ≤ ·) := by
    unfold plc
    refine List.Pairwise.filter _ ?_
    exact List.pairwise_le_range
  exact h2.eq_of_pairwise (fun a b _ _ h1 h2 => Nat.le_antisymm h1 h2) hs s2
end Lag

set_option maxRecDepth 100000
set_option maxHeartbeats 8000000
namespace Lag
open PySem PySem.Spec PyProof.Rows L2
/-! ### a gate put amid a wire -/
def Par4 (k : Str) : Prop := k = "sum" ∨ k = "most" ∨ k = "first" ∨ k = "least"
theorem kv_single {k : Str} (h : Par4 k) {v : Int} (hv : 0 ≤ v ∧ v ≤ 96) : kindVal k [v] = v := by
  rcases h with rfl | rfl | rfl | rfl
  · rw [kv_sum]
    show (v + 0) % 97 = v
    omega
  · rw [kv_most]
    show max 0 v = v
    omega
  · rw [kv_first]
    rfl
  · rw [kv_least]
    show min 96 v = v
    omega
theorem par4_ne {k : Str} (h : Par4 k) : k ≠ "in" ∧ k ≠ "out" ∧ k ∈ kinds := by
  rcases h with rfl | rfl | rfl | rfl <;> exact ⟨by decide +kernel, by decide +kernel, by decide +kernel⟩
/-- ws, and ws2 with the gate n amid the wire at at_ -/
def Prt (n at_ : Nat) (ws ws2 : List Wr) : Prop := ∃ (X Y : List Wr) (s e : Nat) (A B : List Int), ws = X ++ (s, e, A ++ B) :: Y ∧ ws2 = X ++ (n, e, A) :: (Y ++ [(s, n, B)]) ∧ X.length = at_
theorem kind_app {gs : List Gt} {g : Gt} {j : Nat} (h : j < gs.length) : kindAt (gs ++ [g]) j = kindAt gs j := by
  unfold kindAt
  rw [List.getD_eq_getElem?_getD, List.getD_eq_getElem?_getD, List.getElem?_append_left h]
theorem kind_last (gs : List Gt) (g : Gt) : kindAt (gs ++ [g]) gs.length = g.1 := by
  unfold kindAt
  rw [List.getD_eq_getElem?_getD, List.getElem?_append_right (Nat.le_refl _), Nat.sub_self]
  rfl
theorem plc_app {gs : List Gt} {g : Gt} {k : Str} (h : g.1 ≠ k) : plc (gs ++ [g]) k (gs ++ [g]).length = plc gs k gs.length := by
  rw [List.length_append]
  show plc (gs ++ [g]) k (gs.length + 1) = _
  unfold plc
  rw [List.range_succ, List.filter_append]
  have e1 : ([gs.length].filter fun i => decide (kindAt (gs ++ [g]) i = k)) = [] := by
    rw [List.filter_cons_of_neg (by rw [kind_last]; simpa using h)]
    rfl
  rw [e1, List.append_nil]
  refine List.filter_congr fun i hi => ?_
  rw [kind_app (List.mem_range.mp hi)]
theorem getD_app {ts : List Int} {v : Int} {j : Nat} (h : j < ts.length) : (ts ++ [v]).getD j 0 = ts.getD j 0 := by
  rw [List.getD_eq_getElem?_getD, List.getD_eq_getElem?_getD, List.getElem?_append_left h]
theorem getD_last (ts : List Int) (v : Int) : (ts ++ [v]).getD ts.length 0 = v := by
  rw [List.getD_eq_getElem?_getD, List.getElem?_append_right (Nat.le_refl _), Nat.sub_self]
  rfl
section
variable {gs : List Gt} {ws ws2 : List Wr} {at_ : Nat} {k : Str} {wt : Int}
theorem NetOk.parted (N : NetOk gs ws) (h : Prt gs.length at_ ws ws2) (hk : Par4 k) (hw : 0 ≤ wt ∧ wt ≤ 100) (hg : gs.length < 100) (hl : ws.length < 1000) : NetOk (gs ++ [(k, wt)]) ws2 := by
  obtain ⟨X, Y, s, e, A, B, rfl, rfl, hX⟩ := h
  obtain ⟨k1, k2, k3⟩ := par4_ne hk
  have W0 := N.wok (s, e, A ++ B) (List.mem_append.mpr (.inr (List.mem_cons_self ..)))
  have hs : s < gs.length := W0.s
  have he : e < gs.length := W0.e
  have hgl : (gs ++ [(k, wt)]).length = gs.length + 1 := by rw [List.length_append]; rfl
  have up : ∀ x, WOk gs x → WOk (gs ++ [(k, wt)]) x := fun x W => ⟨by rw [hgl]; exact Nat.lt_succ_of_lt W.s, by rw [hgl]; exact Nat.lt_succ_of_lt W.e, by rw [kind_app W.s]; exact W.ks, by rw [kind_app W.e]; exact W.ke, W.r, W.rl⟩
  have hAl : A.length + B.length ≤ 100 := by
    have := W0.rl
    rw [show ((s, e, A ++ B) : Wr).2.2 = A ++ B from rfl, List.length_append] at this
    exact this
  have wx : ∀ x ∈ X, WOk gs x := fun x hx => N.wok x (List.mem_append.mpr (.inl hx))
  have wy : ∀ x ∈ Y, WOk gs x := fun x hx => N.wok x (List.mem_append.mpr (.inr (List.mem_cons_of_mem _ hx)))
  have cc : ∀ j, j < gs.length → cnt (X ++ (gs.length, e, A) :: (Y ++ [(s, gs.length, B)])) j = cnt (X ++ (s, e, A ++ B) :: Y) j := fun j hj => by
    unfold cnt
    rw [List.countP_append, List.countP_append, List.countP_cons, List.countP_cons, List.countP_append]
    have z : List.countP (fun x : Wr => x.2.1 == j) [(s, gs.length, B)] = 0 := by
      rw [List.countP_cons_of_neg (by simp; omega)]
      rfl
    rw [z]
    rfl
  obtain ⟨ρ, hρ⟩ := N.rank
  refine ⟨by simp, by rw [hgl]; omega, ?_, ?_, ?_, ?_, ?_, ?_⟩
  · rw [List.length_append, List.length_cons, List.length_append] at *
    show _ + (_ + 1 + 1) ≤ _
    omega
  · intro g hg'
    rcases List.mem_append.mp hg' with hg' | hg'
    · exact N.gok g hg'
    · rw [List.mem_singleton.mp hg']
      refine ⟨k3, hw.1, hw.2, fun z => ?_⟩
      rcases z with z | z
      · exact absurd z k1
      · exact absurd z k2
  · intro x hx
    rcases List.mem_append.mp hx with hx | hx
    · exact up x (wx x hx)
    rcases List.mem_cons.mp hx with rfl | hx
    · refine ⟨by rw [hgl]; exact Nat.lt_succ_self _, by rw [hgl]; exact Nat.lt_succ_of_lt he, ?_, ?_, fun y hy => W0.r y (List.mem_append.mpr (.inl hy)), by show A.length ≤ 100; omega⟩
      · show kindAt _ gs.length ≠ _
        rw [kind_last]
        exact k2
      · show kindAt _ e ≠ _
        rw [kind_app he]
        exact W0.ke
    rcases List.mem_append.mp hx with hx | hx
    · exact up x (wy x hx)
    · rw [List.mem_singleton.mp hx]
      refine ⟨by rw [hgl]; exact Nat.lt_succ_of_lt hs, by rw [hgl]; exact Nat.lt_succ_self _, ?_, ?_, fun y hy => W0.r y (List.mem_append.mpr (.inr hy)), by show B.length ≤ 100; omega⟩
      · show kindAt _ s ≠ _
        rw [kind_app hs]
        exact W0.ks
      · show kindAt _ gs.length ≠ _
        rw [kind_last]
        exact k1
  · intro j hj hjk
    rw [hgl] at hj
    by_cases h : j = gs.length
    · rw [h, kind_last] at hjk
      exact absurd hjk k2
    · rw [cc j (by omega)]
      rw [kind_app (by omega)] at hjk
      exact N.one j (by omega) hjk
  · intro j hj hjk
    rw [hgl] at hj
    by_cases h : j = gs.length
    · unfold cnt
      refine List.countP_pos_iff.mpr ⟨(s, gs.length, B), by simp, by rw [h]; simp⟩
    · rw [cc j (by omega)]
      rw [kind_app (by omega)] at hjk
      exact N.some j (by omega) hjk
  · obtain ⟨F, Fn, Fo⟩ : ∃ F : Nat → Nat, F gs.length = (if B = [] then 2 * ρ s + 2 else 0) ∧ ∀ g, g < gs.length → F g = 2 * ρ g + 1 := ⟨fun g => if g = gs.length then (if B = [] then 2 * ρ s + 2 else 0) else 2 * ρ g + 1, if_pos rfl, fun g h => if_neg (by omega)⟩
    refine ⟨F, fun x hx hb => ?_⟩
    have old : ∀ x ∈ X ++ (s, e, A ++ B) :: Y, x.2.2 = [] → F x.1 < F x.2.1 := fun x hx hb => by
      have W := N.wok x hx
      have := hρ x hx hb
      rw [Fo _ W.s, Fo _ W.e]
      omega
    rcases List.mem_append.mp hx with hx | hx
    · exact old x (List.mem_append.mpr (.inl hx)) hb
    rcases List.mem_cons.mp hx with rfl | hx
    · show F gs.length < F e
      rw [Fn, Fo e he]
      have hA : A = [] := hb
      by_cases hB : B = []
      · rw [if_pos hB]
        have : ρ s < ρ e := hρ (s, e, A ++ B) (List.mem_append.mpr (.inr (List.mem_cons_self ..))) (by rw [hA, hB]; rfl)
        omega
      · rw [if_neg hB]
        omega
    rcases List.mem_append.mp hx with hx | hx
    · exact old x (List.mem_append.mpr (.inr (List.mem_cons_of_mem _ hx))) hb
    · rw [List.mem_singleton.mp hx] at hb ⊢
      have hB : B = [] := hb
      show F s < F gs.length
      rw [Fn, Fo s hs, if_pos hB]
      omega
theorem wv_app {ts : List Int} {v : Int} {x : Wr} (h : x.1 < ts.length) : wv (ts ++ [v]) x = wv ts x := wv_congr fun _ => getD_app h
theorem bh_app {ts : List Int} {v : Int} {x : Wr} (h : x.1 < ts.length) : bh (ts ++ [v]) x = bh ts x := by
  unfold bh
  cases e : x.2.2 with
  | nil => rfl
  | cons r l => simp only [getD_app h]
/-- one beat of both -/
theorem IsW.parted {rs ts : List Int} (N : NetOk gs ws) (h : Prt gs.length at_ ws ws2) (hk : Par4 k) (i : IsW gs ws rs ts) (ht : WOk1 ts) :
    ∃ v : Int, IsW (gs ++ [(k, wt)]) ws2 rs (ts ++ [v]) ∧ WOk1 (ts ++ [v]) ∧ Prt gs.length at_ (ws.map (bh ts)) (ws2.map (bh (ts ++ [v]))) := by
  obtain ⟨X, Y, s, e, A, B, rfl, rfl, hX⟩ := h
  obtain ⟨k1, k2, k3⟩ := par4_ne hk
  have W0 := N.wok (s, e, A ++ B) (List.mem_append.mpr (.inr (List.mem_cons_self ..)))
  have hs : s < gs.length := W0.s
  have he : e < gs.length := W0.e
  have hl := i.len
  have wx : ∀ x ∈ X, WOk gs x := fun x hx => N.wok x (List.mem_append.mpr (.inl hx))
  have wy : ∀ x ∈ Y, WOk gs x := fun x hx => N.wok x (List.mem_append.mpr (.inr (List.mem_cons_of_mem _ hx)))
  have hv : 0 ≤ wv ts (s, gs.length, B) ∧ wv ts (s, gs.length, B) ≤ 96 := by
    unfold wv
    cases eB : B with
    | nil => exact wok_getD ht s
    | cons r l => exact W0.r r (List.mem_append.mpr (.inr (by rw [eB]; exact List.mem_cons_self ..)))
  have hvw : ∀ v', wv (ts ++ [v']) (s, gs.length, B) = wv ts (s, gs.length, B) := fun v' => wv_app (show s < ts.length by omega)
  -- the wire from the new gate tells what the old one told
  have mid : wv (ts ++ [wv ts (s, gs.length, B)]) (gs.length, e, A) = wv ts (s, e, A ++ B) := by
    unfold wv
    cases eA : A with
    | cons r l => rfl
    | nil =>
      show (ts ++ [_]).getD gs.length 0 = _
      rw [← hl, getD_last]
      cases eB : B <;> rfl
  refine ⟨wv ts (s, gs.length, B), ⟨?_, fun j g r hg hr => ?_, fun g hg hgk => ?_⟩, ?_, ?_⟩
  · rw [List.length_append, List.length_append, hl]
    rfl
  · rw [plc_app k1] at hg
    have := (mem_plc.mp (List.mem_of_getElem? hg)).1
    rw [getD_app (by omega)]
    exact i.put j g r hg hr
  · rw [List.length_append] at hg
    have hg' : g < gs.length + 1 := hg
    have fX : ∀ (Z : List Wr), (∀ x ∈ Z, WOk gs x) → ∀ g, (Z.filter fun x => x.2.1 == g).map (wv (ts ++ [wv ts (s, gs.length, B)])) = (Z.filter fun x => x.2.1 == g).map (wv ts) := fun Z hZ g => List.map_congr_left fun x hx => wv_app (by
      have := (hZ x (List.mem_filter.mp hx).1).s
      omega)
    by_cases hgn : g = gs.length
    · subst hgn
      rw [kind_last, ← hl, getD_last, hl]
      have no : ∀ (Z : List Wr), (∀ x ∈ Z, WOk gs x) → (Z.filter fun x => x.2.1 == gs.length) = [] := fun Z hZ => by
        rw [List.filter_eq_nil_iff]
        intro x hx
        have := (hZ x hx).e
        simp
        omega
      have : cmg (X ++ (gs.length, e, A) :: (Y ++ [(s, gs.length, B)])) (ts ++ [wv ts (s, gs.length, B)]) gs.length = [wv ts (s, gs.length, B)] := by
        unfold cmg
        rw [List.filter_append, no X wx, List.filter_cons_of_neg (by simp; omega), List.filter_append, no Y wy, List.filter_cons_of_pos (by simp)]
        show [wv _ (s, gs.length, B)] = _
        rw [hvw]
      rw [this, kv_single hk hv]
    · have hgl : g < gs.length := by omega
      rw [kind_app hgl] at hgk ⊢
      rw [getD_app (by omega), i.eq g hgl hgk]
      congr 1
      unfold cmg
      rw [List.filter_append, List.filter_append, List.map_append, List.map_append, fX X wx g]
      congr 1
      have last : ([(s, gs.length, B)].filter fun x : Wr => x.2.1 == g) = [] := by
        rw [List.filter_cons_of_neg (by simp; omega)]
        rfl
      by_cases heg : e = g
      · rw [List.filter_cons_of_pos (by simpa using heg), List.filter_cons_of_pos (by simpa using heg), List.filter_append, last, List.append_nil, List.map_cons, List.map_cons, fX Y wy g, mid]
      · rw [List.filter_cons_of_neg (by simpa using heg), List.filter_cons_of_neg (by simpa using heg), List.filter_append, last, List.append_nil, fX Y wy g]
  · intro y hy
    rcases List.mem_append.mp hy with hy | hy
    · exact ht y hy
    · rw [List.mem_singleton.mp hy]
      exact hv
  · refine ⟨X.map (bh ts), Y.map (bh ts), s, e, (bh (ts ++ [wv ts (s, gs.length, B)]) (gs.length, e, A)).2.2, (bh ts (s, gs.length, B)).2.2, ?_, ?_, by rw [List.length_map]; exact hX⟩
    · rw [List.map_append, List.map_cons]
      congr 2
      unfold bh wv
      cases eA : A with
      | nil =>
        cases eB : B with
        | nil => rfl
        | cons r l => rfl
      | cons r l =>
        show (s, e, (l ++ B) ++ [ts.getD s 0]) = (s, e, (l ++ [(ts ++ [_]).getD gs.length 0]) ++ _)
        rw [← hl, getD_last]
        cases eB : B with
        | nil =>
          rw [List.append_nil]
          show _ = (s, e, (l ++ [ts.getD s 0]) ++ [])
          rw [List.append_nil]
        | cons q m =>
          show (s, e, l ++ q :: m ++ [ts.getD s 0]) = (s, e, l ++ [q] ++ (m ++ [ts.getD s 0]))
          simp
    · rw [List.map_append, List.map_cons, List.map_append]
      have eX : ∀ (Z : List Wr), (∀ x ∈ Z, WOk gs x) → Z.map (bh (ts ++ [wv ts (s, gs.length, B)])) = Z.map (bh ts) := fun Z hZ => List.map_congr_left fun x hx => bh_app (by
        have := (hZ x hx).s
        omega)
      rw [eX X wx, eX Y wy]
      obtain ⟨e1, e2, _⟩ := bh_ends (ts ++ [wv ts (s, gs.length, B)]) (gs.length, e, A)
      have e3 : bh (ts ++ [wv ts (s, gs.length, B)]) (gs.length, e, A) = (gs.length, e, (bh (ts ++ [wv ts (s, gs.length, B)]) (gs.length, e, A)).2.2) := Prod.ext e1 (Prod.ext e2 rfl)
      have e4 : bh (ts ++ [wv ts (s, gs.length, B)]) (s, gs.length, B) = (s, gs.length, (bh ts (s, gs.length, B)).2.2) := by
        rw [bh_app (show s < ts.length by omega)]
        obtain ⟨f1, f2, _⟩ := bh_ends ts (s, gs.length, B)
        exact Prod.ext f1 (Prod.ext f2 rfl)
      rw [e3, List.map_singleton, e4]
theorem outs_parted (hk : Par4 k) {ts : List Int} (hl : ts.length = gs.length) (v : Int) : outsOf (gs ++ [(k, wt)]) (ts ++ [v]) = outsOf gs ts := by
  unfold outsOf
  rw [plc_app (par4_ne hk).2.1]
  refine List.map_congr_left fun g hg => getD_app ?_
  rw [hl]
  exact (mem_plc.mp hg).1
theorem Run.parted (hk : Par4 k) : ∀ {rss : List (List Int)} {ws ws2 we : List Wr} {tss : List (List Int)}, NetOk gs ws → Prt gs.length at_ ws ws2 → Run gs ws rss tss we → ∃ tss2 we2, Run (gs ++ [(k, wt)]) ws2 rss tss2 we2 ∧ Prt gs.length at_ we we2 ∧ tss2.map (outsOf (gs ++ [(k, wt)])) = tss.map (outsOf gs)
  | [], ws, ws2, we, tss, N, h, r => by
    obtain ⟨rfl, rfl⟩ := r
    exact ⟨[], ws2, ⟨rfl, rfl⟩, h, rfl⟩
  | x :: rss, ws, ws2, we, tss, N, h, r => by
    obtain ⟨t, tl, rfl, h2, h3, h4⟩ := r
    obtain ⟨v, i, wv', h5⟩ := IsW.parted (wt := wt) N h hk h2 h3
    obtain ⟨tss2, we2, r2, p2, o2⟩ := Run.parted hk (N.behind h3) h5 h4
    exact ⟨(t ++ [v]) :: tss2, we2, ⟨t ++ [v], tss2, rfl, i, wv', r2⟩, p2, by rw [List.map_cons, List.map_cons, o2, outs_parted hk h2.len]⟩
end
theorem row_parted {gs : List Gt} {k : Str} {wt : Int} (hk : Par4 k) {rs : List Int} (h : RowOk gs rs) : RowOk (gs ++ [(k, wt)]) rs := by
  refine ⟨?_, h.2⟩
  rw [h.1, plc_app (par4_ne hk).1]
/-- wire by wire -/
theorem Prt.at_ {n at_ : Nat} {ws ws2 : List Wr} (h : Prt n at_ ws ws2) (hn : ∀ x ∈ ws, x.1 < n) : ws2.length = ws.length + 1 ∧ ∃ z, ws2.getLast? = some z ∧ ∀ (i : Nat) (x : Wr), ws[i]? = some x → ∃ y, ws2[i]? = some y ∧ ((y.1 = n ∧ y.2.2 ++ z.2.2 = x.2.2) ∨ (y.1 ≠ n ∧ y.2.2 = x.2.2)) := by
  obtain ⟨X, Y, s, e, A, B, rfl, rfl, hX⟩ := h
  refine ⟨by simp; omega, (s, n, B), (by rw [show X ++ (n, e, A) :: (Y ++ [(s, n, B)]) = (X ++ (n, e, A) :: Y) ++ [(s, n, B)] by simp]; exact List.getLast?_concat ..), fun i x hx => ?_⟩
  rcases Nat.lt_trichotomy i X.length with h | h | h
  · rw [List.getElem?_append_left h] at hx ⊢
    have := hn x (List.mem_append.mpr (.inl (List.mem_of_getElem? hx)))
    exact ⟨x, hx, .inr ⟨by omega, rfl⟩⟩
  · rw [List.getElem?_append_right (by omega), h, Nat.sub_self] at hx
    cases hx
    refine ⟨(n, e, A), ?_, .inl ⟨rfl, rfl⟩⟩
    rw [List.getElem?_append_right (by omega), h, Nat.sub_self]
    rfl
  · obtain ⟨d, hd⟩ : ∃ d, i - X.length = d + 1 := ⟨i - X.length - 1, by omega⟩
    rw [List.getElem?_append_right (by omega), hd, List.getElem?_cons_succ] at hx ⊢
    have hd2 : d < Y.length := (List.getElem?_eq_some_iff.mp hx).1
    rw [List.getElem?_append_left hd2]
    have := hn x (List.mem_append.mpr (.inr (List.mem_cons_of_mem _ (List.mem_of_getElem? hx))))
    exact ⟨x, hx, .inr ⟨by omega, rfl⟩⟩
end Lag

set_option maxRecDepth 100000
set_option maxHeartbeats 8000000
namespace Lag
open PySem PySem.Spec PyProof.Rows L2
abbrev sNumb : Stmt := topS 55 -- @_law_numbered
abbrev natV (r : List Nat) : List V := r.map fun i => V.int (i : Nat)
theorem nat_get {r : List Nat} {i k : Nat} (h : r[i]? = some k) : (natV r)[i]? = some (.int (k : Nat)) := by
  rw [List.getElem?_map, h]
  rfl
theorem nat_at {r : List Nat} {i : Nat} {v : V} (h : (natV r)[i]? = some v) : ∃ k, r[i]? = some k ∧ v = .int (k : Nat) := by
  rw [List.getElem?_map] at h
  obtain ⟨k, hk, e⟩ := Option.map_eq_some_iff.mp h
  exact ⟨k, hk, e.symm⟩
theorem gn_norm {i : Nat} {x : V} {σ σ' : L2.St} {H : Hp} {N : L2.St → Hp → Prop} (e : σ.set i (some x) = σ') (h : N σ' H) : gName i x σ H N := by
  subst e
  exact h
theorem Dr.ofSame' {wl : Addr} {H H' : Hp} (W : WellAt wl H) (s : Same H H') : Dr wl H H' := ⟨But.same s, W.same s⟩
theorem Dr.mut {wl l : Addr} {H H' : Hp} {o : HO} (d : Dr wl H H') (h : H l = none) (n : l ≠ wl) : Dr wl H (upd H' l o) := ⟨fun b u nb e => by
  rw [upd_ne (fun z => by rw [z, h] at e; cases e)]
  exact d.but b u nb e, by
  obtain ⟨x, y, z, e⟩ := d.well
  exact ⟨x, y, z, by rw [upd_ne n.symm]; exact e⟩⟩
/-- the dict of new numbers -/
def newD (left : List Nat) : List (Key × V) := left.map fun n => (Sum.inl ((n : Nat) : Int), V.int ((left.idxOf n : Nat) : Int))
theorem putK_new {kvs : List (Key × V)} {k : Key} {v : V} (h : k ∉ kvs.map Prod.fst) : putK kvs k v = kvs ++ [(k, v)] := by
  unfold putK
  rw [if_neg]
  intro z
  rw [List.any_eq_true] at z
  obtain ⟨kv, h1, h2⟩ := z
  exact h (by rw [← of_decide_eq_true h2]; exact List.mem_map_of_mem h1)
theorem mergeK_nodup : ∀ (more kvs : List (Key × V)), ((kvs ++ more).map Prod.fst).Nodup → mergeK kvs more = kvs ++ more
  | [], kvs, _ => (List.append_nil _).symm
  | p :: r, kvs, h => by
    show mergeK (putK kvs p.1 p.2) r = _
    have h2 : kvs ++ p :: r = (kvs ++ [p]) ++ r := by simp
    rw [h2] at h
    have hp : p.1 ∉ kvs.map Prod.fst := fun z => by
      rw [List.append_assoc, List.map_append, List.nodup_append] at h
      exact h.2.2 _ z _ (by simp) rfl
    rw [putK_new hp, mergeK_nodup r _ h, h2]
theorem valV_fn {f : Nat → V} {a : Nat} : ∀ {l : List Nat}, a ∈ l → valV (l.map fun n => ((Sum.inl ((n : Nat) : Int) : Key), f n)) (.inl ((a : Nat) : Int)) = some (f a)
  | [], h => by cases h
  | x :: l, h => by
    rw [List.map_cons]
    by_cases e : x = a
    · rw [e]
      exact valV_pos rfl
    · rw [valV_neg (fun z => e (by
        have : ((x : Nat) : Int) = ((a : Nat) : Int) := Sum.inl.inj z
        omega))]
      rcases List.mem_cons.mp h with rfl | h
      · exact absurd rfl e
      · exact valV_fn h
theorem newD_at {left : List Nat} {a : Nat} (h : a ∈ left) : valV (newD left) (.inl ((a : Nat) : Int)) = some (.int ((left.idxOf a : Nat) : Int)) := valV_fn (f := fun n => V.int ((left.idxOf n : Nat) : Int)) h
theorem keys_nodup {f : Nat → V} {l : List Nat} (h : l.Nodup) : ((l.map fun n => ((Sum.inl ((n : Nat) : Int) : Key), f n)).map Prod.fst).Nodup := by
  rw [List.map_map]
  refine (List.pairwise_map.mpr ?_)
  refine h.imp fun {a b} n z => n ?_
  have : ((a : Nat) : Int) = ((b : Nat) : Int) := Sum.inl.inj z
  omega
theorem merge_newD {left : List Nat} (h : left.Nodup) : mergeK [] (newD left) = newD left := mergeK_nodup _ [] (keys_nodup h)
theorem paired_of {α β : Type} {F : α → β → Prop} : ∀ {xs : List α} {ys : List β}, All2 F xs ys → Paired F xs ys
  | [], [], _ => .nil
  | [], _ :: _, a => by have := a.1; simp at this
  | _ :: _, [], a => by have := a.1; simp at this
  | _ :: _, _ :: _, a => .cons a.head (paired_of a.tail)
theorem nat_perm {ns : List Int} {l : List Nat} (h : ns.Perm (l.map fun i => ((i : Nat) : Int))) (hs : ns.Pairwise (· ≤ ·)) : ∃ so : List Nat, ns = so.map (fun i => ((i : Nat) : Int)) ∧ so.Perm l ∧ so.Pairwise (· ≤ ·) := by
  have e : ns = (ns.map Int.toNat).map fun i => ((i : Nat) : Int) := by
    rw [List.map_map]
    refine (List.map_id _).symm.trans (List.map_congr_left fun x hx => ?_)
    obtain ⟨k, _, rfl⟩ := List.mem_map.mp (h.mem_iff.mp hx)
    rfl
  refine ⟨ns.map Int.toNat, e, ?_, ?_⟩
  · have := h.map Int.toNat
    rw [List.map_map] at this
    refine this.trans (List.Perm.of_eq ?_)
    refine (List.map_congr_left fun x _ => ?_).trans (List.map_id l)
    rfl
  · refine List.pairwise_map.mpr (hs.imp fun {a b} h => ?_)
    exact Int.toNat_le_toNat h
def spNumb (K : PySem.W.Frag) : Sp := fun vs H Q _ => ∃ (wl lg : Addr) (gs : List Gt), vs = [.ref wl, .ref lg] ∧ WellAt wl H ∧ lg ≠ wl ∧ LG K H lg gs ∧ gs.length ≤ 100 ∧ ∀ (nd : Addr) (left : List Nat) (H' : Hp), Anew gs left → Dr wl H H' → H nd = none → H' nd = some (.dK (newD left)) → Q (.ref nd) H'
section
variable {P : Program} {w : World} {K : PySem.W.Frag} {mg : Str → Option Value} {base : Heap}
abbrev nNumb : List Str := ["_law_well_here", "_law_gates", "_law_left", "_law_gate_here", "_law_order", "_law_kind", "_law_k", "_law_spots", "_law_some", "_law_spot", "_law_number"]
theorem scNumb : FnScope nNumb ["_law_well_here", "_law_gates"] (defScope sNumb) := ⟨rfl, rfl, rfl, by decide +kernel, rfl, by decide +kernel, by decide +kernel⟩
abbrev DNumb (P : Program) (w : World) (K : PySem.W.Frag) (mg : Str → Option Value) (base : Heap) := Df P w K mg base 2 "_law_numbered" ["_law_well_here", "_law_gates"] (spNumb K)
theorem ok_numb {f fD : Addr} {fd fdD : FuncData} (F : Fun K "_law_numbered" "_law_numbered" sNumb f fd) (hm : mg "_law_numbered" = some (.ref f)) (B : Bt mg) (mso : mg "sorted" = none) (mdi : mg "dict" = none) (DD : DDraw P w K mg base fD fdD) : DNumb P w K mg base f fd := by
  refine ⟨?_, hm, F.kp, F.binds fun _ _ _ _ _ _ us hl => match us, hl with | [_, _], _ => rfl⟩
  refine F.ok scNumb (fun vs H Q E h => ?_) (fun cdv A outer s H vs Q E hr h => ?_)
  · obtain ⟨wl, lg, gs, rfl, _⟩ := h
    rfl
  · obtain ⟨wl, lg, gs, rfl, hw, nlg, GG, hgl, q⟩ := h
    have nd := scNumb.nd
    refine ⟨_, pss_cons (ps_set (i := 2) nd rfl (.inr rfl) (pe_listRg rfl (by rfl) B.list (prg_1 (by rfl) B.range (pe_callB call_len_seq (by rfl) B.len PySem.boot_len (pa_cons (pv 1) pa_nil))))) <|
        pss_cons (ps_set (i := 4) nd rfl (.inr rfl) (pe_lc (own := [("_law_gate_here", 3)]) (g := (gName 3)) (tt := tYes) (te := (tBM K "list" rPopAt (tVar 2) (tCons (tCall spDraw [] E0 (tCons (tVar 0) (tCons (tCB (Evl.rLenS K) (tCons (tVar 2) tNil)) tNil))) tNil))) rfl nd (pi_list (pv 1)) (blkOk_by (N := nNumb) (sc := defScope sNumb) (own := [("_law_gate_here", 3)]) (by decide +kernel)) (fun _ _ _ _ _ => (pg_name (i := 3) nd rfl (.inl rfl))) (fun _ _ _ _ _ => pts_nil) (fun _ _ _ _ _ => (pe_bm PySem.F.plainAttrs_list PySem.F.slot_list_pop PySem.F.type_list_pop mt_popAt (pv 2) (pa_cons (pe_call DD.ok (hr.mono (by decide)) (by rfl) DD.mg DD.kp DD.bd .nil pass0 (pa_cons (pv 0) (pa_cons (pe_callB call_len_seq (by rfl) B.len PySem.boot_len (pa_cons (pv 2) pa_nil)) pa_nil))) pa_nil))))) <|
        pss_cons (ps_for PassesOwn.never rfl (pi_list (pe_lst (pa_cons pe_str (pa_cons pe_str pa_nil)))) (pg_name (i := 5) nd rfl (.inr rfl)) (pss_cons (ps_setLc (i := 7) (own := [("_law_k", 6)]) (g := (gName 6)) (tt := (tTest (tOp rEq (tOp (rIxT K) (tOp (rIxL K) (tVar 1) (tOp (rIxL K) (tVar 4) (tVar 6))) (tC (.int 0))) (tVar 5)))) (te := (tVar 6)) rfl nd rfl rfl (sw_true rfl rfl rfl (by decide +kernel)) (pi_range1 (by rfl) B.range (pa_cons (pe_callB call_len_seq (by rfl) B.len PySem.boot_len (pa_cons (pv 4) pa_nil)) pa_nil)) (blkOk_by (N := nNumb) (sc := defScope sNumb) (own := [("_law_k", 6)]) (by decide +kernel)) (fun _ _ _ _ _ => (pg_name (i := 6) nd rfl (.inl rfl))) (fun _ _ _ _ _ => pts_one (pt_cmpR op_eq (pe_ix ix_tup (pe_ix ix_list (pv 1) (pe_ix ix_list (pv 4) (pv 6) (fun _ _ => rfl)) (fun _ _ => rfl)) pe_int (fun _ _ => rfl)) (pv 5) (nomark _))) (fun _ _ _ _ _ => (pv 6))) <|
        pss_cons (ps_set (i := 8) nd rfl (.inl rfl) (pe_callB cr_sortedI (by rfl) mso (by decide +kernel) (pa_cons (pe_lc (own := [("_law_k", 6)]) (g := (gName 6)) (tt := tYes) (te := (tOp (rIxL K) (tVar 4) (tVar 6))) rfl nd (pi_list (pv 7)) (blkOk_by (N := nNumb) (sc := defScope sNumb) (own := [("_law_k", 6)]) (by decide +kernel)) (fun _ _ _ _ _ => (pg_name (i := 6) nd rfl (.inl rfl))) (fun _ _ _ _ _ => pts_nil) (fun _ _ _ _ _ => (pe_ix ix_list (pv 4) (pv 6) (fun _ _ => rfl)))) pa_nil))) <|
        pss_one (ps_for PassesOwn.never rfl (pi_zip (by rfl) B.zip (pa_cons (pv 7) (pa_cons (pv 8) pa_nil))) (pg_tup rfl (pgs_cons (pg_name (i := 9) nd rfl (.inl rfl)) (pgs_cons (pg_name (i := 10) nd rfl (.inl rfl)) pgs_nil))) (pss_one (ps_asg (pv 10) (pg_sub (pv 4) (pv 9) set_list)))))) <|
        pss_one (ps_ret (pe_callTy (call_dictP rfl) (by rfl) mdi (by decide +kernel) (pa_cons (pe_lc (own := [("_law_k", 6), ("_law_number", 10)]) (g := (gTup K 2 (gCons (gName 6) (gCons (gName 10) gNil)))) (tt := tYes) (te := (tTup (tCons (tVar 10) (tCons (tVar 6) tNil)))) rfl nd (pi_enum (by rfl) B.enum (pa_cons (pv 4) pa_nil)) (blkOk_by (N := nNumb) (sc := defScope sNumb) (own := [("_law_k", 6), ("_law_number", 10)]) (by decide +kernel)) (fun _ _ _ _ _ => (pg_tup rfl (pgs_cons (pg_name (i := 6) nd rfl (.inl rfl)) (pgs_cons (pg_name (i := 10) nd rfl (.inl rfl)) pgs_nil)))) (fun _ _ _ _ _ => pts_nil) (fun _ _ _ _ _ => (pe_tup (pa_cons (pv 10) (pa_cons (pv 6) pa_nil))))) pa_nil))), ?_⟩
    obtain ⟨gv, hgv, ga⟩ := id GG
    have hgvl : gv.length = gs.length := ga.1
    refine ⟨_, rfl, lg, gv, rfl, .inl (SqL.of hgv), _, rfl, RgOk.of_le (by omega) (by omega) (by omega) (by omega), fun L hL => ?_⟩
    rw [rgV_nat, hgvl]
    have S1 : Same H (upd H L (.lst ((List.range gs.length).map fun i => V.int (i : Nat)))) := same_new hL
    have e1 : (upd H L (.lst ((List.range gs.length).map fun i => V.int (i : Nat)))) L = some (.lst ((List.range gs.length).map fun i => V.int (i : Nat))) := upd_same
    have W1 := hw.new (o := .lst ((List.range gs.length).map fun i => V.int (i : Nat))) hL
    have nL : L ≠ wl := (hw.ne hL).symm
    have ngL : lg ≠ L := ne_of_none hgv hL
    generalize upd H L (.lst ((List.range gs.length).map fun i => V.int (i : Nat))) = H1 at S1 e1 W1
    refine gn_norm (σ' := [some (.ref wl), some (.ref lg), some (.ref L), none, none, none, none, none, none, none, none]) rfl ?_
    have hvl : ((List.range gs.length).map fun i => V.int (i : Nat)).length = gs.length := by simp
    have dv : ∃ vs : List V, vs = (List.range gs.length).map fun i => V.int (i : Nat) := ⟨_, rfl⟩
    obtain ⟨vs, hvs⟩ := dv
    rw [← hvs] at e1 hvl
    refine ⟨_, rfl, lg, rfl, ⟨_, SqL.of (S1 _ _ hgv)⟩, fun D hD => ?_⟩
    have nDL : L ≠ D := ne_of_none e1 hD
    have nDw : D ≠ wl := (W1.ne hD).symm
    have nDg : lg ≠ D := ne_of_none (S1 _ _ hgv) hD
    refine lc_list (K := K) (a := lg) (xs := gv) (fun i H3 => ∃ acc rem : List V, acc.length = i ∧ (acc ++ rem).Perm vs ∧ H3 D = some (.lst acc) ∧ H3 L = some (.lst rem) ∧ (∀ b o, b ≠ wl → b ≠ L → H1 b = some o → H3 b = some o) ∧ WellAt wl H3)
      ⟨[], vs, rfl, by simp, upd_same, by rw [upd_ne nDL]; exact e1, fun b o _ _ e => by rw [upd_ne (ne_of_none e hD)]; exact e, W1.new hD⟩ (fun i H3 _ ⟨_, _, _, _, _, _, hk, _⟩ => SqL.of (hk _ _ nlg ngL (S1 _ _ hgv))) ?_ ?_
    · rintro i x H3 hx ⟨acc, rem, hal, hp, hDa, hLr, hk, hw3⟩
      have hi : i < gv.length := (List.getElem?_eq_some_iff.mp hx).1
      have hlen : acc.length + rem.length = vs.length := by
        have := hp.length_eq
        simpa using this
      have hrem : 0 < rem.length := by omega
      refine ⟨rfl, tyes ?_⟩
      refine ⟨_, rfl, .inl ⟨rfl, _, SqL.of hLr⟩, _, rfl, _, rfl, L, rem, rfl, .inl (SqL.of hLr), wl, _, rfl, by omega, by omega, hw3, fun d H4 d0 d1 E1 => ?_⟩
      have hj : d.toNat < rem.length := by omega
      have hLr4 := E1.but _ _ nL hLr
      have hDa4 := E1.but _ _ nDw hDa
      have hg' : rem[d.toNat]? = some rem[d.toNat] := List.getElem?_eq_getElem hj
      refine ⟨L, rem, d, d.toNat, rem[d.toNat], rfl, rfl, hLr4, by omega, by omega, PySem.seqIndex_of d0 d1, hg', ?_⟩
      refine ⟨acc, by rw [upd_ne nDL.symm]; exact hDa4, small1000 (by omega), acc ++ [rem[d.toNat]], rem.eraseIdx d.toNat, by simp [hal], perm_pop hp hg', upd_same, ?_, ?_, ?_⟩
      · rw [upd_ne nDL, upd_same]
      · intro b o nb nLb e
        rw [upd_ne (ne_of_none e hD), upd_ne nLb]
        exact E1.but _ _ nb (hk b o nb nLb e)
      · obtain ⟨x1, x2, x3, hx⟩ := E1.well
        exact ⟨x1, x2, x3, by rw [upd_ne nDw.symm, upd_ne nL.symm]; exact hx⟩
    rintro H2 ⟨vs', rem, hal, pm, hD2, hLr, hk2, hw2⟩
    have hrem : rem = [] := by
      have hlen : vs'.length + rem.length = vs.length := by
        have := pm.length_eq
        simpa using this
      cases rem with
      | nil => rfl
      | cons _ _ => simp at hlen; omega
    subst hrem
    rw [List.append_nil, hvs] at pm
    obtain ⟨left, pl, al⟩ := (eq_all2 (f := fun i : Nat => V.int (i : Nat)) (List.range gs.length)).perm pm
    rw [all2_eq al] at hD2
    have hD0 : H D = none := S1.free hD
    have D2 : Dr wl H H2 := ⟨fun b o n e => hk2 b o n (fun z => by rw [z, hL] at e; cases e) (S1 _ _ e), hw2⟩
    have ll : left.length = gs.length := by rw [pl.length_eq, List.length_range]
    clear pm al hk2 e1 hvl hvs vs
    refine gn_norm (σ' := [some (.ref wl), some (.ref lg), some (.ref L), none, some (.ref D), none, none, none, none, none, none]) rfl ?_
    refine ⟨(by show 2 ≤ sizeLine; decide), fun lk hlk => ?_⟩
    have S3 : Same H2 (upd H2 lk (.lst [.str "in", .str "out"])) := same_new hlk
    have e3 : (upd H2 lk (.lst [.str "in", .str "out"])) lk = some (.lst [.str "in", .str "out"]) := upd_same
    have D3 : Dr wl H (upd H2 lk (.lst [.str "in", .str "out"])) := D2.trans (Dr.new D2.well hlk)
    have nk : lk ≠ wl := (D2.well.ne hlk).symm
    have nDk : D ≠ lk := ne_of_none hD2 hlk
    generalize upd H2 lk (.lst [.str "in", .str "out"]) = H3 at S3 e3 D3
    refine ⟨lk, rfl, ⟨_, SqL.of e3⟩, for_list (K := K) (a := lk) (xs := [.str "in", .str "out"]) (fun i σ Hc => ∃ (t5 t6 t7 t8 t9 t10 : Option V) (left : List Nat), σ = [some (.ref wl), some (.ref lg), some (.ref L), none, some (.ref D), t5, t6, t7, t8, t9, t10] ∧ Dr wl H Hc ∧ Hc lk = some (.lst [.str "in", .str "out"]) ∧ Hc D = some (.lst (natV left)) ∧ left.Perm (List.range gs.length) ∧ (1 ≤ i → left.filter (fun k => decide (kindAt gs k = "in")) = plc gs "in" gs.length) ∧ (2 ≤ i → left.filter (fun k => decide (kindAt gs k = "out")) = plc gs "out" gs.length))
      ⟨_, _, _, _, _, _, left, rfl, D3, e3, S3 _ _ hD2, pl, fun h => absurd h (by decide), fun h => absurd h (by decide)⟩ (fun i σ Hc _ ⟨_, _, _, _, _, _, _, _, _, e, _⟩ => SqL.of e) ?_ ?_⟩
    · rintro i v σ Hc hv ⟨t5, t6, t7, t8, t9, t10, left, rfl, Dc, ek, eD, pl, hin, hout⟩
      clear ll
      have ll : left.length = gs.length := by rw [pl.length_eq, List.length_range]
      obtain ⟨kd, rfl, hkd⟩ : ∃ kd : Str, v = .str kd ∧ ((i = 0 ∧ kd = "in") ∨ (i = 1 ∧ kd = "out")) := by
        match i, hv with
        | 0, hv =>
          cases hv
          exact ⟨_, rfl, .inl ⟨rfl, rfl⟩⟩
        | 1, hv =>
          cases hv
          exact ⟨_, rfl, .inr ⟨rfl, rfl⟩⟩
      obtain ⟨p, hp⟩ : ∃ p : Nat → Bool, p = fun k => decide (kindAt gs k = kd) := ⟨_, rfl⟩
      have G : LG K Hc lg gs := GG.dr nlg hw Dc
      obtain ⟨gvc, hgc, gac⟩ := id G
      refine gn_norm (σ' := [some (.ref wl), some (.ref lg), some (.ref L), none, some (.ref D), some (.str kd), t6, t7, t8, t9, t10]) rfl ?_
      -- spots
      refine ⟨_, rfl, D, _, rfl, .inl (SqL.of eD), _, rfl, by rw [List.length_map]; omega, by rw [List.length_map]; omega, fun M hM => ?_⟩
      rw [List.length_map, Int.toNat_natCast]
      refine lc_range (lo := 0) (n := left.length) (fun j Hd => Hd M = some (.lst (natV (spots p (left.take j) 0))) ∧ Same Hc Hd) ⟨upd_same, same_new hM⟩ ?_ ?_
      · rintro j Hd hj ⟨eM, sd⟩
        have ei : (0 : Int) + (j : Nat) = ((j : Nat) : Int) := Int.zero_add _
        rw [ei]
        have hx : left[j]? = some left[j] := List.getElem?_eq_getElem hj
        have hxl : left[j] < gs.length := List.mem_range.mp (pl.mem_iff.mp (List.getElem_mem hj))
        have htk : left.take (j + 1) = left.take j ++ [left[j]] := by rw [List.take_add_one, hx]; rfl
        have htl : (left.take j).length = j := by rw [List.length_take]; omega
        have hsl := spots_len p (left.take j) 0
        have hfl := List.length_filter_le p (left.take j)
        generalize left[j] = x at hx hxl htk
        obtain ⟨g, hg⟩ : ∃ g, gs[x]? = some g := ⟨_, List.getElem?_eq_getElem hxl⟩
        obtain ⟨u, hu, a, rfl, sq⟩ := gac.getR hg
        have hk := kindAt_get hg
        refine ⟨rfl, ?_⟩
        refine ⟨_, rfl, _, rfl, _, rfl, D, _, _, _, rfl, rfl, SqL.of (sd _ _ eD), atI_nat (nat_get hx), lg, gvc, _, _, rfl, rfl, SqL.of (sd _ _ hgc), atI_nat hu, a, _, 0, .str g.1, rfl, rfl, (TK.same sd).seq sq, atI_nat (j := 0) rfl, _, rfl, rfl, _, rfl, ite2 (fun e => ?_) (fun e => ?_)⟩
        · have hpx : p x = true := by
            rw [hp]
            refine decide_eq_true ?_
            rw [hk]
            exact V.str.inj (of_decide_eq_true e)
          refine ⟨_, rfl, _, eM, by rw [List.length_map]; exact small1000 (by omega), ?_, same_mut sd hM⟩
          rw [upd_same, htk, spots_snoc, if_pos hpx, htl, Nat.zero_add]
          show _ = some (HO.lst (List.map _ (_ ++ _)))
          rw [List.map_append]
          rfl
        · have hpx : ¬ p x = true := fun z => e (decide_eq_true (by
            rw [hp] at z
            rw [← hk, of_decide_eq_true z]))
          refine ⟨?_, sd⟩
          rw [htk, spots_snoc, if_neg hpx, List.append_nil]
          exact eM
      rintro H4 ⟨eM, s4⟩
      rw [List.take_length] at eM
      obtain ⟨sp, hsp⟩ : ∃ sp, sp = spots p left 0 := ⟨_, rfl⟩
      rw [← hsp] at eM
      have hspl : sp.length = (left.filter p).length := by rw [hsp]; exact spots_len p left 0
      have hfl := List.length_filter_le p left
      have hval : sp.map (fun k => left.getD k 0) = left.filter p := by rw [hsp]; exact spots_vals p [] left 0 rfl
      have hlt : ∀ k ∈ sp, k < left.length := fun k hk => by
        rw [hsp] at hk
        have := spots_lt p left 0 k hk
        omega
      refine gn_norm (σ' := [some (.ref wl), some (.ref lg), some (.ref L), none, some (.ref D), some (.str kd), t6, some (.ref M), t8, t9, t10]) rfl ?_
      have nMD : D ≠ M := ne_of_none eD hM
      have nMw : M ≠ wl := (Dc.well.ne hM).symm
      -- sorted
      refine ⟨_, rfl, M, rfl, ⟨_, SqL.of eM⟩, fun M2 hM2 => ?_⟩
      refine lc_list (K := K) (a := M) (xs := natV sp) (fun j Hd => Hd M2 = some (.lst (natV ((left.filter p).take j))) ∧ Same H4 Hd) ⟨upd_same, same_new hM2⟩ (fun j Hd _ ⟨_, sd⟩ => SqL.of (sd _ _ eM)) ?_ ?_
      · rintro j u Hd hu ⟨eM2, sd⟩
        obtain ⟨s, hs, rfl⟩ := nat_at hu
        have hjl : j < sp.length := (List.getElem?_eq_some_iff.mp hs).1
        have hsl := hlt s (List.mem_of_getElem? hs)
        have hy : left[s]? = some left[s] := List.getElem?_eq_getElem hsl
        have hf : (left.filter p)[j]? = some left[s] := by
          rw [← hval, List.getElem?_map, hs]
          show some (left.getD s 0) = _
          rw [List.getD_eq_getElem?_getD, hy]
          rfl
        refine ⟨rfl, tyes ?_⟩
        refine ⟨_, rfl, _, rfl, D, _, _, _, rfl, rfl, SqL.of (sd _ _ (s4 _ _ eD)), atI_nat (nat_get hy), ?_⟩
        refine ⟨_, eM2, by rw [List.length_map, List.length_take]; exact small1000 (by omega), ?_, same_mut sd hM2⟩
        rw [upd_same, List.take_add_one, hf]
        show _ = some (HO.lst (List.map _ (_ ++ _)))
        rw [List.map_append]
        rfl
      rintro H5 ⟨eM2, s5⟩
      rw [List.length_map, hspl, List.take_length] at eM2
      refine ⟨M2, (left.filter p).map fun i => ((i : Nat) : Int), rfl, SqL.of (by rw [List.map_map]; exact eM2), fun ns' p5 perm srt hp5 => ?_⟩
      obtain ⟨so, rfl, pso, sso⟩ := nat_perm perm srt
      rw [List.map_map]
      have S6 : Same H5 (upd H5 p5 (.lst (so.map (V.int ∘ fun i => ((i : Nat) : Int))))) := same_new hp5
      have e6 : (upd H5 p5 (.lst (so.map (V.int ∘ fun i => ((i : Nat) : Int))))) p5 = some (.lst (natV so)) := upd_same
      generalize upd H5 p5 (.lst (so.map (V.int ∘ fun i => ((i : Nat) : Int)))) = H6 at S6 e6
      have s46 := (s4.trans s5).trans S6
      have D6 := Dc.trans (Dr.ofSame' Dc.well s46)
      have eM6 := (s5.trans S6) _ _ eM
      have hsol : so.length = sp.length := by rw [pso.length_eq, hspl]
      have hpv : ∀ v ∈ so, p v = true := fun v hv => (List.mem_filter.mp (pso.mem_iff.mp hv)).2
      have nDp : D ≠ p5 := ne_of_none ((s4.trans s5) _ _ eD) hp5
      refine gn_norm (σ' := [some (.ref wl), some (.ref lg), some (.ref L), none, some (.ref D), some (.str kd), t6, some (.ref M), some (.ref p5), t9, t10]) rfl ?_
      -- put
      refine ⟨_, rfl, _, rfl, M, p5, _, _, rfl, SqL.of eM6, SqL.of e6, RZ.for_zipL (K := K) (a := M) (b := p5) (xs := natV sp) (ys := natV so) (by rw [List.length_map, List.length_map, hsol]) (fun j σ Hd => ∃ t9 t10 : Option V, σ = [some (.ref wl), some (.ref lg), some (.ref L), none, some (.ref D), some (.str kd), t6, some (.ref M), some (.ref p5), t9, t10] ∧ Dr wl H Hd ∧ Hd lk = some (.lst [.str "in", .str "out"]) ∧ Hd M = some (.lst (natV sp)) ∧ Hd p5 = some (.lst (natV so)) ∧ Hd D = some (.lst (natV (refill p left (so.take j)))))
        ⟨_, _, rfl, D6, s46 _ _ ek, eM6, e6, by rw [List.take_zero, refill_nil]; exact s46 _ _ eD⟩ (fun j σ Hd ⟨_, _, _, _, _, a, b, _⟩ => ⟨SqL.of a, SqL.of b⟩) ?_ ?_⟩
      · rintro j x y T σ Hd hx hy ⟨t9, t10, rfl, Dd, ekd, eMd, e5d, eDd⟩ hT
        obtain ⟨s, hs, rfl⟩ := nat_at hx
        obtain ⟨vv, hvv, rfl⟩ := nat_at hy
        have nTD : D ≠ T := ne_of_none eDd hT
        refine ⟨T, _, rfl, .inl (.inl upd_same), rfl, _, _, rfl, _, _, rfl, rfl, ?_⟩
        have sT : Same Hd (upd Hd T (.tup [.int (s : Nat), .int (vv : Nat)])) := same_new hT
        have DT : Dr wl H (upd Hd T (.tup [.int (s : Nat), .int (vv : Nat)])) := Dd.trans (Dr.new Dd.well hT)
        generalize upd Hd T (.tup [.int (s : Nat), .int (vv : Nat)]) = He at sT DT
        have hsl := hlt s (List.mem_of_getElem? hs)
        refine ⟨_, rfl, _, rfl, _, rfl, D, _, _, s, rfl, rfl, sT _ _ eDd, Evl.ixN_nat (by rw [List.length_map, refill_len]; exact hsl), ?_⟩
        refine ⟨_, _, rfl, DT.mut hD0 nDw, by rw [upd_ne nDk.symm]; exact sT _ _ ekd, by rw [upd_ne nMD.symm]; exact sT _ _ eMd, by rw [upd_ne nDp.symm]; exact sT _ _ e5d, ?_⟩
        rw [upd_same, ← List.map_set]
        have := (refill_set p left 0 so j s vv (by rw [← hsp]; exact hs) hvv).1
        rw [Nat.sub_zero] at this
        rw [this]
      · rintro σ Hd ⟨t9, t10, rfl, Dd, ekd, eMd, e5d, eDd⟩
        rw [List.length_map, ← hsol, List.take_length] at eDd
        have pr : (refill p left so).Perm left := refill_perm p pso
        have f1 := refill_p p pso.length_eq hpv
        refine ⟨_, _, _, _, _, _, refill p left so, rfl, Dd, ekd, eDd, pr.trans pl, fun h1 => ?_, fun h1 => ?_⟩
        · rcases hkd with ⟨rfl, rfl⟩ | ⟨rfl, rfl⟩
          · rw [← hp, f1]
            exact sorted_plc "in" pl (by rw [← hp]; exact pso) sso
          · rw [refill_q p _ (fun x hx => by
              rw [hp] at hx
              rw [of_decide_eq_true hx]
              decide +kernel) hpv]
            exact hin (Nat.le_refl _)
        · rcases hkd with ⟨rfl, rfl⟩ | ⟨rfl, rfl⟩
          · omega
          · rw [← hp, f1]
            exact sorted_plc "out" pl (by rw [← hp]; exact pso) sso
    · rintro σ Hc ⟨t5, t6, t7, t8, t9, t10, left, rfl, Dc, ek, eD, pl, hin, hout⟩
      have A : Anew gs left := ⟨pl, hin (by decide), hout (by decide)⟩
      have ll := A.len
      refine ⟨_, rfl, D, _, rfl, SqL.of eD, fun M hM => ?_⟩
      refine lc_it (walk_enum (K := K) (a := D) (xs := natV left)) (fun k Hd => ∃ ps : List Addr, Hd M = some (.lst (ps.map V.ref)) ∧ All2 (fun p kv => SqT K Hd p [kV kv.1, kv.2]) ps ((newD left).take k) ∧ Same Hc Hd) ⟨[], upd_same, All2.nil, same_new hM⟩ (fun k Hd _ ⟨_, _, _, sd⟩ => SqL.of (sd _ _ eD)) ?_ ?_
      · rintro k x Hd Hd' hk ⟨ps, eM, ap, sd⟩ ⟨T, x1, y, rfl, hT, rfl, ex, ey⟩
        cases ex
        obtain ⟨n, hn, rfl⟩ := nat_at ey
        have hkl : k < left.length := (List.getElem?_eq_some_iff.mp hn).1
        have hix : left.idxOf n = k := by
          obtain ⟨h1, h2⟩ := List.getElem?_eq_some_iff.mp hn
          rw [← h2]
          exact List.Nodup.idxOf_getElem A.nd k h1
        have hpl : ps.length = k := by
          rw [ap.1, List.length_take]
          unfold newD
          rw [List.length_map]
          omega
        have sT : Same Hd (upd Hd T (.tup [.int (k : Nat), .int (n : Nat)])) := same_new hT
        have eT : (upd Hd T (.tup [.int (k : Nat), .int (n : Nat)])) T = some (.tup [.int (k : Nat), .int (n : Nat)]) := upd_same
        generalize upd Hd T (.tup [.int (k : Nat), .int (n : Nat)]) = He at sT eT
        refine ⟨T, _, rfl, .inl (.inl eT), rfl, _, _, rfl, _, _, rfl, rfl, rfl, tyes ?_⟩
        refine ⟨_, rfl, _, rfl, (by show 2 ≤ sizeLine; decide), fun t ht => ?_⟩
        have st : Same He (upd He t (.tup [.int (n : Nat), .int (k : Nat)])) := same_new ht
        have et : (upd He t (.tup [.int (n : Nat), .int (k : Nat)])) t = some (.tup [.int (n : Nat), .int (k : Nat)]) := upd_same
        generalize upd He t (.tup [.int (n : Nat), .int (k : Nat)]) = Hf at st et
        have eMf := (sT.trans st) _ _ eM
        have nMt : t ≠ M := fun z => by rw [z, eMf] at et; cases et
        refine ⟨_, eMf, by rw [List.length_map, hpl]; exact small1000 (by omega), ps ++ [t], by rw [upd_same, List.map_append]; rfl, ?_, same_mut (sd.trans (sT.trans st)) hM⟩
        have hnd : (newD left)[k]? = some (Sum.inl ((n : Nat) : Int), V.int ((k : Nat) : Int)) := by
          unfold newD
          rw [List.getElem?_map, hn]
          show some (_, V.int ((left.idxOf n : Nat) : Int)) = _
          rw [hix]
        rw [List.take_add_one, hnd]
        have tk : TK Hd (upd Hf M (.lst (ps.map V.ref ++ [.ref t]))) := (TK.same (sT.trans st)).trans (TK.lst eMf)
        refine All2.snoc (ap.imp fun _ _ r => tk.seq r) ?_
        exact SqT.of (by rw [upd_ne nMt]; exact et)
      rintro H7 ⟨ps, eM, ap, s7⟩
      rw [List.length_map, show left.length = (newD left).length by unfold newD; rw [List.length_map], List.take_length] at ap
      refine ⟨M, ps, newD left, rfl, SqL.of eM, paired_of ap, fun p hp => ?_⟩
      rw [merge_newD A.nd]
      exact q p left _ A ((Dc.trans (Dr.ofSame' Dc.well s7)).trans (Dr.new (Dr.ofSame' Dc.well s7).well hp)) (Dc.free hw (s7.free hp)) upd_same
end
end Lag

set_option maxRecDepth 100000
set_option maxHeartbeats 8000000
namespace Lag
open PySem PySem.Spec PyProof.Rows L2
abbrev sTurn : Stmt := topS 56 -- @_law_turned
/-- the dict of old numbers -/
def oldD (left : List Nat) : List (Key × V) := left.map fun n => (Sum.inl ((left.idxOf n : Nat) : Int), V.int ((n : Nat) : Int))
theorem valV_fn2 {f : Nat → V} {h : Nat → Nat} {a : Nat} : ∀ {l : List Nat}, a ∈ l → (∀ x ∈ l, h x = h a → x = a) → valV (l.map fun n => ((Sum.inl ((h n : Nat) : Int) : Key), f n)) (.inl ((h a : Nat) : Int)) = some (f a)
  | [], m, _ => by cases m
  | x :: l, m, inj => by
    rw [List.map_cons]
    by_cases e : x = a
    · rw [e]
      exact valV_pos rfl
    · rw [valV_neg (fun z => e (inj x (List.mem_cons_self ..) (by
        have : ((h x : Nat) : Int) = ((h a : Nat) : Int) := Sum.inl.inj z
        omega)))]
      rcases List.mem_cons.mp m with rfl | m
      · exact absurd rfl e
      · exact valV_fn2 m fun y hy => inj y (List.mem_cons_of_mem _ hy)
theorem Anew.old {gs : List Gt} {left : List Nat} (A : Anew gs left) {k : Nat} (h : k < left.length) : valV (oldD left) (.inl ((k : Nat) : Int)) = some (.int ((left.getD k 0 : Nat) : Int)) := by
  obtain ⟨h1, h2⟩ := A.back h
  have := valV_fn2 (f := fun n => V.int ((n : Nat) : Int)) (h := fun n => left.idxOf n) (A.mem h1) (l := left) (fun x hx e => A.inj (A.lt hx) h1 e)
  simp only [h2] at this
  exact this
theorem Anew.merge_old {gs : List Gt} {left : List Nat} (A : Anew gs left) : mergeK [] (oldD left) = oldD left := by
  refine mergeK_nodup _ [] ?_
  show ((oldD left).map Prod.fst).Nodup
  unfold oldD
  rw [List.map_map]
  refine List.pairwise_map.mpr ?_
  refine List.Pairwise.imp_of_mem (fun {a b} ha hb n z => n ?_) A.nd
  have : ((left.idxOf a : Nat) : Int) = ((left.idxOf b : Nat) : Int) := Sum.inl.inj z
  exact A.inj (A.lt ha) (A.lt hb) (by omega)
def spTurn (K : PySem.W.Frag) : Sp := fun vs H Q _ => ∃ (lg lw nd : Addr) (gs : List Gt) (ws : List Wr) (left : List Nat), vs = [.ref lg, .ref lw, .ref nd] ∧ LG K H lg gs ∧ LW K H lw ws ∧ Anew gs left ∧ H nd = some (.dK (newD left)) ∧ gs.length ≤ 100 ∧ ws.length ≤ 900 ∧ (∀ x ∈ ws, x.1 < gs.length ∧ x.2.1 < gs.length) ∧
  ∀ t l1 l2 H', Same H H' → H l1 = none → H l2 = none → LG K H' l1 (anG left gs) → LW K H' l2 (ws.map (anW left)) → H' t = some (.tup [.ref l1, .ref l2]) → Q (.ref t) H'
section
variable {P : Program} {w : World} {K : PySem.W.Frag} {mg : Str → Option Value} {base : Heap}
abbrev nTurn : List Str := ["_law_gates", "_law_wires", "_law_new", "_law_number", "_law_place", "_law_old", "_law_k", "_law_some", "_law_start", "_law_end", "_law_regs"]
theorem scTurn : FnScope nTurn ["_law_gates", "_law_wires", "_law_new"] (defScope sTurn) := ⟨rfl, rfl, rfl, by decide +kernel, rfl, by decide +kernel, by decide +kernel⟩
abbrev DTurn (P : Program) (w : World) (K : PySem.W.Frag) (mg : Str → Option Value) (base : Heap) := Df P w K mg base 1 "_law_turned" ["_law_gates", "_law_wires", "_law_new"] (spTurn K)
theorem ok_turn {f : Addr} {fd : FuncData} (F : Fun K "_law_turned" "_law_turned" sTurn f fd) (hm : mg "_law_turned" = some (.ref f)) (B : Bt mg) (mdi : mg "dict" = none) : DTurn P w K mg base f fd := by
  refine ⟨?_, hm, F.kp, F.binds fun _ _ _ _ _ _ us hl => match us, hl with | [_, _, _], _ => rfl⟩
  refine F.ok scTurn (fun vs H Q E h => ?_) (fun cdv A outer s H vs Q E hr h => ?_)
  · obtain ⟨lg, lw, nd, gs, ws, left, rfl, _⟩ := h
    rfl
  · obtain ⟨lg, lw, nd, gs, ws, left, rfl, GG, WW, AN, hnd, hgl, hwl, hends, q⟩ := h
    have nd' := scTurn.nd
    refine ⟨_, pss_cons (ps_set (i := 5) nd' rfl (.inr rfl) (pe_callTy (call_dictP rfl) (by rfl) mdi (by decide +kernel) (pa_cons (pe_lock (pe_lc (own := [("_law_number", 3), ("_law_place", 4)]) (g := (gTup K 2 (gCons (gName 3) (gCons (gName 4) gNil)))) (tt := tYes) (te := (tTup (tCons (tVar 4) (tCons (tVar 3) tNil)))) rfl nd' (pi_items (pv 2)) (blkOk_by (N := nTurn) (sc := defScope sTurn) (own := [("_law_number", 3), ("_law_place", 4)]) (by decide +kernel)) (fun _ _ _ _ _ => (pg_tup rfl (pgs_cons (pg_name (i := 3) nd' rfl (.inl rfl)) (pgs_cons (pg_name (i := 4) nd' rfl (.inl rfl)) pgs_nil)))) (fun _ _ _ _ _ => pts_nil) (fun _ _ _ _ _ => (pe_tup (pa_cons (pv 4) (pa_cons (pv 3) pa_nil)))))) pa_nil))) <|
        pss_cons (ps_setLc (i := 7) (own := [("_law_k", 6)]) (g := (gName 6)) (tt := tYes) (te := (tOp (rIxL K) (tVar 0) (tDGet (tVar 5) (tVar 6)))) rfl nd' rfl rfl (sw_true rfl rfl rfl (by decide +kernel)) (pi_range1 (by rfl) B.range (pa_cons (pe_callB call_len_seq (by rfl) B.len PySem.boot_len (pa_cons (pv 0) pa_nil)) pa_nil)) (blkOk_by (N := nTurn) (sc := defScope sTurn) (own := [("_law_k", 6)]) (by decide +kernel)) (fun _ _ _ _ _ => (pg_name (i := 6) nd' rfl (.inl rfl))) (fun _ _ _ _ _ => pts_nil) (fun _ _ _ _ _ => (pe_ix ix_list (pv 0) (pe_dget (hu_of hr) (pv 5) (pv 6) (fun _ _ => rfl)) (fun _ _ => rfl)))) <|
        pss_one (ps_ret (pe_tup (pa_cons (pv 7) (pa_cons (pe_lc (own := [("_law_start", 8), ("_law_end", 9), ("_law_regs", 10)]) (g := (gTup K 3 (gCons (gName 8) (gCons (gName 9) (gCons (gName 10) gNil))))) (tt := tYes) (te := (tTup (tCons (tDGet (tVar 2) (tVar 8)) (tCons (tDGet (tVar 2) (tVar 9)) (tCons (tVar 10) tNil))))) rfl nd' (pi_list (pv 1)) (blkOk_by (N := nTurn) (sc := defScope sTurn) (own := [("_law_start", 8), ("_law_end", 9), ("_law_regs", 10)]) (by decide +kernel)) (fun _ _ _ _ _ => (pg_tup rfl (pgs_cons (pg_name (i := 8) nd' rfl (.inl rfl)) (pgs_cons (pg_name (i := 9) nd' rfl (.inl rfl)) (pgs_cons (pg_name (i := 10) nd' rfl (.inl rfl)) pgs_nil))))) (fun _ _ _ _ _ => pts_nil) (fun _ _ _ _ _ => (pe_tup (pa_cons (pe_dget (hu_of hr) (pv 2) (pv 8) (fun _ _ => rfl)) (pa_cons (pe_dget (hu_of hr) (pv 2) (pv 9) (fun _ _ => rfl)) (pa_cons (pv 10) pa_nil)))))) pa_nil)))), ?_⟩
    obtain ⟨gv, hgv, ga⟩ := id GG
    obtain ⟨wv, hwv, wa⟩ := id WW
    have hgvl : gv.length = gs.length := ga.1
    have hwvl : wv.length = ws.length := wa.1
    have hll := AN.len
    -- old
    refine ⟨nd, _, hnd, trivial, fun od => ?_⟩
    have keep : ∀ b o, b ≠ nd → H b = some o → (upd H nd (.frz od (.dK (newD left)))) b = some o := fun b o n e => by rw [upd_ne n]; exact e
    have back : ∀ b o, b ≠ nd → (upd H nd (.frz od (.dK (newD left)))) b = some o → H b = some o := fun b o n e => by rw [upd_ne n] at e; exact e
    have ef : (upd H nd (.frz od (.dK (newD left)))) nd = some (.frz od (.dK (newD left))) := upd_same
    have fresh : ∀ b, (upd H nd (.frz od (.dK (newD left)))) b = none → H b = none := fun b e => by
      by_cases hb : b = nd
      · rw [hb, ef] at e
        cases e
      · rw [upd_ne hb] at e
        exact e
    generalize upd H nd (.frz od (.dK (newD left))) = Hf at keep ef fresh
    refine ⟨_, rfl, nd, od, _, rfl, ef, fun M hM => ?_⟩
    have hM0 := fresh M hM
    have nMd : nd ≠ M := ne_of_none ef hM
    have hnl : (newD left).length = left.length := by unfold newD; rw [List.length_map]
    refine lc_it (walk_items (o := od) (d := nd) (kvs := newD left)) (fun k Hd => ∃ ps : List Addr, Hd M = some (.lst (ps.map V.ref)) ∧ All2 (fun p kv => Hd p = some (.tup [kV kv.1, kv.2])) ps ((oldD left).take k) ∧ Hd nd = some (.frz od (.dK (newD left))) ∧ (∀ b o, b ≠ nd → H b = some o → Hd b = some o) ∧ M ∉ ps) ⟨[], upd_same, All2.nil, by rw [upd_ne nMd]; exact ef, fun b o n e => by rw [upd_ne (ne_of_none (keep b o n e) hM)]; exact keep b o n e, fun z => by cases z⟩ (fun k Hd _ ⟨_, _, _, e, _⟩ => e) ?_ ?_
    · rintro k x Hd Hd' hk ⟨ps, eM, ap, efd, kd, nps⟩ ⟨T, x1, y, rfl, hT, rfl, ex, ey⟩
      have hkl : k < left.length := by omega
      have hn : left[k]? = some left[k] := List.getElem?_eq_getElem hkl
      have hix : left.idxOf left[k] = k := List.Nodup.idxOf_getElem AN.nd k hkl
      generalize left[k] = n at hn hix
      have hnw : (newD left)[k]? = some (Sum.inl ((n : Nat) : Int), V.int ((k : Nat) : Int)) := by
        unfold newD
        rw [List.getElem?_map, hn]
        show some (_, V.int ((left.idxOf n : Nat) : Int)) = _
        rw [hix]
      simp only [hnw, Option.map_some] at ex ey
      cases ex
      cases ey
      have hold : (oldD left)[k]? = some (Sum.inl ((k : Nat) : Int), V.int ((n : Nat) : Int)) := by
        unfold oldD
        rw [List.getElem?_map, hn]
        show some (Sum.inl ((left.idxOf n : Nat) : Int), _) = _
        rw [hix]
      have hpl : ps.length = k := by
        rw [ap.1, List.length_take]
        unfold oldD
        rw [List.length_map]
        omega
      have sT : Same Hd (upd Hd T (.tup [kV (Sum.inl ((n : Nat) : Int)), .int (k : Nat)])) := same_new hT
      have eT : (upd Hd T (.tup [kV (Sum.inl ((n : Nat) : Int)), .int (k : Nat)])) T = some (.tup [.int (n : Nat), .int (k : Nat)]) := upd_same
      generalize upd Hd T (.tup [kV (Sum.inl ((n : Nat) : Int)), .int (k : Nat)]) = He at sT eT
      refine ⟨T, _, rfl, .inl (.inl eT), rfl, _, _, rfl, _, _, rfl, rfl, rfl, tyes ?_⟩
      refine ⟨_, rfl, _, rfl, (by show 2 ≤ sizeLine; decide), fun t ht => ?_⟩
      have st : Same He (upd He t (.tup [.int (k : Nat), .int (n : Nat)])) := same_new ht
      have et : (upd He t (.tup [.int (k : Nat), .int (n : Nat)])) t = some (.tup [.int (k : Nat), .int (n : Nat)]) := upd_same
      generalize upd He t (.tup [.int (k : Nat), .int (n : Nat)]) = Hg at st et
      have sTt := sT.trans st
      have eMf := sTt _ _ eM
      have nMt : t ≠ M := fun z => by rw [z, eMf] at et; cases et
      refine ⟨_, eMf, by rw [List.length_map, hpl]; exact small1000 (by omega), ps ++ [t], by rw [upd_same, List.map_append]; rfl, ?_, by rw [upd_ne nMd]; exact sTt _ _ efd, fun b o n e => by rw [upd_ne (ne_of_none e hM0)]; exact sTt _ _ (kd b o n e), fun z => ?_⟩
      · rw [List.take_add_one, hold]
        refine All2.snoc (ap.imp' fun p kv hp r => ?_) (by rw [upd_ne nMt]; exact et)
        rw [upd_ne (fun z => nps (by rw [← z]; exact hp))]
        exact sTt _ _ r
      · rcases List.mem_append.mp z with z | z
        · exact nps z
        · exact nMt (List.mem_singleton.mp z).symm
    rintro H7 ⟨ps, eM, ap, efd, kd, nps⟩
    rw [hnl, show left.length = (oldD left).length by unfold oldD; rw [List.length_map], List.take_length] at ap
    refine ⟨efd, ?_⟩
    have S8 : Same H (upd H7 nd (.dK (newD left))) := fun b o e => by
      by_cases hb : b = nd
      · rw [hb] at e ⊢
        rw [upd_same]
        rw [hnd] at e
        exact e
      · rw [upd_ne hb]
        exact kd b o hb e
    have eM8 : (upd H7 nd (.dK (newD left))) M = some (.lst (ps.map V.ref)) := by rw [upd_ne nMd.symm]; exact eM
    have ap8 : All2 (fun p kv => SqT K (upd H7 nd (.dK (newD left))) p [kV kv.1, kv.2]) ps (oldD left) := ap.imp fun p kv r => SqT.of (by
      rw [upd_ne (fun z => by rw [z, efd] at r; cases r)]
      exact r)
    generalize upd H7 nd (.dK (newD left)) = H8 at S8 eM8 ap8
    refine ⟨M, ps, oldD left, rfl, SqL.of eM8, paired_of ap8, fun p hp => ?_⟩
    rw [AN.merge_old]
    have S9 := S8.trans (same_new (o := .dK (oldD left)) hp)
    have e9 : (upd H8 p (.dK (oldD left))) p = some (.dK (oldD left)) := upd_same
    generalize upd H8 p (.dK (oldD left)) = H9 at S9 e9
    refine gn_norm (σ' := [some (.ref lg), some (.ref lw), some (.ref nd), none, none, some (.ref p), none, none, none, none, none]) rfl ?_
    -- gates
    refine ⟨_, rfl, lg, gv, rfl, .inl (SqL.of (S9 _ _ hgv)), _, rfl, by omega, by omega, fun D4 hD4 => ?_⟩
    rw [hgvl, Int.toNat_natCast]
    refine lc_range (lo := 0) (n := gs.length) (fun i Hc => ∃ acc, Hc D4 = some (.lst acc) ∧ All2 (GateV K H) acc ((anG left gs).take i) ∧ Same H9 Hc) ⟨[], upd_same, All2.nil, same_new hD4⟩ ?_ ?_
    · rintro i Hc hi ⟨acc, hacc, haa, sm⟩
      have ei : (0 : Int) + (i : Nat) = ((i : Nat) : Int) := Int.zero_add _
      rw [ei]
      have hil : i < left.length := by omega
      have ho := AN.old hil
      have hx := (AN.back hil).1
      have han : (anG left gs)[i]? = some (gs.getD (left.getD i 0) ("", 0)) := by
        unfold anG
        rw [List.getElem?_map, List.getElem?_eq_getElem hil, List.getD_eq_getElem?_getD (l := left), List.getElem?_eq_getElem hil]
        rfl
      have hal : acc.length = i := by
        rw [haa.1, List.length_take, anG_len AN]
        omega
      generalize left.getD i 0 = n at ho hx han
      have hd := DGet.k (k := Sum.inl ((i : Nat) : Int)) (sm _ _ e9)
      rw [ho] at hd
      refine ⟨rfl, tyes ?_⟩
      refine ⟨_, rfl, _, rfl, _, rfl, p, _, rfl, hd, lg, gv, n, gv[n]'(by omega), rfl, rfl, SqL.of (sm _ _ (S9 _ _ hgv)), atI_nat (List.getElem?_eq_getElem (by omega)), ?_⟩
      refine ⟨acc, hacc, small1000 (by omega), acc ++ [gv[n]'(by omega)], upd_same, ?_, same_mut sm hD4⟩
      rw [List.take_add_one, han]
      refine haa.snoc ?_
      show GateV K H _ (gs.getD n ("", 0))
      rw [List.getD_eq_getElem?_getD, List.getElem?_eq_getElem hx]
      exact ga.2 n _ _ (List.getElem?_eq_getElem (by omega)) (List.getElem?_eq_getElem hx)
    rintro H10 ⟨gacc, hgacc, hga4, sm10⟩
    rw [← anG_len AN, List.take_length] at hga4
    refine gn_norm (σ' := [some (.ref lg), some (.ref lw), some (.ref nd), none, none, some (.ref p), none, some (.ref D4), none, none, none]) rfl ?_
    -- wires
    refine ⟨_, rfl, _, rfl, lw, rfl, ⟨_, SqL.of (sm10 _ _ (S9 _ _ hwv))⟩, fun D5 hD5 => ?_⟩
    refine lc_list (K := K) (a := lw) (xs := wv) (fun i Hc => ∃ acc, Hc D5 = some (.lst acc) ∧ acc.length = i ∧ All2 (WireV K Hc) acc ((ws.take i).map (anW left)) ∧ Same H10 Hc)
      ⟨[], upd_same, rfl, by simpa using All2.nil, same_new hD5⟩ (fun i Hc _ ⟨_, _, _, _, sm⟩ => SqL.of (sm _ _ (sm10 _ _ (S9 _ _ hwv)))) ?_ ?_
    · rintro i x Hc hx ⟨acc, hacc, hal, haa, sm⟩
      obtain ⟨y, hy, xa, xb, rfl, sq1, sq2⟩ := wa.get hx
      have hyi : i < ws.length := (List.getElem?_eq_some_iff.mp hy).1
      have W := hends y (List.mem_of_getElem? hy)
      have sH := S9.trans (sm10.trans sm)
      have tc : TK H Hc := TK.same sH
      have d1 := DGet.k (k := Sum.inl ((y.1 : Nat) : Int)) (sH _ _ hnd)
      rw [newD_at (AN.mem W.1)] at d1
      have d2 := DGet.k (k := Sum.inl ((y.2.1 : Nat) : Int)) (sH _ _ hnd)
      rw [newD_at (AN.mem W.2)] at d2
      refine ⟨xa, _, rfl, tc.seq sq1, rfl, _, _, rfl, _, _, rfl, _, _, rfl, rfl, rfl, tyes ?_⟩
      refine ⟨_, rfl, _, rfl, nd, _, rfl, d1, _, rfl, _, rfl, nd, _, rfl, d2, _, rfl, (by show 3 ≤ sizeLine; decide), fun t ht => ?_⟩
      have smt : Same Hc (upd Hc t (.tup [.int (left.idxOf y.1 : Nat), .int (left.idxOf y.2.1 : Nat), .ref xb])) := same_new ht
      have hDt : (upd Hc t (.tup [.int (left.idxOf y.1 : Nat), .int (left.idxOf y.2.1 : Nat), .ref xb])) D5 = some (.lst acc) := smt _ _ hacc
      have ntD : t ≠ D5 := fun z => by
        rw [z, hacc] at ht
        cases ht
      refine ⟨acc, hDt, small1000 (by omega), acc ++ [.ref t], upd_same, by simp [hal], ?_, same_mut (sm.trans smt) hD5⟩
      have t2 : TK Hc (upd (upd Hc t (.tup [.int (left.idxOf y.1 : Nat), .int (left.idxOf y.2.1 : Nat), .ref xb])) D5 (.lst (acc ++ [.ref t]))) := (TK.new ht).trans (TK.lst hDt)
      rw [List.take_add_one, hy, List.map_append]
      refine (haa.imp fun _ _ r => r.tk t2).snoc ⟨t, xb, rfl, .inl (.inl (by rw [upd_ne ntD]; exact upd_same)), (tc.trans t2).seq sq2⟩
    rintro H11 ⟨wacc, hwacc, hwl5, hwa5, sm11⟩
    rw [hwvl, List.take_length] at hwa5
    refine ⟨(by show 2 ≤ sizeLine; decide), fun t ht => ?_⟩
    have smp : Same H11 (upd H11 t (.tup [.ref D4, .ref D5])) := same_new ht
    have sE := ((S9.trans sm10).trans sm11).trans smp
    exact q t D4 D5 _ sE (S9.free hD4) ((S9.trans sm10).free hD5) ⟨gacc, smp _ _ (sm11 _ _ hgacc), hga4.imp fun _ _ r => r.tk (TK.same sE)⟩ ⟨wacc, smp _ _ hwacc, hwa5.imp fun _ _ r => r.tk (TK.same smp)⟩ upd_same
end
end Lag

set_option maxRecDepth 100000
set_option maxHeartbeats 8000000
namespace Lag
open PySem PySem.Spec PyProof.Rows L2
abbrev sParted : Stmt := topS 57 -- @_law_parted
theorem all2_take {α β : Type} {R : α → β → Prop} {xs : List α} {ys : List β} (h : All2 R xs ys) (n : Nat) : All2 R (xs.take n) (ys.take n) := ⟨by rw [List.length_take, List.length_take, h.1], fun i x y hx hy => by
  rw [List.getElem?_take] at hx hy
  split at hx
  · rw [if_pos (by assumption)] at hy
    exact h.2 i x y hx hy
  · cases hx⟩
theorem all2_drop {α β : Type} {R : α → β → Prop} {xs : List α} {ys : List β} (h : All2 R xs ys) (n : Nat) : All2 R (xs.drop n) (ys.drop n) := ⟨by rw [List.length_drop, List.length_drop, h.1], fun i x y hx hy => by
  rw [List.getElem?_drop] at hx hy
  exact h.2 _ x y hx hy⟩
theorem all2_app {α β : Type} {R : α → β → Prop} {xs xs' : List α} {ys ys' : List β} (h : All2 R xs ys) (h' : All2 R xs' ys') : All2 R (xs ++ xs') (ys ++ ys') := ⟨by rw [List.length_append, List.length_append, h.1, h'.1], fun i x y hx hy => by
  by_cases hi : i < xs.length
  · rw [List.getElem?_append_left hi] at hx
    rw [List.getElem?_append_left (by rw [← h.1]; exact hi)] at hy
    exact h.2 i x y hx hy
  · rw [List.getElem?_append_right (by omega)] at hx
    rw [List.getElem?_append_right (by rw [← h.1]; omega), ← h.1] at hy
    exact h'.2 _ x y hx hy⟩
theorem all2_one {α β : Type} {R : α → β → Prop} {x : α} {y : β} (h : R x y) : All2 R [x] [y] := ⟨rfl, fun i a b ha hb => by
  match i, ha, hb with
  | 0, ha, hb =>
    cases ha
    cases hb
    exact h⟩
def spParted (K : PySem.W.Frag) : Sp := fun vs H Q _ => ∃ (wl lg lw : Addr) (gs : List Gt) (ws : List Wr), vs = [.ref wl, .ref lg, .ref lw] ∧ WellAt wl H ∧ lg ≠ wl ∧ lw ≠ wl ∧ LG K H lg gs ∧ LW K H lw ws ∧ gs.length ≤ 50 ∧ ws.length ≤ 500 ∧ ws ≠ [] ∧ (∀ x ∈ ws, x.2.2.length ≤ 100) ∧
  ∀ t l1 l2 at_ k wt ws2 H', Dr wl H H' → H l1 = none → H l2 = none → Par4 k → 0 ≤ wt → wt ≤ 9 → Prt gs.length at_ ws ws2 → LG K H' l1 (gs ++ [(k, wt)]) → LW K H' l2 ws2 → H' t = some (.tup [.ref l1, .ref l2]) → Q (.ref t) H'
section
variable {P : Program} {w : World} {K : PySem.W.Frag} {mg : Str → Option Value} {base : Heap}
abbrev nParted : List Str := ["_law_well_here", "_law_gates", "_law_wires", "_law_at", "_law_start", "_law_end", "_law_regs", "_law_cut", "_law_kind", "_law_more"]
theorem scParted : FnScope nParted ["_law_well_here", "_law_gates", "_law_wires"] (defScope sParted) := ⟨rfl, rfl, rfl, by decide +kernel, rfl, by decide +kernel, by decide +kernel⟩
abbrev DParted (P : Program) (w : World) (K : PySem.W.Frag) (mg : Str → Option Value) (base : Heap) := Df P w K mg base 3 "_law_parted" ["_law_well_here", "_law_gates", "_law_wires"] (spParted K)
theorem ok_parted {f fD fO : Addr} {fd fdD fdO : FuncData} (F : Fun K "_law_parted" "_law_parted" sParted f fd) (hm : mg "_law_parted" = some (.ref f)) (B : Bt mg) (DD : DDraw P w K mg base fD fdD) (DO : DOne P w K mg base fO fdO) : DParted P w K mg base f fd := by
  refine ⟨?_, hm, F.kp, F.binds fun _ _ _ _ _ _ us hl => match us, hl with | [_, _, _], _ => rfl⟩
  refine F.ok scParted (fun vs H Q E h => ?_) (fun cdv A outer s H vs Q E hr h => ?_)
  · obtain ⟨wl, lg, lw, gs, ws, rfl, _⟩ := h
    rfl
  · obtain ⟨wl, lg, lw, gs, ws, rfl, hw, nlg, nlw, GG, WW, hgl, hwl, hne, hregs, q⟩ := h
    have nd := scParted.nd
    refine ⟨_, pss_cons (ps_set (i := 3) nd rfl (.inl rfl) (pe_call DD.ok (hr.mono (by decide)) (by rfl) DD.mg DD.kp DD.bd .nil pass0 (pa_cons (pv 0) (pa_cons (pe_callB call_len_seq (by rfl) B.len PySem.boot_len (pa_cons (pv 2) pa_nil)) pa_nil)))) <|
        pss_cons (ps_asg (pe_ix ix_list (pv 2) (pv 3) (fun _ _ => rfl)) (pg_tup rfl (pgs_cons (pg_name (i := 4) nd rfl (.inl rfl)) (pgs_cons (pg_name (i := 5) nd rfl (.inl rfl)) (pgs_cons (pg_name (i := 6) nd rfl (.inl rfl)) pgs_nil))))) <|
        pss_cons (ps_set (i := 7) nd rfl (.inl rfl) (pe_call DD.ok (hr.mono (by decide)) (by rfl) DD.mg DD.kp DD.bd .nil pass0 (pa_cons (pv 0) (pa_cons (pe_op op_add (pe_callB call_len_seq (by rfl) B.len PySem.boot_len (pa_cons (pv 6) pa_nil)) pe_int) pa_nil)))) <|
        pss_cons (ps_set (i := 8) nd rfl (.inl rfl) (pe_call DO.ok (hr.mono (by decide)) (by rfl) DO.mg DO.kp DO.bd .nil pass0 (pa_cons (pv 0) (pa_cons (pe_lst (pa_cons pe_str (pa_cons pe_str (pa_cons pe_str (pa_cons pe_str pa_nil))))) pa_nil)))) <|
        pss_cons (ps_set (i := 9) nd rfl (.inl rfl) (pe_op op_cat (pv 1) (pe_lst (pa_cons (pe_tup (pa_cons (pv 8) (pa_cons (pe_call DD.ok (hr.mono (by decide)) (by rfl) DD.mg DD.kp DD.bd .nil pass0 (pa_cons (pv 0) (pa_cons pe_int pa_nil))) pa_nil))) pa_nil)))) <|
        pss_one (ps_ret (pe_tup (pa_cons (pv 9) (pa_cons (pe_op op_cat (pe_op op_cat (pe_op op_cat (pe_slice sl_list (pv 2) po_none (po_some (pv 3))) (pe_lst (pa_cons (pe_tup (pa_cons (pe_callB call_len_seq (by rfl) B.len PySem.boot_len (pa_cons (pv 1) pa_nil)) (pa_cons (pv 5) (pa_cons (pe_slice sl_tupA (pv 6) po_none (po_some (pv 7))) pa_nil)))) pa_nil))) (pe_slice sl_list (pv 2) (po_some (pe_op op_add (pv 3) pe_int)) po_none)) (pe_lst (pa_cons (pe_tup (pa_cons (pv 4) (pa_cons (pe_callB call_len_seq (by rfl) B.len PySem.boot_len (pa_cons (pv 1) pa_nil)) (pa_cons (pe_slice sl_tupA (pv 6) (po_some (pv 7)) po_none) pa_nil)))) pa_nil))) pa_nil)))), ?_⟩
    obtain ⟨gv, hgv, ga⟩ := id GG
    obtain ⟨wv, hwv, wa⟩ := id WW
    have hgvl : gv.length = gs.length := ga.1
    have hwvl : wv.length = ws.length := wa.1
    have hpos : 0 < ws.length := List.length_pos_iff.mpr hne
    refine ⟨_, rfl, _, rfl, lw, wv, rfl, .inl (SqL.of hwv), wl, _, rfl, by omega, by omega, hw, fun d1 H1 d10 d11 D1 => ?_⟩
    obtain ⟨aN, rfl⟩ : ∃ n : Nat, d1 = (n : Int) := ⟨d1.toNat, by omega⟩
    have haN : aN < ws.length := by omega
    refine gn_norm (σ' := [some (.ref wl), some (.ref lg), some (.ref lw), some (.int (aN : Nat)), none, none, none, none, none, none]) rfl ?_
    -- the wire
    obtain ⟨x, hx⟩ : ∃ x, ws[aN]? = some x := ⟨_, List.getElem?_eq_getElem haN⟩
    obtain ⟨u, hu, xa, xb, rfl, sq1, sq2⟩ := wa.getR hx
    have hxr := hregs x (List.mem_of_getElem? hx)
    have t1 : TK H H1 := TK.dr hw D1.but
    refine ⟨_, rfl, _, rfl, lw, wv, aN, _, rfl, rfl, SqL.of (D1.but _ _ nlw hwv), atI_nat hu, ?_⟩
    refine ⟨xa, _, rfl, t1.seq sq1, rfl, _, _, rfl, _, _, rfl, _, _, rfl, rfl, ?_⟩
    refine gn_norm (σ' := [some (.ref wl), some (.ref lg), some (.ref lw), some (.int (aN : Nat)), some (.int (x.1 : Nat)), some (.int (x.2.1 : Nat)), some (.ref xb), none, none, none]) rfl ?_
    have hrl : (x.2.2.map V.int).length = x.2.2.length := List.length_map ..
    refine ⟨_, rfl, _, rfl, xb, _, rfl, .inr (t1.seq sq2), _, _, rfl, rfl, wl, _, rfl, by rw [hrl]; omega, by rw [hrl]; omega, D1.well, fun d2 H2 d20 d21 D2 => ?_⟩
    obtain ⟨cN, rfl⟩ : ∃ n : Nat, d2 = (n : Int) := ⟨d2.toNat, by omega⟩
    have D12 := D1.trans D2
    refine gn_norm (σ' := [some (.ref wl), some (.ref lg), some (.ref lw), some (.int (aN : Nat)), some (.int (x.1 : Nat)), some (.int (x.2.1 : Nat)), some (.ref xb), some (.int (cN : Nat)), none, none]) rfl ?_
    refine ⟨_, rfl, (by show 4 ≤ sizeLine; decide), fun c3 hc3 => ?_⟩
    have S3 : Same H2 (upd H2 c3 (.lst [.str "sum", .str "most", .str "first", .str "least"])) := same_new hc3
    have e3 : (upd H2 c3 (.lst [.str "sum", .str "most", .str "first", .str "least"])) c3 = some (.lst [.str "sum", .str "most", .str "first", .str "least"]) := upd_same
    generalize upd H2 c3 (.lst [.str "sum", .str "most", .str "first", .str "least"]) = G3 at S3 e3
    have D13 := D12.trans (Dr.ofSame' D12.well S3)
    have n3 : c3 ≠ wl := (D12.well.ne hc3).symm
    refine ⟨wl, c3, _, rfl, n3, D13.well, SqL.of e3, by simp, by show 4 < _; decide, fun vk H4 hvk D4 => ?_⟩
    obtain ⟨k, rfl, hk⟩ : ∃ k : Str, vk = .str k ∧ Par4 k := by
      simp only [List.mem_cons, List.not_mem_nil, or_false] at hvk
      rcases hvk with rfl | rfl | rfl | rfl
      · exact ⟨_, rfl, .inl rfl⟩
      · exact ⟨_, rfl, .inr (.inl rfl)⟩
      · exact ⟨_, rfl, .inr (.inr (.inl rfl))⟩
      · exact ⟨_, rfl, .inr (.inr (.inr rfl))⟩
    have D14 := D13.trans D4
    refine gn_norm (σ' := [some (.ref wl), some (.ref lg), some (.ref lw), some (.int (aN : Nat)), some (.int (x.1 : Nat)), some (.int (x.2.1 : Nat)), some (.ref xb), some (.int (cN : Nat)), some (.str k), none]) rfl ?_
    refine ⟨_, rfl, _, rfl, _, rfl, wl, 10, rfl, by decide, by decide, D14.well, fun wt H5 w0 w1 D5 => ?_⟩
    have D15 := D14.trans D5
    have t5 : TK H H5 := TK.dr hw D15.but
    have hg5 := D15.but _ _ nlg hgv
    have hw5 := D15.but _ _ nlw hwv
    clear D1 D2 D12 D13 D4 D14 D5 e3 S3 t1
    refine ⟨(by show 2 ≤ sizeLine; decide), fun c6 hc6 => ?_⟩
    have S6 : Same H5 (upd H5 c6 (.tup [.str k, .int wt])) := same_new hc6
    have e6 : (upd H5 c6 (.tup [.str k, .int wt])) c6 = some (.tup [.str k, .int wt]) := upd_same
    generalize upd H5 c6 (.tup [.str k, .int wt]) = G6 at S6 e6
    refine ⟨(by show 1 ≤ sizeLine; decide), fun c7 hc7 => ?_⟩
    have S7 : Same G6 (upd G6 c7 (.lst [.ref c6])) := same_new hc7
    have e7 : (upd G6 c7 (.lst [.ref c6])) c7 = some (.lst [.ref c6]) := upd_same
    generalize upd G6 c7 (.lst [.ref c6]) = G7 at S7 e7
    refine ⟨lg, c7, _, _, rfl, rfl, (S6.trans S7) _ _ hg5, e7, Nat.le_of_lt (small1000 (by show _ + 1 ≤ _; omega)), fun c8 hc8 => ?_⟩
    have S8 : Same G7 (upd G7 c8 (.lst (gv ++ [.ref c6]))) := same_new hc8
    have e8 : (upd G7 c8 (.lst (gv ++ [.ref c6]))) c8 = some (.lst (gv ++ [.ref c6])) := upd_same
    generalize upd G7 c8 (.lst (gv ++ [.ref c6])) = G8 at S8 e8
    refine gn_norm (σ' := [some (.ref wl), some (.ref lg), some (.ref lw), some (.int (aN : Nat)), some (.int (x.1 : Nat)), some (.int (x.2.1 : Nat)), some (.ref xb), some (.int (cN : Nat)), some (.str k), some (.ref c8)]) rfl ?_
    have T8 := (S6.trans S7).trans S8
    -- the wires
    refine ⟨_, rfl, _, rfl, _, rfl, _, rfl, lw, _, rfl, SqL.of (T8 _ _ hw5), fun c9 hc9 => ?_⟩
    rw [cut_to]
    have S9 : Same G8 (upd G8 c9 (.lst (wv.take aN))) := same_new hc9
    have e9 : (upd G8 c9 (.lst (wv.take aN))) c9 = some (.lst (wv.take aN)) := upd_same
    generalize upd G8 c9 (.lst (wv.take aN)) = G9 at S9 e9
    have T9 := T8.trans S9
    refine ⟨_, rfl, lg, gv, rfl, .inl (SqL.of (T9 _ _ hg5)), _, rfl, _, rfl, _, rfl, _, rfl, slA ((TK.same T9).seq (t5.seq sq2)) fun b1 G10 S10 sb1 => ?_⟩
    rw [cut_to, ← List.map_take] at sb1
    have T10 := T9.trans S10
    refine ⟨(by show 3 ≤ sizeLine; decide), fun c11 hc11 => ?_⟩
    rw [hgvl]
    have S11 : Same G10 (upd G10 c11 (.tup [.int (gs.length : Nat), .int (x.2.1 : Nat), .ref b1])) := same_new hc11
    have e11 : (upd G10 c11 (.tup [.int (gs.length : Nat), .int (x.2.1 : Nat), .ref b1])) c11 = some (.tup [.int (gs.length : Nat), .int (x.2.1 : Nat), .ref b1]) := upd_same
    generalize upd G10 c11 (.tup [.int (gs.length : Nat), .int (x.2.1 : Nat), .ref b1]) = G11 at S11 e11
    refine ⟨(by show 1 ≤ sizeLine; decide), fun c12 hc12 => ?_⟩
    have S12 : Same G11 (upd G11 c12 (.lst [.ref c11])) := same_new hc12
    have e12 : (upd G11 c12 (.lst [.ref c11])) c12 = some (.lst [.ref c11]) := upd_same
    generalize upd G11 c12 (.lst [.ref c11]) = G12 at S12 e12
    have T12 := (T10.trans S11).trans S12
    refine ⟨c9, c12, _, _, rfl, rfl, ((S10.trans S11).trans S12) _ _ e9, e12, Nat.le_of_lt (small1000 (by rw [List.length_take]; show _ + 1 ≤ _; omega)), fun c13 hc13 => ?_⟩
    have S13 : Same G12 (upd G12 c13 (.lst (wv.take aN ++ [.ref c11]))) := same_new hc13
    have e13 : (upd G12 c13 (.lst (wv.take aN ++ [.ref c11]))) c13 = some (.lst (wv.take aN ++ [.ref c11])) := upd_same
    generalize upd G12 c13 (.lst (wv.take aN ++ [.ref c11])) = G13 at S13 e13
    have T13 := T12.trans S13
    refine ⟨_, rfl, _, rfl, _, _, rfl, rfl, _, rfl, lw, _, rfl, SqL.of (T13 _ _ hw5), fun c14 hc14 => ?_⟩
    rw [show ((aN : Nat) : Int) + 1 = ((aN + 1 : Nat) : Int) from rfl, cut_from]
    have S14 : Same G13 (upd G13 c14 (.lst (wv.drop (aN + 1)))) := same_new hc14
    have e14 : (upd G13 c14 (.lst (wv.drop (aN + 1)))) c14 = some (.lst (wv.drop (aN + 1))) := upd_same
    generalize upd G13 c14 (.lst (wv.drop (aN + 1))) = G14 at S14 e14
    refine ⟨c13, c14, _, _, rfl, rfl, S14 _ _ e13, e14, Nat.le_of_lt (small1000 (by rw [List.length_append, List.length_take, List.length_drop]; show _ + 1 + _ ≤ _; omega)), fun c15 hc15 => ?_⟩
    have S15 : Same G14 (upd G14 c15 (.lst (wv.take aN ++ [.ref c11] ++ wv.drop (aN + 1)))) := same_new hc15
    have e15 : (upd G14 c15 (.lst (wv.take aN ++ [.ref c11] ++ wv.drop (aN + 1)))) c15 = some (.lst (wv.take aN ++ [.ref c11] ++ wv.drop (aN + 1))) := upd_same
    generalize upd G14 c15 (.lst (wv.take aN ++ [.ref c11] ++ wv.drop (aN + 1))) = G15 at S15 e15
    have T15 := (T13.trans S14).trans S15
    refine ⟨_, rfl, _, rfl, lg, gv, rfl, .inl (SqL.of (T15 _ _ hg5)), _, rfl, _, rfl, _, rfl, slN ((TK.same T15).seq (t5.seq sq2)) fun b2 G16 S16 sb2 => ?_⟩
    rw [cut_from, ← List.map_drop] at sb2
    have T16 := T15.trans S16
    refine ⟨(by show 3 ≤ sizeLine; decide), fun c17 hc17 => ?_⟩
    rw [hgvl]
    have S17 : Same G16 (upd G16 c17 (.tup [.int (x.1 : Nat), .int (gs.length : Nat), .ref b2])) := same_new hc17
    have e17 : (upd G16 c17 (.tup [.int (x.1 : Nat), .int (gs.length : Nat), .ref b2])) c17 = some (.tup [.int (x.1 : Nat), .int (gs.length : Nat), .ref b2]) := upd_same
    generalize upd G16 c17 (.tup [.int (x.1 : Nat), .int (gs.length : Nat), .ref b2]) = G17 at S17 e17
    refine ⟨(by show 1 ≤ sizeLine; decide), fun c18 hc18 => ?_⟩
    have S18 : Same G17 (upd G17 c18 (.lst [.ref c17])) := same_new hc18
    have e18 : (upd G17 c18 (.lst [.ref c17])) c18 = some (.lst [.ref c17]) := upd_same
    generalize upd G17 c18 (.lst [.ref c17]) = G18 at S18 e18
    have T18 := (T16.trans S17).trans S18
    refine ⟨c15, c18, _, _, rfl, rfl, ((S16.trans S17).trans S18) _ _ e15, e18, Nat.le_of_lt (small1000 (by rw [List.length_append, List.length_append, List.length_take, List.length_drop]; show _ + 1 + _ + 1 ≤ _; omega)), fun c19 hc19 => ?_⟩
    have S19 : Same G18 (upd G18 c19 (.lst (wv.take aN ++ [.ref c11] ++ wv.drop (aN + 1) ++ [.ref c17]))) := same_new hc19
    have e19 : (upd G18 c19 (.lst (wv.take aN ++ [.ref c11] ++ wv.drop (aN + 1) ++ [.ref c17]))) c19 = some (.lst (wv.take aN ++ [.ref c11] ++ wv.drop (aN + 1) ++ [.ref c17])) := upd_same
    generalize upd G18 c19 (.lst (wv.take aN ++ [.ref c11] ++ wv.drop (aN + 1) ++ [.ref c17])) = G19 at S19 e19
    refine ⟨(by show 2 ≤ sizeLine; decide), fun c20 hc20 => ?_⟩
    have S20 : Same G19 (upd G19 c20 (.tup [.ref c8, .ref c19])) := same_new hc20
    have e20 : (upd G19 c20 (.tup [.ref c8, .ref c19])) c20 = some (.tup [.ref c8, .ref c19]) := upd_same
    generalize upd G19 c20 (.tup [.ref c8, .ref c19]) = G20 at S20 e20
    have T20 := (T18.trans S19).trans S20
    have U6 : Same G6 G20 := fun bb o e => S20 _ _ (S19 _ _ (S18 _ _ (S17 _ _ (S16 _ _ (S15 _ _ (S14 _ _ (S13 _ _ (S12 _ _ (S11 _ _ (S10 _ _ (S9 _ _ (S8 _ _ (S7 _ _ e)))))))))))))
    have U8 : Same G8 G20 := fun bb o e => S20 _ _ (S19 _ _ (S18 _ _ (S17 _ _ (S16 _ _ (S15 _ _ (S14 _ _ (S13 _ _ (S12 _ _ (S11 _ _ (S10 _ _ (S9 _ _ e)))))))))))
    have U10 : Same G10 G20 := fun bb o e => S20 _ _ (S19 _ _ (S18 _ _ (S17 _ _ (S16 _ _ (S15 _ _ (S14 _ _ (S13 _ _ (S12 _ _ (S11 _ _ e)))))))))
    have U11 : Same G11 G20 := fun bb o e => S20 _ _ (S19 _ _ (S18 _ _ (S17 _ _ (S16 _ _ (S15 _ _ (S14 _ _ (S13 _ _ (S12 _ _ e))))))))
    have U16 : Same G16 G20 := fun bb o e => S20 _ _ (S19 _ _ (S18 _ _ (S17 _ _ e)))
    have tE : TK H G20 := t5.trans (TK.same T20)
    have hn8 : H c8 = none := D15.free hw ((S6.trans S7).free hc8)
    have hn19 : H c19 = none := D15.free hw (T18.free hc19)
    refine q c20 c8 c19 aN k wt (ws.take aN ++ (gs.length, x.2.1, x.2.2.take cN) :: (ws.drop (aN + 1) ++ [(x.1, gs.length, x.2.2.drop cN)])) G20 (D15.trans (Dr.ofSame' D15.well T20)) hn8 hn19 hk w0 (by omega) ⟨ws.take aN, ws.drop (aN + 1), x.1, x.2.1, x.2.2.take cN, x.2.2.drop cN, ?_, rfl, by rw [List.length_take]; omega⟩ ⟨gv ++ [.ref c6], U8 _ _ e8, all2_app (ga.imp fun _ _ r => r.tk tE) (all2_one ⟨c6, rfl, .inl (.inl (U6 _ _ e6))⟩)⟩ ⟨_, S20 _ _ e19, ?_⟩ e20
    · rw [List.take_append_drop]
      have := List.getElem?_eq_some_iff.mp hx
      obtain ⟨h1, h2⟩ := this
      rw [show ((x.1, x.2.1, x.2.2) : Wr) = x from rfl, ← h2, ← List.drop_eq_getElem_cons h1, List.take_append_drop]
    · have e : ws.take aN ++ (gs.length, x.2.1, x.2.2.take cN) :: (ws.drop (aN + 1) ++ [(x.1, gs.length, x.2.2.drop cN)]) = ws.take aN ++ [(gs.length, x.2.1, x.2.2.take cN)] ++ ws.drop (aN + 1) ++ [(x.1, gs.length, x.2.2.drop cN)] := by simp
      rw [e]
      have wE : All2 (WireV K G20) wv ws := wa.imp fun _ _ r => r.tk tE
      refine all2_app (all2_app (all2_app (all2_take wE aN) (all2_one ⟨c11, b1, rfl, .inl (.inl (U11 _ _ e11)), (TK.same U10).seq sb1⟩)) (all2_drop wE (aN + 1))) (all2_one ⟨c17, b2, rfl, .inl (.inl ((S18.trans (S19.trans S20)) _ _ e17)), (TK.same U16).seq sb2⟩)
end
end Lag

set_option maxRecDepth 100000
set_option maxHeartbeats 8000000
namespace Lag
open PySem PySem.Spec PyProof.Rows L2
abbrev sRight : Stmt := topS 58 -- @_law_right
theorem atI_last {α : Type} {xs : List α} {v : α} (h : xs.getLast? = some v) : atI xs (-1) = some v := by
  cases xs with
  | nil => cases h
  | cons x l =>
    rw [List.getLast?_eq_getElem?] at h
    unfold atI ixN
    rw [if_neg (by decide), if_pos (by rw [List.length_cons]; omega)]
    show (x :: l)[_]? = some v
    rw [← h]
    congr 1
    rw [List.length_cons]
    omega
def RowT (wl : Addr) (H : Hp) (v : V) (rs : List Int) : Prop := ∃ a, v = .ref a ∧ a ≠ wl ∧ H a = some (.lst (rs.map V.int))
theorem RowT.rv {K : PySem.W.Frag} {wl : Addr} {H : Hp} {v : V} {rs : List Int} (h : RowT wl H v rs) : RowV K H v rs := by
  obtain ⟨a, e, n, ha⟩ := h
  exact ⟨a, e, SqL.of ha⟩
theorem RowT.dr {wl : Addr} {H H' : Hp} {v : V} {rs : List Int} (h : RowT wl H v rs) (d : Dr wl H H') : RowT wl H' v rs := by
  obtain ⟨a, e, n, ha⟩ := h
  exact ⟨a, e, n, d.but _ _ n ha⟩
theorem LL.rows {wl l : Addr} {H0 H : Hp} {xss : List (List Int)} {as : List Addr} (h : LL H0 H l xss as) (W : WellAt wl H0) : All2 (RowT wl H) (as.map V.ref) xss := by
  refine ⟨by rw [List.length_map]; exact h.al.1, fun i v xs hv hx => ?_⟩
  rw [List.getElem?_map] at hv
  obtain ⟨a, ha, rfl⟩ := Option.map_eq_some_iff.mp hv
  exact ⟨a, rfl, (W.ne (h.new a (List.mem_of_getElem? ha))).symm, h.al.2 i a xs ha hx⟩
/-- what stands all the time: gates, wires, rows, the net behind, the outputs -/
structure Bd (K : PySem.W.Frag) (C wl lg lw lr p ng nw lo : Addr) (gs : List Gt) (ws we : List Wr) (rss oss : List (List Int)) (vs vo : List V) (H : Hp) : Prop where
  W : WellAt wl H
  g : LG K H lg gs
  n1 : lg ≠ wl
  w : LW K H lw ws
  n2 : lw ≠ wl
  r : H lr = some (.lst vs)
  n3 : lr ≠ wl
  ra : All2 (RowT wl H) vs rss
  n : NetAt K C H p ng nw gs we
  n4 : p ≠ wl
  n5 : ng ≠ wl
  n6 : nw ≠ wl
  o : H lo = some (.lst vo)
  n7 : lo ≠ wl
  oa : All2 (RowT wl H) vo oss
theorem Bd.dr {K : PySem.W.Frag} {C wl lg lw lr p ng nw lo : Addr} {gs : List Gt} {ws we : List Wr} {rss oss : List (List Int)} {vs vo : List V} {H H' : Hp} (b : Bd K C wl lg lw lr p ng nw lo gs ws we rss oss vs vo H) (d : Dr wl H H') : Bd K C wl lg lw lr p ng nw lo gs ws we rss oss vs vo H' :=
  ⟨d.well, b.g.dr b.n1 b.W d, b.n1, b.w.dr b.n2 b.W d, b.n2, d.but _ _ b.n3 b.r, b.n3, b.ra.imp fun _ _ z => z.dr d, b.n.dr b.W b.n4 b.n5 b.n6 d, b.n4, b.n5, b.n6, d.but _ _ b.n7 b.o, b.n7, b.oa.imp fun _ _ z => z.dr d⟩
theorem Bd.same {K : PySem.W.Frag} {C wl lg lw lr p ng nw lo : Addr} {gs : List Gt} {ws we : List Wr} {rss oss : List (List Int)} {vs vo : List V} {H H' : Hp} (b : Bd K C wl lg lw lr p ng nw lo gs ws we rss oss vs vo H) (s : Same H H') : Bd K C wl lg lw lr p ng nw lo gs ws we rss oss vs vo H' := b.dr (Dr.ofSame' b.W s)
theorem Bd.rr {K : PySem.W.Frag} {C wl lg lw lr p ng nw lo : Addr} {gs : List Gt} {ws we : List Wr} {rss oss : List (List Int)} {vs vo : List V} {H : Hp} (b : Bd K C wl lg lw lr p ng nw lo gs ws we rss oss vs vo H) : RR K H lr rss := ⟨vs, SqL.of b.r, b.ra.imp fun _ _ z => z.rv⟩
theorem Bd.or {K : PySem.W.Frag} {C wl lg lw lr p ng nw lo : Addr} {gs : List Gt} {ws we : List Wr} {rss oss : List (List Int)} {vs vo : List V} {H : Hp} (b : Bd K C wl lg lw lr p ng nw lo gs ws we rss oss vs vo H) : RR K H lo oss := ⟨vo, SqL.of b.o, b.oa.imp fun _ _ z => z.rv⟩
def tupI (l : List Int) : PyData := .tuple (l.map PyData.int)
theorem sh_tupI (l : List Int) : Sh 1 (tupI l) := sh_tuple fun d hd => by
  obtain ⟨i, _, rfl⟩ := List.mem_map.mp hd
  exact sh_int i
theorem sh_two {a b : PyData} {k : Nat} (h1 : Sh k a) (h2 : Sh k b) : Sh (k + 1) (.tuple [a, b]) := sh_tuple fun d hd => by
  simp only [List.mem_cons, List.not_mem_nil, or_false] at hd
  rcases hd with rfl | rfl
  · exact h1
  · exact h2
theorem Sh.up {k : Nat} {d : PyData} (h : Sh k d) : Sh (k + 1) d := ⟨h.1, Nat.le_succ_of_le h.2⟩
theorem Sh.refl {k : Nat} {d : PyData} (h : Sh k d) : PyData.eqv d d = true := SeqAt.eqv_refl d h.1
section
variable {P : Program} {w : World} {K : PySem.W.Frag} {mg : Str → Option Value} {base : Heap}
abbrev nRight : List Str := ["_law_well_here", "_law_gates", "_law_wires", "_law_rows_here", "_law_net", "_law_behind", "_law_outs", "_law_new", "_law_others", "_law_later", "_law_found", "_law_more", "_law_some", "_law_k", "_law_start", "_law_end", "_law_regs"]
theorem scRight : FnScope nRight ["_law_well_here"] (defScope sRight) := ⟨rfl, rfl, rfl, by decide +kernel, rfl, by decide +kernel, by decide +kernel⟩
abbrev DRight (P : Program) (w : World) (K : PySem.W.Frag) (mg : Str → Option Value) (base : Heap) := Df P w K mg base 11 "_law_right" ["_law_well_here"] spRight
theorem ok_right {f C fI fP fRw fRn fNu fTu fPa : Addr} {fd fdI fdP fdRw fdRn fdNu fdTu fdPa : FuncData} (F : Fun K "_law_right" "_law_right" sRight f fd) (hm : mg "_law_right" = some (.ref f)) (B : Bt mg) (T : NT K mg C) (MK : Mk K C fI) (init : FnOk P w K mg base CX0 6 fI fdI ["self", "gates", "wires"] (spInit K C)) (bI : Binds K fdI ["self", "gates", "wires"] [])
    (DP : DParts P w K mg base fP fdP) (DRw : DRows P w K mg base fRw fdRw) (DRn : DRun P w K mg base C fRn fdRn) (DNu : DNumb P w K mg base fNu fdNu) (DTu : DTurn P w K mg base fTu fdTu) (DPa : DParted P w K mg base fPa fdPa) : DRight P w K mg base f fd := by
  refine ⟨?_, hm, F.kp, F.binds fun _ _ _ _ _ _ us hl => match us, hl with | [_], _ => rfl⟩
  refine F.ok scRight (fun vs H Q E h => ?_) (fun cdv A outer s H vs Q E hr h => ?_)
  · obtain ⟨wl, rfl, _⟩ := h
    rfl
  · obtain ⟨wl, rfl, hw, q⟩ := h
    have nd := scRight.nd
    refine ⟨_, pss_cons (ps_asg (pe_call DP.ok (hr.mono (by decide)) (by rfl) DP.mg DP.kp DP.bd .nil pass0 (pa_cons (pv 0) (pa_cons pe_int pa_nil))) (pg_tup rfl (pgs_cons (pg_name (i := 1) nd rfl (.inl rfl)) (pgs_cons (pg_name (i := 2) nd rfl (.inl rfl)) pgs_nil)))) <|
        pss_cons (ps_set (i := 3) nd rfl (.inl rfl) (pe_call DRw.ok (hr.mono (by decide)) (by rfl) DRw.mg DRw.kp DRw.bd .nil pass0 (pa_cons (pv 0) (pa_cons (pv 1) (pa_cons pe_int pa_nil))))) <|
        pss_cons (ps_set (i := 4) nd rfl (.inl rfl) (pe_make MK init (hr.mono (by decide)) (by rfl) T.mg bI .nil pass0 (pa_cons (pv 1) (pa_cons (pv 2) pa_nil)))) <|
        pss_cons (ps_asg (pe_call DRn.ok (hr.mono (by decide)) (by rfl) DRn.mg DRn.kp DRn.bd .nil pass0 (pa_cons (pv 4) (pa_cons (pv 3) pa_nil))) (pg_tup rfl (pgs_cons (pg_name (i := 5) nd rfl (.inl rfl)) (pgs_cons (pg_name (i := 6) nd rfl (.inl rfl)) pgs_nil)))) <|
        pss_cons (ps_set (i := 7) nd rfl (.inl rfl) (pe_call DNu.ok (hr.mono (by decide)) (by rfl) DNu.mg DNu.kp DNu.bd .nil pass0 (pa_cons (pv 0) (pa_cons (pv 1) pa_nil)))) <|
        pss_cons (ps_set (i := 8) nd rfl (.inl rfl) (pe_call DTu.ok (hr.mono (by decide)) (by rfl) DTu.mg DTu.kp DTu.bd .nil pass0 (pa_cons (pv 1) (pa_cons (pv 2) (pa_cons (pv 7) pa_nil))))) <|
        pss_cons (ps_asg (pe_call DRn.ok (hr.mono (by decide)) (by rfl) DRn.mg DRn.kp DRn.bd .nil pass0 (pa_cons (pe_make MK init (hr.mono (by decide)) (by rfl) T.mg bI .nil pass0 (pa_cons (pe_ix ix_tup (pv 8) pe_int (fun _ _ => rfl)) (pa_cons (pe_ix ix_tup (pv 8) pe_int (fun _ _ => rfl)) pa_nil))) (pa_cons (pv 3) pa_nil))) (pg_tup rfl (pgs_cons (pg_name (i := 9) nd rfl (.inl rfl)) (pgs_cons (pg_name (i := 10) nd rfl (.inl rfl)) pgs_nil)))) <|
        pss_cons (ps_if (PW.pt (pw_or (pt_cmpR (op_neD hr.units) (pv 10) (pv 6) (nomark _)) (pw_or1 (pt_cmpR (op_neD hr.units) (pe_tup (pa_cons (pe_fld (pv 9) rfl) (pa_cons (pe_fld (pv 9) rfl) pa_nil))) (pe_call DTu.ok (hr.mono (by decide)) (by rfl) DTu.mg DTu.kp DTu.bd .nil pass0 (pa_cons (pv 1) (pa_cons (pe_fld (pv 5) rfl) (pa_cons (pv 7) pa_nil)))) (nomark _))))) (pss_one (ps_ret pe_bl)) pss_nil) <|
        pss_cons (ps_if (pt_cmpR (op_eqD hr.units) (pv 2) (pe_lst pa_nil) (nomark _)) (pss_one (ps_ret pe_bl)) pss_nil) <|
        pss_cons (ps_asg (pe_call DPa.ok (hr.mono (by decide)) (by rfl) DPa.mg DPa.kp DPa.bd .nil pass0 (pa_cons (pv 0) (pa_cons (pv 1) (pa_cons (pv 2) pa_nil)))) (pg_tup rfl (pgs_cons (pg_name (i := 11) nd rfl (.inl rfl)) (pgs_cons (pg_name (i := 12) nd rfl (.inl rfl)) pgs_nil)))) <|
        pss_cons (ps_asg (pe_call DRn.ok (hr.mono (by decide)) (by rfl) DRn.mg DRn.kp DRn.bd .nil pass0 (pa_cons (pe_make MK init (hr.mono (by decide)) (by rfl) T.mg bI .nil pass0 (pa_cons (pv 11) (pa_cons (pv 12) pa_nil))) (pa_cons (pv 3) pa_nil))) (pg_tup rfl (pgs_cons (pg_name (i := 9) nd rfl (.inl rfl)) (pgs_cons (pg_name (i := 10) nd rfl (.inl rfl)) pgs_nil)))) <|
        pss_cons (ps_if (PW.pt (pw_or (pt_cmpR (op_neD hr.units) (pv 10) (pv 6) (nomark _)) (pw_or (pt_cmpR (op_neD hr.units) (pe_fld (pv 9) rfl) (pv 11) (nomark _)) (pw_or1 (pt_cmpR op_ne (pe_callB call_len_seq (by rfl) B.len PySem.boot_len (pa_cons (pe_fld (pv 9) rfl) pa_nil)) (pe_op op_add (pe_callB call_len_seq (by rfl) B.len PySem.boot_len (pa_cons (pv 2) pa_nil)) pe_int) (nomark _)))))) (pss_one (ps_ret pe_bl)) pss_nil) <|
        pss_cons (ps_for PassesOwn.never rfl (pi_range1 (by rfl) B.range (pa_cons (pe_callB call_len_seq (by rfl) B.len PySem.boot_len (pa_cons (pv 2) pa_nil)) pa_nil)) (pg_name (i := 13) nd rfl (.inl rfl)) (pss_cons (ps_asg (pe_ix ix_list (pe_fld (pv 9) rfl) (pv 13) (fun _ _ => rfl)) (pg_tup rfl (pgs_cons (pg_name (i := 14) nd rfl (.inl rfl)) (pgs_cons (pg_name (i := 15) nd rfl (.inl rfl)) (pgs_cons (pg_name (i := 16) nd rfl (.inl rfl)) pgs_nil))))) <|
        Evl.pss_cut (ps_if (pt_cmpR op_eq (pv 14) (pe_callB call_len_seq (by rfl) B.len PySem.boot_len (pa_cons (pv 1) pa_nil)) (nomark _)) (pss_one (ps_set (i := 16) nd rfl (.inl rfl) (pe_op op_catA (pv 16) (pe_ix ix_tup (pe_ix ix_list (pe_fld (pv 9) rfl) (pe_un un_neg pe_int) (fun _ _ => rfl)) pe_int (fun _ _ => rfl))))) pss_nil) <|
        pss_one (ps_if (pt_cmpR (op_neD hr.units) (pv 16) (pe_ix ix_tup (pe_ix ix_list (pe_fld (pv 5) rfl) (pv 13) (fun _ _ => rfl)) pe_int (fun _ _ => rfl)) (nomark _)) (pss_one (ps_ret pe_bl)) pss_nil))) <|
        pss_one (ps_ret pe_bl), ?_⟩
    -- the net
    refine ⟨_, rfl, wl, 7, rfl, by decide, by decide, hw, fun gs ws lg lw p0 H1 N hgl hx2 hwl D1 hlg hlw nglw LG1 LW1 ep => ?_⟩
    refine ⟨p0, _, rfl, .inl (.inl ep), rfl, _, _, rfl, _, _, rfl, rfl, ?_⟩
    have nlg : lg ≠ wl := (hw.ne hlg).symm
    have nlw : lw ≠ wl := (hw.ne hlw).symm
    refine gn_norm (σ' := [some (.ref wl), some (.ref lg), some (.ref lw), none, none, none, none, none, none, none, none, none, none, none, none, none, none]) rfl ?_
    have ends : ∀ x ∈ ws, x.1 < gs.length ∧ x.2.1 < gs.length := fun x hx => ⟨(N.wok x hx).s, (N.wok x hx).e⟩
    -- rows
    refine ⟨_, rfl, _, rfl, wl, lg, 8, gs, rfl, D1.well, nlg, LG1, by omega, by decide, fun rss lr H2 as D2 rok rl LL2 => ?_⟩
    have D12 := D1.trans D2
    have LG2 := LG1.dr nlg D1.well D2
    have LW2 := LW1.dr nlw D1.well D2
    have rv2 := LL2.rows D1.well
    have nlr : lr ≠ wl := (D1.well.ne LL2.ln).symm
    refine gn_norm (σ' := [some (.ref wl), some (.ref lg), some (.ref lw), some (.ref lr), none, none, none, none, none, none, none, none, none, none, none, none, none]) rfl ?_
    refine ⟨_, rfl, _, rfl, ?_⟩
    refine net_in LG2.rg LW2.rw N fun p ng nw H3 NA3 s3 hp hng hnw => ?_
    refine gn_norm (σ' := [some (.ref wl), some (.ref lg), some (.ref lw), some (.ref lr), some (.ref p), none, none, none, none, none, none, none, none, none, none, none, none]) rfl ?_
    have D3 := D12.trans (Dr.ofSame' D12.well s3)
    -- run
    refine ⟨_, rfl, _, rfl, p, ng, nw, lr, gs, ws, rss, rfl, NA3, N, ⟨_, SqL.of (s3 _ _ LL2.at_), rv2.imp fun _ _ z => (z.dr (Dr.ofSame' D12.well s3)).rv⟩, rok, by omega, fun t p5 ng5 nw5 lo H4 tss we as1 s4 run1 NA4 LL4 et hp5 hng5 hnw5 => ?_⟩
    refine ⟨t, _, rfl, .inl (.inl et), rfl, _, _, rfl, _, _, rfl, rfl, ?_⟩
    have D4 := D3.trans (Dr.ofSame' D3.well s4)
    have s34 := s3.trans s4
    have Bd4 : Bd K C wl lg lw lr p5 ng5 nw5 lo gs ws we rss (tss.map (outsOf gs)) (as.map V.ref) (as1.map V.ref) H4 := ⟨D4.well, LG2.same s34, nlg, LW2.same s34, nlw, s34 _ _ LL2.at_, nlr, rv2.imp fun _ _ z => z.dr (Dr.ofSame' D12.well s34), NA4, (D3.well.ne hp5).symm, (D3.well.ne hng5).symm, (D3.well.ne hnw5).symm, LL4.at_, (D3.well.ne LL4.ln).symm, LL4.rows D3.well⟩
    have Nwe := Run.ok N run1
    have hwel : we.length = ws.length := by rw [Run.wire run1, List.length_map]
    have ends5 : ∀ x ∈ we, x.1 < gs.length ∧ x.2.1 < gs.length := fun x hx => ⟨(Nwe.wok x hx).s, (Nwe.wok x hx).e⟩
    refine gn_norm (σ' := [some (.ref wl), some (.ref lg), some (.ref lw), some (.ref lr), some (.ref p), some (.ref p5), some (.ref lo), none, none, none, none, none, none, none, none, none, none]) rfl ?_
    clear LG1 LW1 LG2 LW2 rv2 LL2 NA3 NA4 LL4 D1 D2 D12 D3 et ep hlg hlw hp hng hnw hp5 hng5 hnw5 s3 s4 s34
    -- numbered
    refine ⟨_, rfl, _, rfl, wl, lg, gs, rfl, Bd4.W, nlg, Bd4.g, by omega, fun nd1 left H5 AN D5 hnd end_ => ?_⟩
    have Bd5 := Bd4.dr D5
    have D5' := D4.trans D5
    have nnd : nd1 ≠ wl := (Bd4.W.ne hnd).symm
    refine gn_norm (σ' := [some (.ref wl), some (.ref lg), some (.ref lw), some (.ref lr), some (.ref p), some (.ref p5), some (.ref lo), some (.ref nd1), none, none, none, none, none, none, none, none, none]) rfl ?_
    -- turned
    refine ⟨_, rfl, _, rfl, _, rfl, lg, lw, nd1, gs, ws, left, rfl, Bd5.g, Bd5.w, AN, end_, by omega, by omega, ends, fun t6 l1 l2 H6 s6 hl1 hl2 LG6 LW6 et6 => ?_⟩
    have Bd6 := Bd5.same s6
    refine gn_norm (σ' := [some (.ref wl), some (.ref lg), some (.ref lw), some (.ref lr), some (.ref p), some (.ref p5), some (.ref lo), some (.ref nd1), some (.ref t6), none, none, none, none, none, none, none, none]) rfl ?_
    have NN : NetOk (anG left gs) (ws.map (anW left)) := N.anew AN.p (List.Perm.refl ws)
    refine ⟨_, rfl, t6, _, 0, _, rfl, rfl, .inl (.inl et6), atI_nat (j := 0) rfl, _, rfl, t6, _, 1, _, rfl, rfl, .inl (.inl et6), atI_nat (j := 1) rfl, ?_⟩
    refine net_in LG6.rg LW6.rw NN fun p7 ng7 nw7 H7 NA7 s7 hp7 hng7 hnw7 => ?_
    have Bd7 := Bd6.same s7
    have rok7 : ∀ rs ∈ rss, RowOk (anG left gs) rs := fun rs h => row_anew AN (rok rs h)
    refine ⟨_, rfl, p7, ng7, nw7, lr, _, _, rss, rfl, NA7, NN, Bd7.rr, rok7, by omega, fun t8 p9 ng9 nw9 lo9 H8 tss9 we9 as9 s8 run9 NA9 LL9 et9 hp9 hng9 hnw9 => ?_⟩
    refine ⟨t8, _, rfl, .inl (.inl et9), rfl, _, _, rfl, _, _, rfl, rfl, ?_⟩
    have Bd8 := Bd7.same s8
    obtain ⟨eT, eW⟩ := Run.unique NN rok7 run9 (run1.anew AN ends)
    have eO : tss9.map (outsOf (anG left gs)) = tss.map (outsOf gs) := by
      rw [eT, List.map_map]
      exact List.map_congr_left fun t _ => outsOf_anew AN t
    refine gn_norm (σ' := [some (.ref wl), some (.ref lg), some (.ref lw), some (.ref lr), some (.ref p), some (.ref p5), some (.ref lo), some (.ref nd1), some (.ref t6), some (.ref p9), some (.ref lo9), none, none, none, none, none, none]) rfl ?_
    have sh_o := sh_rows (tss.map (outsOf gs))
    have sh_g : ∀ g : List Gt, (∀ x ∈ g, GOk x) → Sh 3 (gatesD g) := fun g h => (sh_gates h).up
    refine ⟨_, rfl, _, rfl, _, _, LL9.rr.dp, Bd8.or.dp, Sh.ok (sh_rows _) (by decide), Sh.ok sh_o (by decide), ?_⟩
    rw [eO, Sh.refl sh_o]
    refine ⟨_, rfl, iteF ?_⟩
    obtain ⟨dx9, ob9⟩ := id NA9.ob
    refine ⟨_, rfl, p9, C, dx9, _, _, rfl, ob9, T.cl, T.nG, nf_gates _ _, _, rfl, p9, C, dx9, _, _, rfl, ob9, T.cl, T.nW, nf_wires _ _, (by show 2 ≤ sizeLine; decide), fun c10 hc10 => ?_⟩
    have S10 : Same H8 (upd H8 c10 (.tup [.ref ng9, .ref nw9])) := same_new hc10
    have e10 : (upd H8 c10 (.tup [.ref ng9, .ref nw9])) c10 = some (.tup [.ref ng9, .ref nw9]) := upd_same
    generalize upd H8 c10 (.tup [.ref ng9, .ref nw9]) = H10 at S10 e10
    have Bd10 := Bd8.same S10
    obtain ⟨dx5, ob5⟩ := id Bd10.n.ob
    have end10 := S10 _ _ (s8 _ _ (s7 _ _ (s6 _ _ end_)))
    refine ⟨_, rfl, _, rfl, p5, C, dx5, _, _, rfl, ob5, T.cl, T.nW, nf_wires _ _, _, rfl, lg, nw5, nd1, gs, we, left, rfl, Bd10.g, Bd10.n.w, AN, end10, by omega, by omega, ends5, fun t11 l3 l4 H11 s11 hl3 hl4 LG11 LW11 et11 => ?_⟩
    have Bd11 := Bd10.same s11
    have NA11 := (NA9.same S10).same s11
    have sh_t : Sh 4 (.tuple [gatesD (anG left gs), wiresD (we.map (anW left))]) := sh_two (sh_g _ NN.gok) (sh_wires _)
    refine ⟨.tuple [gatesD (anG left gs), wiresD we9], .tuple [gatesD (anG left gs), wiresD (we.map (anW left))], .tup (SqT.of (s11 _ _ e10)) (.cons NA11.g.rg.dp (.cons NA11.w.rw.dp .nil)), .tup (SqT.of et11) (.cons LG11.rg.dp (.cons LW11.rw.dp .nil)), ?_, Sh.ok sh_t (by decide), ?_⟩
    · rw [eW]
      exact Sh.ok sh_t (by decide)
    rw [eW, Sh.refl sh_t]
    refine ⟨_, rfl, iteF ?_⟩
    have D11 : Dr wl H H11 := D5'.trans (Dr.ofSame' D5'.well ((((s6.trans s7).trans s8).trans S10).trans s11))
    clear NA7 NA9 LL9 NA11 LG6 LW6 LG11 LW11 run9 Bd5 Bd6 Bd7 Bd8 Bd10
    -- no wires
    refine ⟨_, rfl, (by show 0 ≤ sizeLine; decide), fun c12 hc12 => ?_⟩
    have S12 : Same H11 (upd H11 c12 (.lst [])) := same_new hc12
    have e12 : (upd H11 c12 (.lst [])) c12 = some (.lst []) := upd_same
    generalize upd H11 c12 (.lst []) = H12 at S12 e12
    have Bd12 := Bd11.same S12
    have D12 := D11.trans (Dr.ofSame' D11.well S12)
    refine ⟨wiresD ws, wiresD [], Bd12.w.rw.dp, .lst (SqL.of e12) .nil, Sh.ok (sh_wires _) (by decide), Sh.ok (sh_wires []) (by decide), ?_⟩
    rw [wiresD_eq]
    by_cases hws : ws = []
    · rw [decide_eq_true hws]
      exact ⟨_, rfl, iteT (q _ D12)⟩
    rw [decide_eq_false hws]
    refine ⟨_, rfl, iteF ?_⟩
    -- parted
    refine ⟨_, rfl, _, rfl, _, rfl, wl, lg, lw, gs, ws, rfl, Bd12.W, nlg, nlw, Bd12.g, Bd12.w, by omega, by omega, hws, fun x hx => by have := hx2 x hx; omega, fun t13 l5 l6 at_ k wt ws2 H13 D13 hl5 hl6 hk w0 w9 prt LG13 LW13 et13 => ?_⟩
    refine ⟨t13, _, rfl, .inl (.inl et13), rfl, _, _, rfl, _, _, rfl, rfl, ?_⟩
    have Bd13 := Bd12.dr D13
    have D013 := D12.trans D13
    refine gn_norm (σ' := [some (.ref wl), some (.ref lg), some (.ref lw), some (.ref lr), some (.ref p), some (.ref p5), some (.ref lo), some (.ref nd1), some (.ref t6), some (.ref p9), some (.ref lo9), some (.ref l5), some (.ref l6), none, none, none, none]) rfl ?_
    have N2 : NetOk (gs ++ [(k, wt)]) ws2 := NetOk.parted N prt hk ⟨w0, by omega⟩ (by omega) (by omega)
    refine ⟨_, rfl, _, rfl, ?_⟩
    refine net_in LG13.rg LW13.rw N2 fun p14 ng14 nw14 H14 NA14 s14 hp14 hng14 hnw14 => ?_
    have Bd14 := Bd13.same s14
    have rok2 : ∀ rs ∈ rss, RowOk (gs ++ [(k, wt)]) rs := fun rs h => row_parted hk (rok rs h)
    refine ⟨_, rfl, p14, ng14, nw14, lr, _, _, rss, rfl, NA14, N2, Bd14.rr, rok2, by omega, fun t15 p16 ng16 nw16 lo16 H15 tss16 we16 as16 s15 run16 NA16 LL16 et16 hp16 hng16 hnw16 => ?_⟩
    refine ⟨t15, _, rfl, .inl (.inl et16), rfl, _, _, rfl, _, _, rfl, rfl, ?_⟩
    have Bd15 := Bd14.same s15
    have s1315 := s14.trans s15
    obtain ⟨tss2, we2, run2, prt2, eo2⟩ := Run.parted (wt := wt) hk N prt run1
    obtain ⟨eT2, eW2⟩ := Run.unique N2 rok2 run16 run2
    subst eT2 eW2
    have D15 := D013.trans (Dr.ofSame' D013.well s1315)
    refine gn_norm (σ' := [some (.ref wl), some (.ref lg), some (.ref lw), some (.ref lr), some (.ref p), some (.ref p5), some (.ref lo), some (.ref nd1), some (.ref t6), some (.ref p16), some (.ref lo16), some (.ref l5), some (.ref l6), none, none, none, none]) rfl ?_
    refine ⟨_, rfl, _, rfl, _, _, LL16.rr.dp, Bd15.or.dp, Sh.ok (sh_rows _) (by decide), Sh.ok sh_o (by decide), ?_⟩
    rw [eo2, Sh.refl sh_o]
    refine ⟨_, rfl, iteF ?_⟩
    obtain ⟨dx16, ob16⟩ := id NA16.ob
    have LG15 := LG13.same s1315
    have sh_g2 := sh_gates N2.gok
    refine ⟨_, rfl, p16, C, dx16, _, _, rfl, ob16, T.cl, T.nG, nf_gates _ _, _, rfl, _, _, NA16.g.rg.dp, LG15.rg.dp, Sh.ok sh_g2 (by decide), Sh.ok sh_g2 (by decide), ?_⟩
    rw [Sh.refl sh_g2]
    refine ⟨_, rfl, iteF ?_⟩
    obtain ⟨wv16, hwv16, wa16⟩ := id NA16.w
    obtain ⟨wv0, hwv0, wa0⟩ := id Bd15.w
    obtain ⟨hlen2, z, hz, hat⟩ := prt2.at_ (fun x hx => (ends5 x hx).1)
    have hwv16l : wv16.length = ws.length + 1 := by rw [wa16.1, hlen2, hwel]
    have hwv0l : wv0.length = ws.length := wa0.1
    refine ⟨_, rfl, p16, C, dx16, _, _, rfl, ob16, T.cl, T.nW, nf_wires _ _, nw16, wv16, rfl, .inl (SqL.of hwv16), _, rfl, lw, wv0, rfl, .inl (SqL.of hwv0), _, _, rfl, rfl, rfl, _, rfl, iteNS ?_ ?_⟩
    · rw [hwv16l, hwv0l]
      rfl
    -- wire by wire
    refine ⟨_, rfl, lw, wv0, rfl, .inl (SqL.of hwv0), _, rfl, by omega, by omega, ?_⟩
    rw [hwv0l, Int.toNat_natCast]
    refine for_range (lo := 0) (n := ws.length) (fun i σ Hc => ∃ u13 u14 u15 u16 : Option V, σ = [some (.ref wl), some (.ref lg), some (.ref lw), some (.ref lr), some (.ref p), some (.ref p5), some (.ref lo), some (.ref nd1), some (.ref t6), some (.ref p16), some (.ref lo16), some (.ref l5), some (.ref l6), u13, u14, u15, u16] ∧ Same H15 Hc) ⟨_, _, _, _, rfl, Same.refl _⟩ ?_ ?_
    · rintro i σ Hc hi ⟨u13, u14, u15, u16, rfl, sc⟩
      have ei : (0 : Int) + (i : Nat) = ((i : Nat) : Int) := Int.zero_add _
      rw [ei]
      have hie : i < we.length := by omega
      have hx5 : we[i]? = some we[i] := List.getElem?_eq_getElem hie
      generalize we[i] = x5 at hx5
      obtain ⟨y, hy, hcase⟩ := hat i x5 hx5
      obtain ⟨u, hu, ya, yb, rfl, sy1, sy2⟩ := wa16.getR hy
      have NAc := NA16.same sc
      obtain ⟨dxc, obc⟩ := id NAc.ob
      have Bdc := Bd15.same sc
      refine gn_norm (σ' := [some (.ref wl), some (.ref lg), some (.ref lw), some (.ref lr), some (.ref p), some (.ref p5), some (.ref lo), some (.ref nd1), some (.ref t6), some (.ref p16), some (.ref lo16), some (.ref l5), some (.ref l6), some (.int (i : Nat)), u14, u15, u16]) rfl ?_
      refine ⟨_, rfl, p16, C, dxc, _, _, rfl, obc, T.cl, T.nW, nf_wires _ _, _, rfl, nw16, wv16, i, _, rfl, rfl, SqL.of (sc _ _ hwv16), atI_nat hu, ?_⟩
      refine ⟨ya, _, rfl, (TK.same sc).seq sy1, rfl, _, _, rfl, _, _, rfl, _, _, rfl, rfl, ?_⟩
      refine gn_norm (σ' := [some (.ref wl), some (.ref lg), some (.ref lw), some (.ref lr), some (.ref p), some (.ref p5), some (.ref lo), some (.ref nd1), some (.ref t6), some (.ref p16), some (.ref lo16), some (.ref l5), some (.ref l6), some (.int (i : Nat)), some (.int (y.1 : Nat)), some (.int (y.2.1 : Nat)), some (.ref yb)]) rfl ?_
      obtain ⟨gvc, hgvc, gac⟩ := id Bdc.g
      have hgvcl : gvc.length = gs.length := gac.1
      refine ⟨fun σ Hd => ∃ rb : Addr, σ = [some (.ref wl), some (.ref lg), some (.ref lw), some (.ref lr), some (.ref p), some (.ref p5), some (.ref lo), some (.ref nd1), some (.ref t6), some (.ref p16), some (.ref lo16), some (.ref l5), some (.ref l6), some (.int (i : Nat)), some (.int (y.1 : Nat)), some (.int (y.2.1 : Nat)), some (.ref rb)] ∧ Same H15 Hd ∧ SqT K Hd rb (x5.2.2.map V.int), ?_, ?_⟩
      · refine ⟨_, rfl, _, rfl, lg, gvc, rfl, .inl (SqL.of hgvc), rfl, _, rfl, ite2 (fun e => ?_) (fun e => ?_)⟩
        · have hyn : y.1 = gs.length := by
            have : ((y.1 : Nat) : Int) = ((gvc.length : Nat) : Int) := V.int.inj (of_decide_eq_true e)
            omega
          rcases hcase with ⟨_, hreg⟩ | ⟨h, _⟩
          · obtain ⟨uz, huz, za, zb, rfl, sz1, sz2⟩ : ∃ uz, wv16.getLast? = some uz ∧ WireV K H15 uz z := by
              rw [List.getLast?_eq_getElem?] at hz
              obtain ⟨uz, h1, h2⟩ := wa16.getR hz
              refine ⟨uz, ?_, h2⟩
              rw [List.getLast?_eq_getElem?, ← h1, wa16.1]
            refine ⟨_, rfl, _, rfl, p16, C, dxc, _, _, rfl, obc, T.cl, T.nW, nf_wires _ _, _, rfl, nw16, wv16, _, _, rfl, rfl, SqL.of (sc _ _ hwv16), atI_last huz, za, _, 2, _, rfl, rfl, (TK.same sc).seq sz1, atI_nat (j := 2) rfl, ?_⟩
            refine catA ((TK.same sc).seq sy2) ((TK.same sc).seq sz2) ?_ fun cc Hd sd scc => ?_
            · rw [List.length_map, List.length_map]
              show _ ≤ 2 ^ 24
              have h1 := ((Run.ok N2 run16).wok y (List.mem_of_getElem? hy)).rl
              have h2 := ((Run.ok N2 run16).wok z (List.mem_of_getLast? hz)).rl
              omega
            · rw [← List.map_append, hreg] at scc
              exact ⟨cc, rfl, sc.trans sd, scc⟩
          · exact absurd hyn h
        · rcases hcase with ⟨h, _⟩ | ⟨_, hreg⟩
          · exact absurd (decide_eq_true (by rw [h, hgvcl])) e
          · rw [← hreg]
            exact ⟨yb, rfl, sc, (TK.same sc).seq sy2⟩
      · rintro σ Hd ⟨rb, rfl, sd, srb⟩
        have Bdd := Bd15.same sd
        obtain ⟨dxd, obd⟩ := id Bdd.n.ob
        obtain ⟨wv5, hwv5, wa5⟩ := id Bdd.n.w
        obtain ⟨u5, hu5, xa, xb, rfl, sx1, sx2⟩ := wa5.getR hx5
        refine ⟨_, rfl, _, rfl, p5, C, dxd, _, _, rfl, obd, T.cl, T.nW, nf_wires _ _, _, rfl, nw5, wv5, i, _, rfl, rfl, SqL.of hwv5, atI_nat hu5, xa, _, 2, _, rfl, rfl, sx1, atI_nat (j := 2) rfl, tupI x5.2.2, tupI x5.2.2, .tup srb (ints_dp _), .tup sx2 (ints_dp _), Sh.ok (sh_tupI _) (by decide), Sh.ok (sh_tupI _) (by decide), ?_⟩
        rw [Sh.refl (sh_tupI _)]
        exact ⟨_, rfl, iteF ⟨_, _, _, _, rfl, sd⟩⟩
    · rintro σ Hc ⟨u13, u14, u15, u16, rfl, sc⟩
      exact q _ (D15.trans (Dr.ofSame' D15.well sc))
abbrev sLaw : Stmt := topS 59 -- @law
end
section
variable {P : Program} {w : World} {K : PySem.W.Frag} {mg : Str → Option Value} {base : Heap}
theorem scLaw : FnScope ["_law_script", "_law_cell"] ["_law_script"] (defScope sLaw) := ⟨rfl, rfl, rfl, by decide +kernel, rfl, by decide +kernel, by decide +kernel⟩
theorem ok_law {f fC fW fR : Addr} {fd fdC fdW fdR : FuncData} (F : Fun K "law" "law" sLaw f fd) (DC : DCellAt P w K mg base fC fdC) (DW : DWell P w K mg base fW fdW) (DR : DRight P w K mg base fR fdR) : FnOk P w K mg base CX0 12 f fd ["_law_script"] (spLaw K) := by
  refine F.ok scLaw (fun vs H Q E h => ?_) (fun cdv A outer s H vs Q E hr h => ?_)
  · obtain ⟨a, ns, rfl, _⟩ := h
    rfl
  · obtain ⟨a, ns, rfl, hS, hlen, q⟩ := h
    have nd := scLaw.nd
    have hr1 : Room 1 _ := hr.mono (by decide)
    refine ⟨_, pss_cons (ps_for PassesOwn.never rfl (pi_list (pe_op op_cat (pe_lst (pa_cons (pe_call DC.ok hr1 (by rfl) DC.mg DC.kp DC.bd .nil pass0 (pa_cons (pv 0) (pa_cons pe_int pa_nil))) pa_nil)) (pe_slice sl_list (pv 0) (po_some pe_int) (po_some pe_int)))) (pg_name (i := 1) nd rfl (.inl rfl)) <|
        pss_one <| ps_if (pt_not (pt_val (pe_call DR.ok hr (by rfl) DR.mg DR.kp DR.bd .nil pass0 (pa_cons (pe_call DW.ok hr1 (by rfl) DW.mg DW.kp DW.bd .nil pass0 (pa_cons (pv 1) pa_nil)) pa_nil)))) (pss_one (ps_ret pe_bl)) pss_nil) <|
      pss_one (ps_ret pe_bl), ?_⟩
    refine ⟨_, rfl, a, ns, 0, rfl, Int.le_refl 0, hS, fun z => ?_⟩
    refine ⟨(by show 1 ≤ sizeLine; decide), fun l1 hl1 => ?_⟩
    have s1 : Same H (upd H l1 (.lst [.int z])) := same_new hl1
    refine ⟨_, rfl, _, rfl, _, rfl, a, _, rfl, s1.seq hS, fun l2 hl2 => ?_⟩
    have hcl : (cutV (ns.map V.int) (some 1) (some 6)).length ≤ 63 := by
      have := cutV_length (ns.map V.int) (some 1) (some 6)
      rw [List.length_map] at this
      omega
    refine ⟨l1, l2, _, _, rfl, rfl, same_new hl2 _ _ upd_same, upd_same, ?_, fun l3 hl3 => ?_⟩
    · show 1 + _ ≤ sizeLine
      exact Nat.le_of_lt (small1000 (by omega))
    refine ⟨l3, rfl, ⟨_, SqL.of upd_same⟩, for_list (K := K) (a := l3) (xs := [.int z] ++ cutV (ns.map V.int) (some 1) (some 6)) (fun i σ H' => ∃ s1 : Option V, σ = [some (.ref a), s1] ∧ H' l3 = some (.lst ([.int z] ++ cutV (ns.map V.int) (some 1) (some 6))))
      ⟨_, rfl, upd_same⟩ (fun i σ H' _ ⟨_, _, e⟩ => SqL.of e) ?_ ?_⟩
    · rintro i x σ H' hx ⟨s1', rfl, e3⟩
      obtain ⟨c, rfl⟩ : ∃ c, x = V.int c := by
        rcases List.mem_append.mp (List.mem_of_getElem? hx) with hm | hm
        · simp at hm
          exact ⟨z, hm⟩
        · obtain ⟨c, _, rfl⟩ := List.mem_map.mp (mem_cut hm)
          exact ⟨c, rfl⟩
      refine ⟨_, rfl, c, rfl, fun wl H1 hwl sm W => ?_⟩
      refine ⟨wl, rfl, W, fun H2 D => ⟨true, rfl, iteF ⟨_, rfl, ?_⟩⟩⟩
      exact D.but _ _ (ne_of_none e3 hwl) (sm _ _ e3)
    · rintro σ H' ⟨s1', rfl, e3⟩
      exact q H'
end
end Lag

set_option maxRecDepth 100000
set_option maxHeartbeats 8000000
namespace Lag
open PySem PySem.Spec PyProof.Rows L2
theorem kind_of : ∀ k ∈ kinds, k = "in" ∨ k = "out" ∨ k = "sum" ∨ k = "times" ∨ k = "most" ∨ k = "least" ∨ k = "first" ∨ k = "one" := by decide +kernel
theorem all_mk {l : PySem.W.OpenLaw} {w : World} {K : PySem.W.Frag} {h : Heap} {mg : Str → Option Value} {fa C : Addr} (X : K.In h) (G : h.Ns mainGlobals mg) (hfa : mg "law" = some (.ref fa))
    {fd0 : Addr} {odd0 and0 : Option Addr} {sld0 : Array (Option Value)} {ocd0 kVd0 dcd0 pmd0 cdd0 ctd0 : Value}
    {fd1 : Addr} {odd1 and1 : Option Addr} {sld1 : Array (Option Value)} {ocd1 kVd1 dcd1 pmd1 cdd1 ctd1 : Value}
    {fd2 : Addr} {odd2 and2 : Option Addr} {sld2 : Array (Option Value)} {ocd2 kVd2 dcd2 pmd2 cdd2 ctd2 : Value}
    {fd3 : Addr} {odd3 and3 : Option Addr} {sld3 : Array (Option Value)} {ocd3 kVd3 dcd3 pmd3 cdd3 ctd3 : Value}
    {fd4 : Addr} {odd4 and4 : Option Addr} {sld4 : Array (Option Value)} {ocd4 kVd4 dcd4 pmd4 cdd4 ctd4 : Value}
    {fd5 : Addr} {odd5 and5 : Option Addr} {sld5 : Array (Option Value)} {ocd5 kVd5 dcd5 pmd5 cdd5 ctd5 : Value}
    {fd6 : Addr} {odd6 and6 : Option Addr} {sld6 : Array (Option Value)} {ocd6 kVd6 dcd6 pmd6 cdd6 ctd6 : Value}
    {fd7 : Addr} {odd7 and7 : Option Addr} {sld7 : Array (Option Value)} {ocd7 kVd7 dcd7 pmd7 cdd7 ctd7 : Value}
    {fd8 : Addr} {odd8 and8 : Option Addr} {sld8 : Array (Option Value)} {ocd8 kVd8 dcd8 pmd8 cdd8 ctd8 : Value}
    {fd9 : Addr} {odd9 and9 : Option Addr} {sld9 : Array (Option Value)} {ocd9 kVd9 dcd9 pmd9 cdd9 ctd9 : Value}
    {fd10 : Addr} {odd10 and10 : Option Addr} {sld10 : Array (Option Value)} {ocd10 kVd10 dcd10 pmd10 cdd10 ctd10 : Value}
    {fd11 : Addr} {odd11 and11 : Option Addr} {sld11 : Array (Option Value)} {ocd11 kVd11 dcd11 pmd11 cdd11 ctd11 : Value}
    {fd12 : Addr} {odd12 and12 : Option Addr} {sld12 : Array (Option Value)} {ocd12 kVd12 dcd12 pmd12 cdd12 ctd12 : Value}
    {fd13 : Addr} {odd13 and13 : Option Addr} {sld13 : Array (Option Value)} {ocd13 kVd13 dcd13 pmd13 cdd13 ctd13 : Value}
    {fd14 : Addr} {odd14 and14 : Option Addr} {sld14 : Array (Option Value)} {ocd14 kVd14 dcd14 pmd14 cdd14 ctd14 : Value}
    {fd15 : Addr} {odd15 and15 : Option Addr} {sld15 : Array (Option Value)} {ocd15 kVd15 dcd15 pmd15 cdd15 ctd15 : Value}
    {fd16 : Addr} {odd16 and16 : Option Addr} {sld16 : Array (Option Value)} {ocd16 kVd16 dcd16 pmd16 cdd16 ctd16 : Value}
    {fd17 : Addr} {odd17 and17 : Option Addr} {sld17 : Array (Option Value)} {ocd17 kVd17 dcd17 pmd17 cdd17 ctd17 : Value}
    {fd18 : Addr} {odd18 and18 : Option Addr} {sld18 : Array (Option Value)} {ocd18 kVd18 dcd18 pmd18 cdd18 ctd18 : Value}
    {fd19 : Addr} {odd19 and19 : Option Addr} {sld19 : Array (Option Value)} {ocd19 kVd19 dcd19 pmd19 cdd19 ctd19 : Value}
    {fd20 : Addr} {odd20 and20 : Option Addr} {sld20 : Array (Option Value)} {ocd20 kVd20 dcd20 pmd20 cdd20 ctd20 : Value}
    {fd21 : Addr} {odd21 and21 : Option Addr} {sld21 : Array (Option Value)} {ocd21 kVd21 dcd21 pmd21 cdd21 ctd21 : Value}
    {fd22 : Addr} {odd22 and22 : Option Addr} {sld22 : Array (Option Value)} {ocd22 kVd22 dcd22 pmd22 cdd22 ctd22 : Value}
    {fd23 : Addr} {odd23 and23 : Option Addr} {sld23 : Array (Option Value)} {ocd23 kVd23 dcd23 pmd23 cdd23 ctd23 : Value}
    {fd24 : Addr} {odd24 and24 : Option Addr} {sld24 : Array (Option Value)} {ocd24 kVd24 dcd24 pmd24 cdd24 ctd24 : Value}
    {fd25 : Addr} {odd25 and25 : Option Addr} {sld25 : Array (Option Value)} {ocd25 kVd25 dcd25 pmd25 cdd25 ctd25 : Value}
    {fd26 : Addr} {odd26 and26 : Option Addr} {sld26 : Array (Option Value)} {ocd26 kVd26 dcd26 pmd26 cdd26 ctd26 : Value}
    {fd27 : Addr} {odd27 and27 : Option Addr} {sld27 : Array (Option Value)} {ocd27 kVd27 dcd27 pmd27 cdd27 ctd27 : Value}
    {fd28 : Addr} {odd28 and28 : Option Addr} {sld28 : Array (Option Value)} {ocd28 kVd28 dcd28 pmd28 cdd28 ctd28 : Value}
    {fd29 : Addr} {odd29 and29 : Option Addr} {sld29 : Array (Option Value)} {ocd29 kVd29 dcd29 pmd29 cdd29 ctd29 : Value}
    {fd30 : Addr} {odd30 and30 : Option Addr} {sld30 : Array (Option Value)} {ocd30 kVd30 dcd30 pmd30 cdd30 ctd30 : Value}
    {fd31 : Addr} {odd31 and31 : Option Addr} {sld31 : Array (Option Value)} {ocd31 kVd31 dcd31 pmd31 cdd31 ctd31 : Value}
    {fd32 : Addr} {odd32 and32 : Option Addr} {sld32 : Array (Option Value)} {ocd32 kVd32 dcd32 pmd32 cdd32 ctd32 : Value}
    {fd33 : Addr} {odd33 and33 : Option Addr} {sld33 : Array (Option Value)} {ocd33 kVd33 dcd33 pmd33 cdd33 ctd33 : Value}
    {fd34 : Addr} {odd34 and34 : Option Addr} {sld34 : Array (Option Value)} {ocd34 kVd34 dcd34 pmd34 cdd34 ctd34 : Value}
    {fd35 : Addr} {odd35 and35 : Option Addr} {sld35 : Array (Option Value)} {ocd35 kVd35 dcd35 pmd35 cdd35 ctd35 : Value}
    {fd36 : Addr} {odd36 and36 : Option Addr} {sld36 : Array (Option Value)} {ocd36 kVd36 dcd36 pmd36 cdd36 ctd36 : Value}
    {fd37 : Addr} {odd37 and37 : Option Addr} {sld37 : Array (Option Value)} {ocd37 kVd37 dcd37 pmd37 cdd37 ctd37 : Value}
    {fd38 : Addr} {odd38 and38 : Option Addr} {sld38 : Array (Option Value)} {ocd38 kVd38 dcd38 pmd38 cdd38 ctd38 : Value}
    {fm0 : Addr} {odm0 anm0 : Option Addr} {slm0 : Array (Option Value)} {ocm0 kVm0 dcm0 pmm0 cdm0 ctm0 : Value}
    {fm1 : Addr} {odm1 anm1 : Option Addr} {slm1 : Array (Option Value)} {ocm1 kVm1 dcm1 pmm1 cdm1 ctm1 : Value}
    {fm2 : Addr} {odm2 anm2 : Option Addr} {slm2 : Array (Option Value)} {ocm2 kVm2 dcm2 pmm2 cdm2 ctm2 : Value}
    {fm3 : Addr} {odm3 anm3 : Option Addr} {slm3 : Array (Option Value)} {ocm3 kVm3 dcm3 pmm3 cdm3 ctm3 : Value}
    {tGW tGA tGD : Tok}
    {aK nnK : Nat} {ddK : Option Addr} {ssK : Array (Option Value)} {tK0 tK1 tK2 tK3 tK4 tK5 tK6 tK7 : Tok}
    {aW nnW : Nat} {ddW : Option Addr} {ssW : Array (Option Value)} {tW0 tW1 : Tok}
    {aF nnF : Nat} {ddF : Option Addr} {ssF : Array (Option Value)} {tF0 tF1 : Tok}
    {aR nnR : Nat} {esR : Array DictEntry}
    (aC : PySem.W.nsIn K mainGlobals "Net" = some (some (.ref C)))
    (ad0 : PySem.W.nsIn K mainGlobals "is_whole" = some (some (.ref fd0)))
    (ld0 : K.lookup fd0 = some ⟨ocd0, odd0, .func (PySem.W.fnOf "is_whole" "is_whole" (defArgs sWhole) (defBody sWhole) (defScope sWhole) .none kVd0 dcd0 pmd0 and0 cdd0 ctd0), sld0⟩)
    (cd0 : PySem.W.codeIn K cdd0 "is_whole" = true)
    (kd0 : PySem.W.keepIn K (.ref fd0) = true)
    (ad1 : PySem.W.nsIn K mainGlobals "is_whole_from_to" = some (some (.ref fd1)))
    (ld1 : K.lookup fd1 = some ⟨ocd1, odd1, .func (PySem.W.fnOf "is_whole_from_to" "is_whole_from_to" (defArgs sFromTo) (defBody sFromTo) (defScope sFromTo) .none kVd1 dcd1 pmd1 and1 cdd1 ctd1), sld1⟩)
    (cd1 : PySem.W.codeIn K cdd1 "is_whole_from_to" = true)
    (kd1 : PySem.W.keepIn K (.ref fd1) = true)
    (ad2 : PySem.W.nsIn K mainGlobals "is_worth" = some (some (.ref fd2)))
    (ld2 : K.lookup fd2 = some ⟨ocd2, odd2, .func (PySem.W.fnOf "is_worth" "is_worth" (defArgs sWorth) (defBody sWorth) (defScope sWorth) .none kVd2 dcd2 pmd2 and2 cdd2 ctd2), sld2⟩)
    (cd2 : PySem.W.codeIn K cdd2 "is_worth" = true)
    (kd2 : PySem.W.keepIn K (.ref fd2) = true)
    (ad3 : PySem.W.nsIn K mainGlobals "is_gate" = some (some (.ref fd3)))
    (ld3 : K.lookup fd3 = some ⟨ocd3, odd3, .func (PySem.W.fnOf "is_gate" "is_gate" (defArgs sIsGate) (defBody sIsGate) (defScope sIsGate) .none kVd3 dcd3 pmd3 and3 cdd3 ctd3), sld3⟩)
    (cd3 : PySem.W.codeIn K cdd3 "is_gate" = true)
    (kd3 : PySem.W.keepIn K (.ref fd3) = true)
    (ad4 : PySem.W.nsIn K mainGlobals "check_gates" = some (some (.ref fd4)))
    (ld4 : K.lookup fd4 = some ⟨ocd4, odd4, .func (PySem.W.fnOf "check_gates" "check_gates" (defArgs sChkGates) (defBody sChkGates) (defScope sChkGates) .none kVd4 dcd4 pmd4 and4 cdd4 ctd4), sld4⟩)
    (cd4 : PySem.W.codeIn K cdd4 "check_gates" = true)
    (kd4 : PySem.W.keepIn K (.ref fd4) = true)
    (ad5 : PySem.W.nsIn K mainGlobals "is_wire" = some (some (.ref fd5)))
    (ld5 : K.lookup fd5 = some ⟨ocd5, odd5, .func (PySem.W.fnOf "is_wire" "is_wire" (defArgs sIsWire) (defBody sIsWire) (defScope sIsWire) .none kVd5 dcd5 pmd5 and5 cdd5 ctd5), sld5⟩)
    (cd5 : PySem.W.codeIn K cdd5 "is_wire" = true)
    (kd5 : PySem.W.keepIn K (.ref fd5) = true)
    (ad6 : PySem.W.nsIn K mainGlobals "is_taken" = some (some (.ref fd6)))
    (ld6 : K.lookup fd6 = some ⟨ocd6, odd6, .func (PySem.W.fnOf "is_taken" "is_taken" (defArgs sTaken) (defBody sTaken) (defScope sTaken) .none kVd6 dcd6 pmd6 and6 cdd6 ctd6), sld6⟩)
    (cd6 : PySem.W.codeIn K cdd6 "is_taken" = true)
    (kd6 : PySem.W.keepIn K (.ref fd6) = true)
    (ad7 : PySem.W.nsIn K mainGlobals "check_wires" = some (some (.ref fd7)))
    (ld7 : K.lookup fd7 = some ⟨ocd7, odd7, .func (PySem.W.fnOf "check_wires" "check_wires" (defArgs sChkWires) (defBody sChkWires) (defScope sChkWires) .none kVd7 dcd7 pmd7 and7 cdd7 ctd7), sld7⟩)
    (cd7 : PySem.W.codeIn K cdd7 "check_wires" = true)
    (kd7 : PySem.W.keepIn K (.ref fd7) = true)
    (ad8 : PySem.W.nsIn K mainGlobals "order_along" = some (some (.ref fd8)))
    (ld8 : K.lookup fd8 = some ⟨ocd8, odd8, .func (PySem.W.fnOf "order_along" "order_along" (defArgs sAlong) (defBody sAlong) (defScope sAlong) .none kVd8 dcd8 pmd8 and8 cdd8 ctd8), sld8⟩)
    (cd8 : PySem.W.codeIn K cdd8 "order_along" = true)
    (kd8 : PySem.W.keepIn K (.ref fd8) = true)
    (ad9 : PySem.W.nsIn K mainGlobals "bare_order" = some (some (.ref fd9)))
    (ld9 : K.lookup fd9 = some ⟨ocd9, odd9, .func (PySem.W.fnOf "bare_order" "bare_order" (defArgs sOrder) (defBody sOrder) (defScope sOrder) .none kVd9 dcd9 pmd9 and9 cdd9 ctd9), sld9⟩)
    (cd9 : PySem.W.codeIn K cdd9 "bare_order" = true)
    (kd9 : PySem.W.keepIn K (.ref fd9) = true)
    (ad10 : PySem.W.nsIn K mainGlobals "check_rings" = some (some (.ref fd10)))
    (ld10 : K.lookup fd10 = some ⟨ocd10, odd10, .func (PySem.W.fnOf "check_rings" "check_rings" (defArgs sChkRings) (defBody sChkRings) (defScope sChkRings) .none kVd10 dcd10 pmd10 and10 cdd10 ctd10), sld10⟩)
    (cd10 : PySem.W.codeIn K cdd10 "check_rings" = true)
    (kd10 : PySem.W.keepIn K (.ref fd10) = true)
    (ad11 : PySem.W.nsIn K mainGlobals "places_of" = some (some (.ref fd11)))
    (ld11 : K.lookup fd11 = some ⟨ocd11, odd11, .func (PySem.W.fnOf "places_of" "places_of" (defArgs sPlaces) (defBody sPlaces) (defScope sPlaces) .none kVd11 dcd11 pmd11 and11 cdd11 ctd11), sld11⟩)
    (cd11 : PySem.W.codeIn K cdd11 "places_of" = true)
    (kd11 : PySem.W.keepIn K (.ref fd11) = true)
    (ad12 : PySem.W.nsIn K mainGlobals "sum_of" = some (some (.ref fd12)))
    (ld12 : K.lookup fd12 = some ⟨ocd12, odd12, .func (PySem.W.fnOf "sum_of" "sum_of" (defArgs sSumOf) (defBody sSumOf) (defScope sSumOf) .none kVd12 dcd12 pmd12 and12 cdd12 ctd12), sld12⟩)
    (cd12 : PySem.W.codeIn K cdd12 "sum_of" = true)
    (kd12 : PySem.W.keepIn K (.ref fd12) = true)
    (ad13 : PySem.W.nsIn K mainGlobals "product_of" = some (some (.ref fd13)))
    (ld13 : K.lookup fd13 = some ⟨ocd13, odd13, .func (PySem.W.fnOf "product_of" "product_of" (defArgs sProdOf) (defBody sProdOf) (defScope sProdOf) .none kVd13 dcd13 pmd13 and13 cdd13 ctd13), sld13⟩)
    (cd13 : PySem.W.codeIn K cdd13 "product_of" = true)
    (kd13 : PySem.W.keepIn K (.ref fd13) = true)
    (ad14 : PySem.W.nsIn K mainGlobals "most_of" = some (some (.ref fd14)))
    (ld14 : K.lookup fd14 = some ⟨ocd14, odd14, .func (PySem.W.fnOf "most_of" "most_of" (defArgs sMostOf) (defBody sMostOf) (defScope sMostOf) .none kVd14 dcd14 pmd14 and14 cdd14 ctd14), sld14⟩)
    (cd14 : PySem.W.codeIn K cdd14 "most_of" = true)
    (kd14 : PySem.W.keepIn K (.ref fd14) = true)
    (ad15 : PySem.W.nsIn K mainGlobals "least_of" = some (some (.ref fd15)))
    (ld15 : K.lookup fd15 = some ⟨ocd15, odd15, .func (PySem.W.fnOf "least_of" "least_of" (defArgs sLeastOf) (defBody sLeastOf) (defScope sLeastOf) .none kVd15 dcd15 pmd15 and15 cdd15 ctd15), sld15⟩)
    (cd15 : PySem.W.codeIn K cdd15 "least_of" = true)
    (kd15 : PySem.W.keepIn K (.ref fd15) = true)
    (ad16 : PySem.W.nsIn K mainGlobals "first_of" = some (some (.ref fd16)))
    (ld16 : K.lookup fd16 = some ⟨ocd16, odd16, .func (PySem.W.fnOf "first_of" "first_of" (defArgs sFirstOf) (defBody sFirstOf) (defScope sFirstOf) .none kVd16 dcd16 pmd16 and16 cdd16 ctd16), sld16⟩)
    (cd16 : PySem.W.codeIn K cdd16 "first_of" = true)
    (kd16 : PySem.W.keepIn K (.ref fd16) = true)
    (ad17 : PySem.W.nsIn K mainGlobals "one_of" = some (some (.ref fd17)))
    (ld17 : K.lookup fd17 = some ⟨ocd17, odd17, .func (PySem.W.fnOf "one_of" "one_of" (defArgs sOneOf) (defBody sOneOf) (defScope sOneOf) .none kVd17 dcd17 pmd17 and17 cdd17 ctd17), sld17⟩)
    (cd17 : PySem.W.codeIn K cdd17 "one_of" = true)
    (kd17 : PySem.W.keepIn K (.ref fd17) = true)
    (ad18 : PySem.W.nsIn K mainGlobals "wire_worth" = some (some (.ref fd18)))
    (ld18 : K.lookup fd18 = some ⟨ocd18, odd18, .func (PySem.W.fnOf "wire_worth" "wire_worth" (defArgs sWireWorth) (defBody sWireWorth) (defScope sWireWorth) .none kVd18 dcd18 pmd18 and18 cdd18 ctd18), sld18⟩)
    (cd18 : PySem.W.codeIn K cdd18 "wire_worth" = true)
    (kd18 : PySem.W.keepIn K (.ref fd18) = true)
    (ad19 : PySem.W.nsIn K mainGlobals "coming_to" = some (some (.ref fd19)))
    (ld19 : K.lookup fd19 = some ⟨ocd19, odd19, .func (PySem.W.fnOf "coming_to" "coming_to" (defArgs sComing) (defBody sComing) (defScope sComing) .none kVd19 dcd19 pmd19 and19 cdd19 ctd19), sld19⟩)
    (cd19 : PySem.W.codeIn K cdd19 "coming_to" = true)
    (kd19 : PySem.W.keepIn K (.ref fd19) = true)
    (ad20 : PySem.W.nsIn K mainGlobals "check_row" = some (some (.ref fd20)))
    (ld20 : K.lookup fd20 = some ⟨ocd20, odd20, .func (PySem.W.fnOf "check_row" "check_row" (defArgs sChkRow) (defBody sChkRow) (defScope sChkRow) .none kVd20 dcd20 pmd20 and20 cdd20 ctd20), sld20⟩)
    (cd20 : PySem.W.codeIn K cdd20 "check_row" = true)
    (kd20 : PySem.W.keepIn K (.ref fd20) = true)
    (ad21 : PySem.W.nsIn K mainGlobals "worths" = some (some (.ref fd21)))
    (ld21 : K.lookup fd21 = some ⟨ocd21, odd21, .func (PySem.W.fnOf "worths" "worths" (defArgs sWorths) (defBody sWorths) (defScope sWorths) .none kVd21 dcd21 pmd21 and21 cdd21 ctd21), sld21⟩)
    (cd21 : PySem.W.codeIn K cdd21 "worths" = true)
    (kd21 : PySem.W.keepIn K (.ref fd21) = true)
    (ad22 : PySem.W.nsIn K mainGlobals "wire_behind" = some (some (.ref fd22)))
    (ld22 : K.lookup fd22 = some ⟨ocd22, odd22, .func (PySem.W.fnOf "wire_behind" "wire_behind" (defArgs sBehind) (defBody sBehind) (defScope sBehind) .none kVd22 dcd22 pmd22 and22 cdd22 ctd22), sld22⟩)
    (cd22 : PySem.W.codeIn K cdd22 "wire_behind" = true)
    (kd22 : PySem.W.keepIn K (.ref fd22) = true)
    (ad23 : PySem.W.nsIn K mainGlobals "net_behind" = some (some (.ref fd23)))
    (ld23 : K.lookup fd23 = some ⟨ocd23, odd23, .func (PySem.W.fnOf "net_behind" "net_behind" (defArgs sNetBehind) (defBody sNetBehind) (defScope sNetBehind) .none kVd23 dcd23 pmd23 and23 cdd23 ctd23), sld23⟩)
    (cd23 : PySem.W.codeIn K cdd23 "net_behind" = true)
    (kd23 : PySem.W.keepIn K (.ref fd23) = true)
    (ad24 : PySem.W.nsIn K mainGlobals "beat" = some (some (.ref fd24)))
    (ld24 : K.lookup fd24 = some ⟨ocd24, odd24, .func (PySem.W.fnOf "beat" "beat" (defArgs sBeat) (defBody sBeat) (defScope sBeat) .none kVd24 dcd24 pmd24 and24 cdd24 ctd24), sld24⟩)
    (cd24 : PySem.W.codeIn K cdd24 "beat" = true)
    (kd24 : PySem.W.keepIn K (.ref fd24) = true)
    (ad25 : PySem.W.nsIn K mainGlobals "run" = some (some (.ref fd25)))
    (ld25 : K.lookup fd25 = some ⟨ocd25, odd25, .func (PySem.W.fnOf "run" "run" (defArgs sRun) (defBody sRun) (defScope sRun) .none kVd25 dcd25 pmd25 and25 cdd25 ctd25), sld25⟩)
    (cd25 : PySem.W.codeIn K cdd25 "run" = true)
    (kd25 : PySem.W.keepIn K (.ref fd25) = true)
    (ad26 : PySem.W.nsIn K mainGlobals "_law_cell_at" = some (some (.ref fd26)))
    (ld26 : K.lookup fd26 = some ⟨ocd26, odd26, .func (PySem.W.fnOf "_law_cell_at" "_law_cell_at" (defArgs sCellAt) (defBody sCellAt) (defScope sCellAt) .none kVd26 dcd26 pmd26 and26 cdd26 ctd26), sld26⟩)
    (cd26 : PySem.W.codeIn K cdd26 "_law_cell_at" = true)
    (kd26 : PySem.W.keepIn K (.ref fd26) = true)
    (ad27 : PySem.W.nsIn K mainGlobals "_law_well" = some (some (.ref fd27)))
    (ld27 : K.lookup fd27 = some ⟨ocd27, odd27, .func (PySem.W.fnOf "_law_well" "_law_well" (defArgs sWell) (defBody sWell) (defScope sWell) .none kVd27 dcd27 pmd27 and27 cdd27 ctd27), sld27⟩)
    (cd27 : PySem.W.codeIn K cdd27 "_law_well" = true)
    (kd27 : PySem.W.keepIn K (.ref fd27) = true)
    (ad28 : PySem.W.nsIn K mainGlobals "_law_draw" = some (some (.ref fd28)))
    (ld28 : K.lookup fd28 = some ⟨ocd28, odd28, .func (PySem.W.fnOf "_law_draw" "_law_draw" (defArgs sDraw) (defBody sDraw) (defScope sDraw) .none kVd28 dcd28 pmd28 and28 cdd28 ctd28), sld28⟩)
    (cd28 : PySem.W.codeIn K cdd28 "_law_draw" = true)
    (kd28 : PySem.W.keepIn K (.ref fd28) = true)
    (ad29 : PySem.W.nsIn K mainGlobals "_law_one" = some (some (.ref fd29)))
    (ld29 : K.lookup fd29 = some ⟨ocd29, odd29, .func (PySem.W.fnOf "_law_one" "_law_one" (defArgs sOne) (defBody sOne) (defScope sOne) .none kVd29 dcd29 pmd29 and29 cdd29 ctd29), sld29⟩)
    (cd29 : PySem.W.codeIn K cdd29 "_law_one" = true)
    (kd29 : PySem.W.keepIn K (.ref fd29) = true)
    (ad30 : PySem.W.nsIn K mainGlobals "_law_gate" = some (some (.ref fd30)))
    (ld30 : K.lookup fd30 = some ⟨ocd30, odd30, .func (PySem.W.fnOf "_law_gate" "_law_gate" (defArgs sGate) (defBody sGate) (defScope sGate) .none kVd30 dcd30 pmd30 and30 cdd30 ctd30), sld30⟩)
    (cd30 : PySem.W.codeIn K cdd30 "_law_gate" = true)
    (kd30 : PySem.W.keepIn K (.ref fd30) = true)
    (ad31 : PySem.W.nsIn K mainGlobals "_law_wire" = some (some (.ref fd31)))
    (ld31 : K.lookup fd31 = some ⟨ocd31, odd31, .func (PySem.W.fnOf "_law_wire" "_law_wire" (defArgs sWire) (defBody sWire) (defScope sWire) .none kVd31 dcd31 pmd31 and31 cdd31 ctd31), sld31⟩)
    (cd31 : PySem.W.codeIn K cdd31 "_law_wire" = true)
    (kd31 : PySem.W.keepIn K (.ref fd31) = true)
    (ad32 : PySem.W.nsIn K mainGlobals "_law_parts" = some (some (.ref fd32)))
    (ld32 : K.lookup fd32 = some ⟨ocd32, odd32, .func (PySem.W.fnOf "_law_parts" "_law_parts" (defArgs sParts) (defBody sParts) (defScope sParts) .none kVd32 dcd32 pmd32 and32 cdd32 ctd32), sld32⟩)
    (cd32 : PySem.W.codeIn K cdd32 "_law_parts" = true)
    (kd32 : PySem.W.keepIn K (.ref fd32) = true)
    (ad33 : PySem.W.nsIn K mainGlobals "_law_rows" = some (some (.ref fd33)))
    (ld33 : K.lookup fd33 = some ⟨ocd33, odd33, .func (PySem.W.fnOf "_law_rows" "_law_rows" (defArgs sRows) (defBody sRows) (defScope sRows) .none kVd33 dcd33 pmd33 and33 cdd33 ctd33), sld33⟩)
    (cd33 : PySem.W.codeIn K cdd33 "_law_rows" = true)
    (kd33 : PySem.W.keepIn K (.ref fd33) = true)
    (ad34 : PySem.W.nsIn K mainGlobals "_law_numbered" = some (some (.ref fd34)))
    (ld34 : K.lookup fd34 = some ⟨ocd34, odd34, .func (PySem.W.fnOf "_law_numbered" "_law_numbered" (defArgs sNumb) (defBody sNumb) (defScope sNumb) .none kVd34 dcd34 pmd34 and34 cdd34 ctd34), sld34⟩)
    (cd34 : PySem.W.codeIn K cdd34 "_law_numbered" = true)
    (kd34 : PySem.W.keepIn K (.ref fd34) = true)
    (ad35 : PySem.W.nsIn K mainGlobals "_law_turned" = some (some (.ref fd35)))
    (ld35 : K.lookup fd35 = some ⟨ocd35, odd35, .func (PySem.W.fnOf "_law_turned" "_law_turned" (defArgs sTurn) (defBody sTurn) (defScope sTurn) .none kVd35 dcd35 pmd35 and35 cdd35 ctd35), sld35⟩)
    (cd35 : PySem.W.codeIn K cdd35 "_law_turned" = true)
    (kd35 : PySem.W.keepIn K (.ref fd35) = true)
    (ad36 : PySem.W.nsIn K mainGlobals "_law_parted" = some (some (.ref fd36)))
    (ld36 : K.lookup fd36 = some ⟨ocd36, odd36, .func (PySem.W.fnOf "_law_parted" "_law_parted" (defArgs sParted) (defBody sParted) (defScope sParted) .none kVd36 dcd36 pmd36 and36 cdd36 ctd36), sld36⟩)
    (cd36 : PySem.W.codeIn K cdd36 "_law_parted" = true)
    (kd36 : PySem.W.keepIn K (.ref fd36) = true)
    (ad37 : PySem.W.nsIn K mainGlobals "_law_right" = some (some (.ref fd37)))
    (ld37 : K.lookup fd37 = some ⟨ocd37, odd37, .func (PySem.W.fnOf "_law_right" "_law_right" (defArgs sRight) (defBody sRight) (defScope sRight) .none kVd37 dcd37 pmd37 and37 cdd37 ctd37), sld37⟩)
    (cd37 : PySem.W.codeIn K cdd37 "_law_right" = true)
    (kd37 : PySem.W.keepIn K (.ref fd37) = true)
    (ad38 : PySem.W.nsIn K mainGlobals "law" = some (some (.ref fd38)))
    (ld38 : K.lookup fd38 = some ⟨ocd38, odd38, .func (PySem.W.fnOf "law" "law" (defArgs sLaw) (defBody sLaw) (defScope sLaw) .none kVd38 dcd38 pmd38 and38 cdd38 ctd38), sld38⟩)
    (cd38 : PySem.W.codeIn K cdd38 "law" = true)
    (kd38 : PySem.W.keepIn K (.ref fd38) = true)
    (am0 : PySem.W.findIn K (.ref C) "__init__" = some (some (.ref fm0)))
    (im0 : PySem.W.isFn K (.ref fm0) = true)
    (lm0 : K.lookup fm0 = some ⟨ocm0, odm0, .func (PySem.W.fnOf "__init__" "Net.__init__" (defArgs sInit) (defBody sInit) (defScope sInit) .none kVm0 dcm0 pmm0 anm0 cdm0 ctm0), slm0⟩)
    (cm0 : PySem.W.codeIn K cdm0 "Net.__init__" = true)
    (km0 : PySem.W.keepIn K (.ref fm0) = true)
    (am1 : PySem.W.findIn K (.ref C) "ins" = some (some (.ref fm1)))
    (im1 : PySem.W.isFn K (.ref fm1) = true)
    (lm1 : K.lookup fm1 = some ⟨ocm1, odm1, .func (PySem.W.fnOf "ins" "Net.ins" (defArgs sIns) (defBody sIns) (defScope sIns) .none kVm1 dcm1 pmm1 anm1 cdm1 ctm1), slm1⟩)
    (cm1 : PySem.W.codeIn K cdm1 "Net.ins" = true)
    (km1 : PySem.W.keepIn K (.ref fm1) = true)
    (am2 : PySem.W.findIn K (.ref C) "outs" = some (some (.ref fm2)))
    (im2 : PySem.W.isFn K (.ref fm2) = true)
    (lm2 : K.lookup fm2 = some ⟨ocm2, odm2, .func (PySem.W.fnOf "outs" "Net.outs" (defArgs sOuts) (defBody sOuts) (defScope sOuts) .none kVm2 dcm2 pmm2 anm2 cdm2 ctm2), slm2⟩)
    (cm2 : PySem.W.codeIn K cdm2 "Net.outs" = true)
    (km2 : PySem.W.keepIn K (.ref fm2) = true)
    (am3 : PySem.W.findIn K (.ref C) "__eq__" = some (some (.ref fm3)))
    (im3 : PySem.W.isFn K (.ref fm3) = true)
    (lm3 : K.lookup fm3 = some ⟨ocm3, odm3, .func (PySem.W.fnOf "__eq__" "Net.__eq__" (defArgs sEq) (defBody sEq) (defScope sEq) .none kVm3 dcm3 pmm3 anm3 cdm3 ctm3), slm3⟩)
    (cm3 : PySem.W.codeIn K cdm3 "Net.__eq__" = true)
    (km3 : PySem.W.keepIn K (.ref fm3) = true)
    (pgC : PySem.W.plainGet K C Str.empty = true)
    (hdC : PySem.W.hasDictIn K C = true)
    (poC : PySem.W.plainOver K C = true)
    (saC : PySem.W.findIn K (.ref C) "__setattr__" = some (some (.builtin "object.__setattr__")))
    (mkC : PySem.W.makesIn K C = true)
    (kcC : PySem.W.keepIn K (.ref C) = true)
    (nG : PySem.W.findIn K (.ref C) "gates" = some none)
    (nW : PySem.W.findIn K (.ref C) "wires" = some none)
    (ha : PySem.W.findIn K (.ref C) "__class__" = some (some (.builtin "object.__class__")))
    (hn : PySem.W.specialIn K (.builtin "object.__class__") "__get__" = some (some (.builtin "getset_descriptor.__get__")))
    (htk : PySem.W.takesIn K (.builtin "object.__class__") = some true)
    (hmo : PySem.W.mroIn K C (.type "object") = some true)
    (zisi : PySem.W.nsIn K mainGlobals "isinstance" = some none)
    (zint : PySem.W.nsIn K mainGlobals "int" = some none)
    (zbool : PySem.W.nsIn K mainGlobals "bool" = some none)
    (zlen : PySem.W.nsIn K mainGlobals "len" = some none)
    (ztuple : PySem.W.nsIn K mainGlobals "tuple" = some none)
    (zstr : PySem.W.nsIn K mainGlobals "str" = some none)
    (zlist : PySem.W.nsIn K mainGlobals "list" = some none)
    (zall : PySem.W.nsIn K mainGlobals "all" = some none)
    (zenum : PySem.W.nsIn K mainGlobals "enumerate" = some none)
    (zzip : PySem.W.nsIn K mainGlobals "zip" = some none)
    (zrange : PySem.W.nsIn K mainGlobals "range" = some none)
    (zmax : PySem.W.nsIn K mainGlobals "max" = some none)
    (zsum : PySem.W.nsIn K mainGlobals "sum" = some none)
    (zmin : PySem.W.nsIn K mainGlobals "min" = some none)
    (zsorted : PySem.W.nsIn K mainGlobals "sorted" = some none)
    (zdict : PySem.W.nsIn K mainGlobals "dict" = some none)
    (gGW : PySem.W.nsIn K mainGlobals "GREATEST_WORTH" = some (some (.int 96 tGW)))
    (gGA : PySem.W.nsIn K mainGlobals "GREATEST_WAIT" = some (some (.int 100 tGA)))
    (gGD : PySem.W.nsIn K mainGlobals "DIVISOR" = some (some (.int 97 tGD)))
    (gK : PySem.W.nsIn K mainGlobals "KINDS" = some (some (.ref aK)))
    (oK : K.lookup aK = some ⟨.type "tuple", ddK, .seq #[.str "in" tK0, .str "out" tK1, .str "sum" tK2, .str "times" tK3, .str "most" tK4, .str "least" tK5, .str "first" tK6, .str "one" tK7] nnK, ssK⟩)
    (gW : PySem.W.nsIn K mainGlobals "OUTER_KINDS" = some (some (.ref aW)))
    (oW : K.lookup aW = some ⟨.type "tuple", ddW, .seq #[.str "in" tW0, .str "out" tW1] nnW, ssW⟩)
    (gF : PySem.W.nsIn K mainGlobals "KINDS_WITH_A_WIRE" = some (some (.ref aF)))
    (oF : K.lookup aF = some ⟨.type "tuple", ddF, .seq #[.str "out" tF0, .str "first" tF1] nnF, ssF⟩)
    (gR : PySem.W.nsIn K mainGlobals "RULES" = some (some (.ref aR)))
    (oR : K.lookup aR = some ⟨.type "dict", none, .dict esR nnR, #[]⟩)
    (lR : PySem.W.KeysLit w.params esR.toList)
    (r0 : PySem.W.nsIn K aR "out" = some (some (.ref fd16)))
    (r1 : PySem.W.nsIn K aR "sum" = some (some (.ref fd12)))
    (r2 : PySem.W.nsIn K aR "times" = some (some (.ref fd13)))
    (r3 : PySem.W.nsIn K aR "most" = some (some (.ref fd14)))
    (r4 : PySem.W.nsIn K aR "least" = some (some (.ref fd15)))
    (r5 : PySem.W.nsIn K aR "first" = some (some (.ref fd16)))
    (r6 : PySem.W.nsIn K aR "one" = some (some (.ref fd17))) :
    ∃ fd : FuncData, (∀ (s : Shared) (v : Value), BindsTo s fd ⟨[v], []⟩ [("_law_script", v)]) ∧ ∀ base : Heap, K.In base → base.Ns mainGlobals mg → FnOk l.prog w K mg base CX0 12 fa fd ["_law_script"] (spLaw K) := by
  have e := hfa.symm.trans (PySem.W.mg_of X G ad38)
  cases e
  have Fd0 := fun_mk (st := sWhole) ld0 cd0 kd0
  have Fd1 := fun_mk (st := sFromTo) ld1 cd1 kd1
  have Fd2 := fun_mk (st := sWorth) ld2 cd2 kd2
  have Fd3 := fun_mk (st := sIsGate) ld3 cd3 kd3
  have Fd4 := fun_mk (st := sChkGates) ld4 cd4 kd4
  have Fd5 := fun_mk (st := sIsWire) ld5 cd5 kd5
  have Fd6 := fun_mk (st := sTaken) ld6 cd6 kd6
  have Fd7 := fun_mk (st := sChkWires) ld7 cd7 kd7
  have Fd8 := fun_mk (st := sAlong) ld8 cd8 kd8
  have Fd9 := fun_mk (st := sOrder) ld9 cd9 kd9
  have Fd10 := fun_mk (st := sChkRings) ld10 cd10 kd10
  have Fd11 := fun_mk (st := sPlaces) ld11 cd11 kd11
  have Fd12 := fun_mk (st := sSumOf) ld12 cd12 kd12
  have Fd13 := fun_mk (st := sProdOf) ld13 cd13 kd13
  have Fd14 := fun_mk (st := sMostOf) ld14 cd14 kd14
  have Fd15 := fun_mk (st := sLeastOf) ld15 cd15 kd15
  have Fd16 := fun_mk (st := sFirstOf) ld16 cd16 kd16
  have Fd17 := fun_mk (st := sOneOf) ld17 cd17 kd17
  have Fd18 := fun_mk (st := sWireWorth) ld18 cd18 kd18
  have Fd19 := fun_mk (st := sComing) ld19 cd19 kd19
  have Fd20 := fun_mk (st := sChkRow) ld20 cd20 kd20
  have Fd21 := fun_mk (st := sWorths) ld21 cd21 kd21
  have Fd22 := fun_mk (st := sBehind) ld22 cd22 kd22
  have Fd23 := fun_mk (st := sNetBehind) ld23 cd23 kd23
  have Fd24 := fun_mk (st := sBeat) ld24 cd24 kd24
  have Fd25 := fun_mk (st := sRun) ld25 cd25 kd25
  have Fd26 := fun_mk (st := sCellAt) ld26 cd26 kd26
  have Fd27 := fun_mk (st := sWell) ld27 cd27 kd27
  have Fd28 := fun_mk (st := sDraw) ld28 cd28 kd28
  have Fd29 := fun_mk (st := sOne) ld29 cd29 kd29
  have Fd30 := fun_mk (st := sGate) ld30 cd30 kd30
  have Fd31 := fun_mk (st := sWire) ld31 cd31 kd31
  have Fd32 := fun_mk (st := sParts) ld32 cd32 kd32
  have Fd33 := fun_mk (st := sRows) ld33 cd33 kd33
  have Fd34 := fun_mk (st := sNumb) ld34 cd34 kd34
  have Fd35 := fun_mk (st := sTurn) ld35 cd35 kd35
  have Fd36 := fun_mk (st := sParted) ld36 cd36 kd36
  have Fd37 := fun_mk (st := sRight) ld37 cd37 kd37
  have Fd38 := fun_mk (st := sLaw) ld38 cd38 kd38
  have Fm0 := fun_mk (st := sInit) lm0 cm0 km0
  have Fm1 := fun_mk (st := sIns) lm1 cm1 km1
  have Fm2 := fun_mk (st := sOuts) lm2 cm2 km2
  have Fm3 := fun_mk (st := sEq) lm3 cm3 km3
  have B : Bt mg := ⟨PySem.W.mg_none_of X G zisi, PySem.W.mg_none_of X G zint, PySem.W.mg_none_of X G zbool, PySem.W.mg_none_of X G zlen, PySem.W.mg_none_of X G ztuple, PySem.W.mg_none_of X G zstr, PySem.W.mg_none_of X G zlist, PySem.W.mg_none_of X G zall, PySem.W.mg_none_of X G zenum, PySem.W.mg_none_of X G zzip, PySem.W.mg_none_of X G zrange, PySem.W.mg_none_of X G zmax⟩
  have Cn : Cns K mg aK aW aF := ⟨⟨_, PySem.W.mg_of X G gGW⟩, ⟨_, PySem.W.mg_of X G gGA⟩, PySem.W.mg_of X G gK, fun _ => .inr ⟨_, _, _, oK, rfl, rfl, (by show 8 ≤ sizeLine; decide), .cons ⟨_, rfl⟩ (.cons ⟨_, rfl⟩ (.cons ⟨_, rfl⟩ (.cons ⟨_, rfl⟩ (.cons ⟨_, rfl⟩ (.cons ⟨_, rfl⟩ (.cons ⟨_, rfl⟩ (.cons ⟨_, rfl⟩ (.nil))))))))⟩, PySem.W.mg_of X G gW, fun _ => .inr ⟨_, _, _, oW, rfl, rfl, (by show 2 ≤ sizeLine; decide), .cons ⟨_, rfl⟩ (.cons ⟨_, rfl⟩ (.nil))⟩, PySem.W.mg_of X G gF, fun _ => .inr ⟨_, _, _, oF, rfl, rfl, (by show 2 ≤ sizeLine; decide), .cons ⟨_, rfl⟩ (.cons ⟨_, rfl⟩ (.nil))⟩⟩
  have T : NT K mg C := ⟨⟨pgC, hdC, poC, saC⟩, nG, nW, PySem.W.mg_of X G aC⟩
  have Y : NTy K C := ⟨ha, hn, htk, hmo⟩
  have bm0 := Fm0.binds (ps := ["self", "gates", "wires"]) fun _ _ _ _ _ _ us hl => match us, hl with | [_, _, _], _ => rfl
  have bm1 := Fm1.binds (ps := ["self"]) fun _ _ _ _ _ _ us hl => match us, hl with | [_], _ => rfl
  have bm2 := Fm2.binds (ps := ["self"]) fun _ _ _ _ _ _ us hl => match us, hl with | [_], _ => rfl
  have bm3 := Fm3.binds (ps := ["self", "other"]) fun _ _ _ _ _ _ us hl => match us, hl with | [_, _], _ => rfl
  have bd16 := Fd16.binds (ps := ["coming"]) fun _ _ _ _ _ _ us hl => match us, hl with | [_], _ => rfl
  have bd15 := Fd15.binds (ps := ["coming"]) fun _ _ _ _ _ _ us hl => match us, hl with | [_], _ => rfl
  have bd14 := Fd14.binds (ps := ["coming"]) fun _ _ _ _ _ _ us hl => match us, hl with | [_], _ => rfl
  have bd17 := Fd17.binds (ps := ["coming"]) fun _ _ _ _ _ _ us hl => match us, hl with | [_], _ => rfl
  have bd13 := Fd13.binds (ps := ["coming"]) fun _ _ _ _ _ _ us hl => match us, hl with | [_], _ => rfl
  have bd12 := Fd12.binds (ps := ["coming"]) fun _ _ _ _ _ _ us hl => match us, hl with | [_], _ => rfl
  refine ⟨PySem.W.fnOf "law" "law" (defArgs sLaw) (defBody sLaw) (defScope sLaw) .none kVd38 dcd38 pmd38 and38 cdd38 ctd38, fun s v => .of_eq rfl, fun base _ _ => ?_⟩
  have whole := ok_whole (P := l.prog) (w := w) (base := base) Fd0 (PySem.W.mg_of X G ad0) B
  have ft := ok_fromTo (P := l.prog) (w := w) (base := base) Fd1 (PySem.W.mg_of X G ad1) whole
  have wo := ok_worth (P := l.prog) (w := w) (base := base) Fd2 (PySem.W.mg_of X G ad2) Cn ft
  have ig := ok_isGate (P := l.prog) (w := w) (base := base) Fd3 (PySem.W.mg_of X G ad3) B Cn ft
  have cg := ok_chkGates (P := l.prog) (w := w) (base := base) Fd4 (PySem.W.mg_of X G ad4) B ig
  have iw := ok_isWire (P := l.prog) (w := w) (base := base) Fd5 (PySem.W.mg_of X G ad5) B ft wo
  have tk := ok_taken (P := l.prog) (w := w) (base := base) Fd6 (PySem.W.mg_of X G ad6)
  have cw := ok_chkWires (P := l.prog) (w := w) (base := base) Fd7 (PySem.W.mg_of X G ad7) B Cn iw tk
  have al := ok_along (P := l.prog) (w := w) (base := base) Fd8 (PySem.W.mg_of X G ad8) B
  have od := ok_order (P := l.prog) (w := w) (base := base) Fd9 (PySem.W.mg_of X G ad9) B al
  have cr := ok_chkRings (P := l.prog) (w := w) (base := base) Fd10 (PySem.W.mg_of X G ad10) B od
  have pl := ok_places (P := l.prog) (w := w) (base := base) Fd11 (PySem.W.mg_of X G ad11) B
  have ca := ok_cellAt (P := l.prog) (w := w) (base := base) Fd26 (PySem.W.mg_of X G ad26) B.len
  have we := ok_well (P := l.prog) (w := w) (base := base) Fd27 (PySem.W.mg_of X G ad27) B.int
  have dr := ok_draw (P := l.prog) (w := w) (base := base) Fd28 (PySem.W.mg_of X G ad28)
  have on := ok_one (P := l.prog) (w := w) (base := base) Fd29 (PySem.W.mg_of X G ad29) dr B.len
  have ga := ok_gate (P := l.prog) (w := w) (base := base) Fd30 (PySem.W.mg_of X G ad30) dr on
  have wi := ok_wire (P := l.prog) (w := w) (base := base) Fd31 (PySem.W.mg_of X G ad31) dr on B.max B.tuple B.range
  have pa := ok_parts (P := l.prog) (w := w) (base := base) Fd32 (PySem.W.mg_of X G ad32) dr on ga wi B.enum B.range B.len B.list
  have md : ∃ t, mg "DIVISOR" = some (.int 97 t) := ⟨_, PySem.W.mg_of X G gGD⟩
  have RL : Rl l.prog w K mg base aR := by
    refine ⟨PySem.W.mg_of X G gR, fun k hk hki => ?_⟩
    rcases kind_of k hk with h | h | h | h | h | h | h | h
    · exact absurd h hki
    · subst h
      exact ⟨fd16, _, ⟨esR, nnR, _, oR, lR, r0, rfl⟩, ok_firstOf (k := "out") (.inl rfl) Fd16, kd16, bd16⟩
    · subst h
      exact ⟨fd12, _, ⟨esR, nnR, _, oR, lR, r1, rfl⟩, ok_sumOf Fd12 (PySem.W.mg_none_of X G zsum) md, kd12, bd12⟩
    · subst h
      exact ⟨fd13, _, ⟨esR, nnR, _, oR, lR, r2, rfl⟩, ok_prodOf Fd13 md, kd13, bd13⟩
    · subst h
      exact ⟨fd14, _, ⟨esR, nnR, _, oR, lR, r3, rfl⟩, ok_mostOf Fd14 B.max, kd14, bd14⟩
    · subst h
      exact ⟨fd15, _, ⟨esR, nnR, _, oR, lR, r4, rfl⟩, ok_leastOf Fd15 (PySem.W.mg_none_of X G zmin) ⟨_, PySem.W.mg_of X G gGW⟩, kd15, bd15⟩
    · subst h
      exact ⟨fd16, _, ⟨esR, nnR, _, oR, lR, r5, rfl⟩, ok_firstOf (k := "first") (.inr rfl) Fd16, kd16, bd16⟩
    · subst h
      exact ⟨fd17, _, ⟨esR, nnR, _, oR, lR, r6, rfl⟩, ok_oneOf Fd17 B.max, kd17, bd17⟩
  have init := ok_init (P := l.prog) (w := w) (base := base) Fm0 T B cg cw cr
  have MK : Mk K C fm0 := ⟨mkC, am0, im0, kcC⟩
  have ins := ok_ins (P := l.prog) (w := w) (base := base) Fm1 T pl
  have outs := ok_outs (P := l.prog) (w := w) (base := base) Fm2 T pl
  have mN : Meth K C "ins" fm1 := ⟨am1, im1, km1⟩
  have mO : Meth K C "outs" fm2 := ⟨am2, im2, km2⟩
  have ww := ok_wireWorth (P := l.prog) (w := w) (base := base) Fd18 (PySem.W.mg_of X G ad18) B
  have cm := ok_coming (P := l.prog) (w := w) (base := base) Fd19 (PySem.W.mg_of X G ad19) ww
  have chr := ok_chkRow (P := l.prog) (w := w) (base := base) Fd20 (PySem.W.mg_of X G ad20) B T wo ins mN bm1
  have wsx := ok_worths (P := l.prog) (w := w) (base := base) Fd21 (PySem.W.mg_of X G ad21) B T RL chr od cm ins mN bm1
  have bhd := ok_behind (P := l.prog) (w := w) (base := base) Fd22 (PySem.W.mg_of X G ad22) B
  have nbh := ok_netBehind (P := l.prog) (w := w) (base := base) Fd23 (PySem.W.mg_of X G ad23) T bhd MK init bm0
  have bt := ok_beat (P := l.prog) (w := w) (base := base) Fd24 (PySem.W.mg_of X G ad24) T wsx nbh outs mO bm2
  have rn := ok_run (P := l.prog) (w := w) (base := base) Fd25 (PySem.W.mg_of X G ad25) B T bt MK init bm0
  have rws := ok_rows (P := l.prog) (w := w) (base := base) Fd33 (PySem.W.mg_of X G ad33) B dr on
  have Z : NC l.prog w K mg base C fm0 fm3 fm2 _ _ _ := ⟨T, Y, MK, init, bm0, ok_eqN Fm3 T Y B, am3, im3, bm3, outs, mO, bm2⟩
  have nu := ok_numb (P := l.prog) (w := w) (base := base) Fd34 (PySem.W.mg_of X G ad34) B (PySem.W.mg_none_of X G zsorted) (PySem.W.mg_none_of X G zdict) dr
  have tu := ok_turn (P := l.prog) (w := w) (base := base) Fd35 (PySem.W.mg_of X G ad35) B (PySem.W.mg_none_of X G zdict)
  have pt := ok_parted (P := l.prog) (w := w) (base := base) Fd36 (PySem.W.mg_of X G ad36) B dr on
  have ri := ok_right (P := l.prog) (w := w) (base := base) Fd37 (PySem.W.mg_of X G ad37) B T MK init bm0 pa rws rn nu tu pt
  exact ok_law Fd38 ca we ri
end Lag

set_option maxRecDepth 100000
open PySem PySem.W PyProof.Rows
set_option maxRecDepth 100000 in
set_option maxHeartbeats 0 in
theorem PySem.Challenge.cw_lagshift_k15_whole_nets_told_otherwise_holds : PySem.Challenge.rw_lagshift_k15_whole_nets_told_otherwise.Holds := by
  w_on; o_law; k_head; (case hw => w_witness2)
  k_fill
  refine L2.walk_of (l := PySem.Challenge.rw_lagshift_k15_whole_nets_told_otherwise) (n := 63) (k := 12) (x := "_law_script") (CX := fun _ => L2.CX0) (sp := fun w => Lag.spLaw _) rfl (by decide) rfl ⟨rfl, by decide, by decide⟩ (fun w h Y => PySem.W.kIn_of Y) ?F (fun _ _ a ns hl _ hS => ⟨a, ns, rfl, hS, hl, fun _ => rfl⟩) (fun _ _ _ _ _ h => h)
  case F =>
    intro w mg fa h KX G hmg
    refine' Lag.all_mk KX G hmg ?aC ?ad0 ?ld0 ?cd0 ?kd0 ?ad1 ?ld1 ?cd1 ?kd1 ?ad2 ?ld2 ?cd2 ?kd2 ?ad3 ?ld3 ?cd3 ?kd3 ?ad4 ?ld4 ?cd4 ?kd4 ?ad5 ?ld5 ?cd5 ?kd5 ?ad6 ?ld6 ?cd6 ?kd6 ?ad7 ?ld7 ?cd7 ?kd7 ?ad8 ?ld8 ?cd8 ?kd8 ?ad9 ?ld9 ?cd9 ?kd9 ?ad10 ?ld10 ?cd10 ?kd10 ?ad11 ?ld11 ?cd11 ?kd11 ?ad12 ?ld12 ?cd12 ?kd12 ?ad13 ?ld13 ?cd13 ?kd13 ?ad14 ?ld14 ?cd14 ?kd14 ?ad15 ?ld15 ?cd15 ?kd15 ?ad16 ?ld16 ?cd16 ?kd16 ?ad17 ?ld17 ?cd17 ?kd17 ?ad18 ?ld18 ?cd18 ?kd18 ?ad19 ?ld19 ?cd19 ?kd19 ?ad20 ?ld20 ?cd20 ?kd20 ?ad21 ?ld21 ?cd21 ?kd21 ?ad22 ?ld22 ?cd22 ?kd22 ?ad23 ?ld23 ?cd23 ?kd23 ?ad24 ?ld24 ?cd24 ?kd24 ?ad25 ?ld25 ?cd25 ?kd25 ?ad26 ?ld26 ?cd26 ?kd26 ?ad27 ?ld27 ?cd27 ?kd27 ?ad28 ?ld28 ?cd28 ?kd28 ?ad29 ?ld29 ?cd29 ?kd29 ?ad30 ?ld30 ?cd30 ?kd30 ?ad31 ?ld31 ?cd31 ?kd31 ?ad32 ?ld32 ?cd32 ?kd32 ?ad33 ?ld33 ?cd33 ?kd33 ?ad34 ?ld34 ?cd34 ?kd34 ?ad35 ?ld35 ?cd35 ?kd35 ?ad36 ?ld36 ?cd36 ?kd36 ?ad37 ?ld37 ?cd37 ?kd37 ?ad38 ?ld38 ?cd38 ?kd38 ?am0 ?im0 ?lm0 ?cm0 ?km0 ?am1 ?im1 ?lm1 ?cm1 ?km1 ?am2 ?im2 ?lm2 ?cm2 ?km2 ?am3 ?im3 ?lm3 ?cm3 ?km3 ?pgC ?hdC ?poC ?saC ?mkC ?kcC ?nG ?nW ?ha ?hn ?htk ?hmo ?zisi ?zint ?zbool ?zlen ?ztuple ?zstr ?zlist ?zall ?zenum ?zzip ?zrange ?zmax ?zsum ?zmin ?zsorted ?zdict ?gGW ?gGA ?gGD ?gK ?oK ?gW ?oW ?gF ?oF ?gR ?oR ?lR ?r0 ?r1 ?r2 ?r3 ?r4 ?r5 ?r6
    (case aC => k_is)
    (case ad0 => k_is)
    (case ld0 => k_is)
    (case cd0 => k_is)
    (case kd0 => k_is)
    (case ad1 => k_is)
    (case ld1 => k_is)
    (case cd1 => k_is)
    (case kd1 => k_is)
    (case ad2 => k_is)
    (case ld2 => k_is)
    (case cd2 => k_is)
    (case kd2 => k_is)
    (case ad3 => k_is)
    (case ld3 => k_is)
    (case cd3 => k_is)
    (case kd3 => k_is)
    (case ad4 => k_is)
    (case ld4 => k_is)
    (case cd4 => k_is)
    (case kd4 => k_is)
    (case ad5 => k_is)
    (case ld5 => k_is)
    (case cd5 => k_is)
    (case kd5 => k_is)
    (case ad6 => k_is)
    (case ld6 => k_is)
    (case cd6 => k_is)
    (case kd6 => k_is)
    (case ad7 => k_is)
    (case ld7 => k_is)
    (case cd7 => k_is)
    (case kd7 => k_is)
    (case ad8 => k_is)
    (case ld8 => k_is)
    (case cd8 => k_is)
    (case kd8 => k_is)
    (case ad9 => k_is)
    (case ld9 => k_is)
    (case cd9 => k_is)
    (case kd9 => k_is)
    (case ad10 => k_is)
    (case ld10 => k_is)
    (case cd10 => k_is)
    (case kd10 => k_is)
    (case ad11 => k_is)
    (case ld11 => k_is)
    (case cd11 => k_is)
    (case kd11 => k_is)
    (case ad12 => k_is)
    (case ld12 => k_is)
    (case cd12 => k_is)
    (case kd12 => k_is)
    (case ad13 => k_is)
    (case ld13 => k_is)
    (case cd13 => k_is)
    (case kd13 => k_is)
    (case ad14 => k_is)
    (case ld14 => k_is)
    (case cd14 => k_is)
    (case kd14 => k_is)
    (case ad15 => k_is)
    (case ld15 => k_is)
    (case cd15 => k_is)
    (case kd15 => k_is)
    (case ad16 => k_is)
    (case ld16 => k_is)
    (case cd16 => k_is)
    (case kd16 => k_is)
    (case ad17 => k_is)
    (case ld17 => k_is)
    (case cd17 => k_is)
    (case kd17 => k_is)
    (case ad18 => k_is)
    (case ld18 => k_is)
    (case cd18 => k_is)
    (case kd18 => k_is)
    (case ad19 => k_is)
    (case ld19 => k_is)
    (case cd19 => k_is)
    (case kd19 => k_is)
    (case ad20 => k_is)
    (case ld20 => k_is)
    (case cd20 => k_is)
    (case kd20 => k_is)
    (case ad21 => k_is)
    (case ld21 => k_is)
    (case cd21 => k_is)
    (case kd21 => k_is)
    (case ad22 => k_is)
    (case ld22 => k_is)
    (case cd22 => k_is)
    (case kd22 => k_is)
    (case ad23 => k_is)
    (case ld23 => k_is)
    (case cd23 => k_is)
    (case kd23 => k_is)
    (case ad24 => k_is)
    (case ld24 => k_is)
    (case cd24 => k_is)
    (case kd24 => k_is)
    (case ad25 => k_is)
    (case ld25 => k_is)
    (case cd25 => k_is)
    (case kd25 => k_is)
    (case ad26 => k_is)
    (case ld26 => k_is)
    (case cd26 => k_is)
    (case kd26 => k_is)
    (case ad27 => k_is)
    (case ld27 => k_is)
    (case cd27 => k_is)
    (case kd27 => k_is)
    (case ad28 => k_is)
    (case ld28 => k_is)
    (case cd28 => k_is)
    (case kd28 => k_is)
    (case ad29 => k_is)
    (case ld29 => k_is)
    (case cd29 => k_is)
    (case kd29 => k_is)
    (case ad30 => k_is)
    (case ld30 => k_is)
    (case cd30 => k_is)
    (case kd30 => k_is)
    (case ad31 => k_is)
    (case ld31 => k_is)
    (case cd31 => k_is)
    (case kd31 => k_is)
    (case ad32 => k_is)
    (case ld32 => k_is)
    (case cd32 => k_is)
    (case kd32 => k_is)
    (case ad33 => k_is)
    (case ld33 => k_is)
    (case cd33 => k_is)
    (case kd33 => k_is)
    (case ad34 => k_is)
    (case ld34 => k_is)
    (case cd34 => k_is)
    (case kd34 => k_is)
    (case ad35 => k_is)
    (case ld35 => k_is)
    (case cd35 => k_is)
    (case kd35 => k_is)
    (case ad36 => k_is)
    (case ld36 => k_is)
    (case cd36 => k_is)
    (case kd36 => k_is)
    (case ad37 => k_is)
    (case ld37 => k_is)
    (case cd37 => k_is)
    (case kd37 => k_is)
    (case ad38 => k_is)
    (case ld38 => k_is)
    (case cd38 => k_is)
    (case kd38 => k_is)
    (case am0 => k_is)
    (case im0 => k_is)
    (case lm0 => k_is)
    (case cm0 => k_is)
    (case km0 => k_is)
    (case am1 => k_is)
    (case im1 => k_is)
    (case lm1 => k_is)
    (case cm1 => k_is)
    (case km1 => k_is)
    (case am2 => k_is)
    (case im2 => k_is)
    (case lm2 => k_is)
    (case cm2 => k_is)
    (case km2 => k_is)
    (case am3 => k_is)
    (case im3 => k_is)
    (case lm3 => k_is)
    (case cm3 => k_is)
    (case km3 => k_is)
    (case pgC => k_is)
    (case hdC => k_is)
    (case poC => k_is)
    (case saC => k_is)
    (case mkC => k_is)
    (case kcC => k_is)
    (case nG => k_is)
    (case nW => k_is)
    (case ha => k_is)
    (case hn => k_is)
    (case htk => k_is)
    (case hmo => k_is)
    (case zisi => k_is)
    (case zint => k_is)
    (case zbool => k_is)
    (case zlen => k_is)
    (case ztuple => k_is)
    (case zstr => k_is)
    (case zlist => k_is)
    (case zall => k_is)
    (case zenum => k_is)
    (case zzip => k_is)
    (case zrange => k_is)
    (case zmax => k_is)
    (case zsum => k_is)
    (case zmin => k_is)
    (case zsorted => k_is)
    (case zdict => k_is)
    (case gGW => k_is)
    (case gGA => k_is)
    (case gGD => k_is)
    (case gK => k_is)
    (case oK => k_is)
    (case gW => k_is)
    (case oW => k_is)
    (case gF => k_is)
    (case oF => k_is)
    (case gR => k_is)
    (case oR => k_is)
    (case lR => exact ⟨⟨_, _, rfl, rfl⟩, ⟨_, _, rfl, rfl⟩, ⟨_, _, rfl, rfl⟩, ⟨_, _, rfl, rfl⟩, ⟨_, _, rfl, rfl⟩, ⟨_, _, rfl, rfl⟩, ⟨_, _, rfl, rfl⟩, trivial⟩)
    (case r0 => k_is)
    (case r1 => k_is)
    (case r2 => k_is)
    (case r3 => k_is)
    (case r4 => k_is)
    (case r5 => k_is)
    (case r6 => k_is)

