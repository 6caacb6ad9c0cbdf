import PyProof.Rows.All
import Wide.All
import OpenK.AllK
import Wide.FinOn
import HandS.ForMost
import HandS.IsInst
import HandS.Evl
import HandS.Flow
import HandS.Conv
import HandS.Wide
import HandS.Walk
import HandS.Zip
import HandS.OwnEq
import HandS.Style
import HandS.TupAny
import KE.KMinKey
import HandS.SortKw
import HandS.CallLocal
import HandS.More
import PyProof.Rows.NestShow
import HandS.WordsExc
import HandS.ExcOwn
import HandS.ExcField
import HandS.TryOnly
import HandS.ExcIs
import HandS.TryMany
import HandS.Lambda
import HandS.EndOwn
import KE.KNestM
import PySem.Challenge.RW_lagshift_k13_rows_refused
set_option Elab.async false
set_option linter.all false
set_option maxRecDepth 100000
set_option maxHeartbeats 4000000
namespace Lag
open PySem PySem.Spec PyProof.Rows L2
/-! ### the text by its places -/
def topS (i : Nat) : Stmt := PySem.Challenge.pw_lagshift_k13_rows_refused.main.body.getD i (.Pass ⟨0, 0, 0, 0⟩)
abbrev sCellAt : Stmt := topS 47
abbrev sWell : Stmt := topS 48
abbrev sDraw : Stmt := topS 49
abbrev sOne : Stmt := topS 50
abbrev sGate : Stmt := topS 51
/-! ### heaps -/
/-- all stands as it stood but at w -/
def But (w : Addr) (H H' : Hp) : Prop := ∀ b o, b ≠ w → H b = some o → H' b = some o
theorem But.refl (w : Addr) (H : Hp) : But w H H := fun _ _ _ h => h
theorem But.trans {w : Addr} {H H1 H2 : Hp} (a : But w H H1) (b : But w H1 H2) : But w H H2 := fun c o n h => b c o n (a c o n h)
theorem But.same {w : Addr} {H H1 : Hp} (a : Same H H1) : But w H H1 := fun c o _ h => a c o h
theorem But.upd {w : Addr} {H : Hp} {o : HO} : But w H (upd H w o) := fun c u n h => by rw [upd_ne n]; exact h
theorem But.new {w p : Addr} {H : Hp} {o : HO} (h : H p = none) : But w H (L2.upd H p o) := fun c u n e => by rw [upd_ne (ne_of_none e h)]; exact e
theorem same_new {H : Hp} {p : Addr} {o : HO} (h : H p = none) : Same H (upd H p o) := fun b x e => by rw [upd_ne (ne_of_none e h)]; exact e
/-- an object that H does not know may be changed -/
theorem same_mut {H H' : Hp} {p : Addr} {o : HO} (e : Same H H') (h : H p = none) : Same H (upd H' p o) := fun a u ha => by rw [upd_ne (ne_of_none ha h)]; exact e a u ha
theorem But.mut {w p : Addr} {H H' : Hp} {o : HO} (e : But w H H') (h : H p = none) : But w H (L2.upd H' p o) := fun a u n ha => by rw [upd_ne (ne_of_none ha h)]; exact e a u n ha
theorem But.seq {K : PySem.W.Frag} {w a : Addr} {H H' : Hp} {xs : List V} (e : But w H H') (n : a ≠ w) (h : SqL K H a xs) : SqL K H' a xs := by
  rcases h with (h | ⟨o, h⟩) | h
  · exact .inl (.inl (e _ _ n h))
  · exact .inl (.inr ⟨o, e _ _ n h⟩)
  · exact .inr h
/-- at w the well: three numbers -/
def WellAt (w : Addr) (H : Hp) : Prop := ∃ a b c : Int, H w = some (.lst [.int a, .int b, .int c])
theorem WellAt.new {w p : Addr} {H : Hp} {o : HO} (W : WellAt w H) (h : H p = none) : WellAt w (upd H p o) := by
  obtain ⟨a, b, c, e⟩ := W
  exact ⟨a, b, c, by rw [upd_ne (ne_of_none e h)]; exact e⟩
theorem WellAt.same {w : Addr} {H H' : Hp} (W : WellAt w H) (s : Same H H') : WellAt w H' := by
  obtain ⟨a, b, c, e⟩ := W
  exact ⟨a, b, c, s _ _ e⟩
theorem WellAt.ne {w p : Addr} {H : Hp} (W : WellAt w H) (h : H p = none) : w ≠ p := by
  obtain ⟨a, b, c, e⟩ := W
  exact ne_of_none e h
theorem WellAt.tup {K : PySem.W.Frag} {w p : Addr} {H : Hp} {xs : List V} (W : WellAt w H) (h : H p = some (.tup xs)) : p ≠ w := by
  obtain ⟨a, b, c, e⟩ := W
  exact ne_of h e (by intro q; cases q)
/-- a draw of the well: what stood stands, the well is one -/
structure Dr (w : Addr) (H H' : Hp) : Prop where
  but : But w H H'
  well : WellAt w H'
theorem Dr.trans {w : Addr} {H H1 H2 : Hp} (a : Dr w H H1) (b : Dr w H1 H2) : Dr w H H2 := ⟨a.but.trans b.but, b.well⟩
theorem Dr.free {w p : Addr} {H H' : Hp} (d : Dr w H H') (W : WellAt w H) (h : H' p = none) : H p = none := by
  cases q : H p with
  | none => rfl
  | some o =>
    have n : p ≠ w := (d.well.ne h).symm
    rw [d.but _ _ n q] at h
    cases h
/-! ### the promises of the draws -/
def spCellAt (K : PySem.W.Frag) : Sp := fun vs H Q _ => ∃ (a : Addr) (ns : List Int) (k : Int), vs = [.ref a, .int k] ∧ 0 ≤ k ∧ SqL K H a (ns.map V.int) ∧ ∀ z : Int, Q (.int z) H
def spWell : Sp := fun vs H Q _ => ∃ z : Int, vs = [.int z] ∧ ∀ p H', H p = none → Same H H' → WellAt p H' → Q (.ref p) H'
def spDraw : Sp := fun vs H Q _ => ∃ (w : Addr) (n : Int), vs = [.ref w, .int n] ∧ 0 < n ∧ n < 1000000 ∧ WellAt w H ∧ ∀ d H', 0 ≤ d → d < n → Dr w H H' → Q (.int d) H'
def spOne (K : PySem.W.Frag) : Sp := fun vs H Q _ => ∃ (w l : Addr) (xs : List V), vs = [.ref w, .ref l] ∧ l ≠ w ∧ WellAt w H ∧ SqL K H l xs ∧ xs ≠ [] ∧ xs.length < 1000000 ∧ ∀ v H', v ∈ xs → Dr w H H' → Q v H'
section
variable {P : Program} {w : World} {K : PySem.W.Frag} {mg : Str → Option Value} {base : Heap}
/-- a def at its name: it keeps its promise, its name holds it, its arguments bind -/
structure Df (P : Program) (w : World) (K : PySem.W.Frag) (mg : Str → Option Value) (base : Heap) (k : Nat) (name : Str) (ps : List Str) (sp : Sp) (f : Addr) (fd : FuncData) : Prop where
  ok : FnOk P w K mg base CX0 k f fd ps sp
  mg : mg name = some (.ref f)
  kp : PySem.W.keepIn K (.ref f) = true
  bd : Binds K fd ps []
/-! ### _law_cell_at -/
theorem scCellAt : FnScope ["_law_script", "_law_k"] ["_law_script", "_law_k"] (defScope sCellAt) := ⟨rfl, rfl, rfl, by decide +kernel, rfl, by decide +kernel, by decide +kernel⟩
abbrev DCellAt (P : Program) (w : World) (K : PySem.W.Frag) (mg : Str → Option Value) (base : Heap) := Df P w K mg base 1 "_law_cell_at" ["_law_script", "_law_k"] (spCellAt K)
theorem ok_cellAt {f : Addr} {fd : FuncData} (F : Fun K "_law_cell_at" "_law_cell_at" sCellAt f fd) (hm : mg "_law_cell_at" = some (.ref f)) (ml : mg "len" = none) : DCellAt P w K mg base f fd := by
  refine ⟨?_, hm, F.kp, F.binds fun _ _ _ _ _ _ us hl => match us, hl with | [_, _], _ => rfl⟩
  refine F.ok scCellAt (fun vs H Q E h => ?_) (fun cdv A outer s H vs Q E hr h => ?_)
  · obtain ⟨a, ns, k, rfl, _⟩ := h
    rfl
  · obtain ⟨a, ns, k, rfl, hk, hS, q⟩ := h
    refine ⟨_, pss_cons (ps_if (pt_cmpR op_lt (pv 1) (pe_callB call_len_seq (by rfl) ml PySem.boot_len (pa_cons (pv 0) pa_nil)) (nomark _))
        (pss_one (ps_ret (pe_ix ix_list (pv 0) (pv 1) (fun _ _ => rfl)))) pss_nil)
      (pss_one (ps_ret pe_int)), ?_⟩
    refine ⟨_, rfl, .ref a, rfl, a, _, rfl, .inl hS, _, _, rfl, rfl, _, rfl, ite2 (fun e => ?_) (fun e => ?_)⟩
    · have e1 : k < ((ns.map V.int).length : Int) := of_decide_eq_true e
      rw [List.length_map] at e1
      have hj : k.toNat < ns.length := by omega
      refine ⟨_, rfl, _, rfl, a, _, k, .int (ns[k.toNat]), rfl, rfl, hS, at_of (j := k.toNat) (by omega) ?_, q _⟩
      rw [List.getElem?_map, List.getElem?_eq_getElem hj]
      rfl
    · exact q 0
/-! ### _law_well -/
theorem scWell : FnScope ["_law_cell"] ["_law_cell"] (defScope sWell) := ⟨rfl, rfl, rfl, by decide +kernel, rfl, by decide +kernel, by decide +kernel⟩
abbrev DWell (P : Program) (w : World) (K : PySem.W.Frag) (mg : Str → Option Value) (base : Heap) := Df P w K mg base 1 "_law_well" ["_law_cell"] spWell
theorem ok_well {f : Addr} {fd : FuncData} (F : Fun K "_law_well" "_law_well" sWell f fd) (hm : mg "_law_well" = some (.ref f)) (mi : mg "int" = none) : DWell P w K mg base f fd := by
  refine ⟨?_, hm, F.kp, F.binds fun _ _ _ _ _ _ us hl => match us, hl with | [_], _ => rfl⟩
  refine F.ok scWell (fun vs H Q E h => ?_) (fun cdv A outer s H vs Q E hr h => ?_)
  · obtain ⟨z, rfl, _⟩ := h
    rfl
  · obtain ⟨z, rfl, q⟩ := h
    refine ⟨_, pss_one (ps_ret (pe_lst (pa_cons (pe_op op_mul (pv 0) (pe_callTy call_int1 (by rfl) mi (by decide +kernel) (pa_cons (pe_cmpR op_ge (pv 0) (pe_op op_pow pe_int pe_int) (nomark _)) pa_nil)))
      (pa_cons (pe_op op_mod (pv 0) pe_int) (pa_cons pe_int pa_nil))))), ?_⟩
    refine ⟨_, rfl, _, rfl, _, _, rfl, rfl, ⟨by decide, by decide, by decide⟩, _, _, rfl, rfl, .inr ⟨_, rfl, _, _, rfl, rfl, .inr ?_, ?_⟩⟩
    · cases decide (10 ^ (18 : Int).toNat ≤ z) with
      | true => exact ⟨by decide, by decide⟩
      | false => exact ⟨by decide, by decide⟩
    · refine ⟨_, rfl, _, _, rfl, rfl, (by show (0 : Int) < 2147483629; decide), (by show 3 ≤ sizeLine; decide), fun p hp => ?_⟩
      exact q p _ hp (same_new hp) ⟨_, _, _, upd_same⟩
end
end Lag

set_option maxRecDepth 100000
set_option maxHeartbeats 4000000
namespace Lag
open PySem PySem.Spec PyProof.Rows L2
section
variable {P : Program} {w : World} {K : PySem.W.Frag} {mg : Str → Option Value} {base : Heap}
/-! ### _law_draw -/
theorem scDraw : FnScope ["_law_well_here", "_law_many", "_law_found", "_law_number"] ["_law_well_here", "_law_many"] (defScope sDraw) := ⟨rfl, rfl, rfl, by decide +kernel, rfl, by decide +kernel, by decide +kernel⟩
theorem mod_b {x n : Int} (h : 0 < n) (hn : n ≤ 4294967296) : -(2 ^ 64) < x % n ∧ x % n < 2 ^ 64 := by
  have h1 := Int.emod_nonneg x (show n ≠ 0 by omega)
  have h2 := Int.emod_lt_of_pos x h
  constructor
  · have e : (-(2 ^ 64) : Int) = -18446744073709551616 := by decide
    omega
  · have e : (2 ^ 64 : Int) = 18446744073709551616 := by decide
    omega
abbrev DDraw (P : Program) (w : World) (K : PySem.W.Frag) (mg : Str → Option Value) (base : Heap) := Df P w K mg base 1 "_law_draw" ["_law_well_here", "_law_many"] spDraw
theorem ok_draw {f : Addr} {fd : FuncData} (F : Fun K "_law_draw" "_law_draw" sDraw f fd) (hm : mg "_law_draw" = some (.ref f)) : DDraw P w K mg base f fd := by
  refine ⟨?_, hm, F.kp, F.binds fun _ _ _ _ _ _ us hl => match us, hl with | [_, _], _ => rfl⟩
  refine F.ok scDraw (fun vs H Q E h => ?_) (fun cdv A outer s H vs Q E hr h => ?_)
  · obtain ⟨wl, n, rfl, _⟩ := h
    rfl
  · obtain ⟨wl, n, rfl, hn, hn2, ⟨a, b, c, hw⟩, q⟩ := h
    refine ⟨_, pss_cons (ps_if (pt_cmpR op_gt (pe_ix ix_list (pv 0) pe_int (fun _ _ => rfl)) pe_int (nomark _))
        (pss_cons (ps_set (i := 2) scDraw.nd rfl (Or.inl rfl) (pe_op op_mod (pe_ix ix_list (pv 0) pe_int (fun _ _ => rfl)) (pv 1)))
        (pss_cons (ps_asg (pe_op op_fdiv (pe_ix ix_list (pv 0) pe_int (fun _ _ => rfl)) (pv 1)) (pg_sub (pv 0) pe_int set_list))
        (pss_one (ps_ret (pv 2))))) pss_nil)
      (pss_cons (ps_asg (pe_op op_add (pe_ix ix_list (pv 0) pe_int (fun _ _ => rfl)) pe_int) (pg_sub (pv 0) pe_int set_list))
      (pss_cons (ps_set (i := 3) scDraw.nd rfl (Or.inl rfl) (pe_op op_mod (pe_op op_mul (pe_op op_add (pe_op op_add (pe_ix ix_list (pv 0) pe_int (fun _ _ => rfl)) (pe_op op_mul pe_int (pe_ix ix_list (pv 0) pe_int (fun _ _ => rfl)))) pe_int) pe_int) pe_int))
      (pss_cons (ps_set (i := 3) scDraw.nd rfl (Or.inl rfl) (pe_op op_mod (pe_op op_mul (pv 3) (pe_op op_add (pe_op op_add (pe_op op_fdiv (pv 3) pe_int) pe_int) (pe_ix ix_list (pv 0) pe_int (fun _ _ => rfl)))) pe_int))
      (pss_one (ps_ret (pe_op op_mod (pe_op op_fdiv (pe_op op_mod (pe_op op_mul (pv 3) (pe_op op_add (pe_op op_fdiv (pv 3) pe_int) pe_int)) pe_int) pe_int) (pv 1))))))), ?_⟩
    refine ⟨_, rfl, wl, _, 0, .int a, rfl, rfl, SqL.of hw, atI_nat (j := 0) rfl, _, _, rfl, rfl, _, rfl, ite2 (fun e => ?_) (fun e => ?_)⟩
    · refine ⟨_, rfl, wl, _, 0, .int a, rfl, rfl, SqL.of hw, atI_nat (j := 0) rfl, _, rfl, _, _, rfl, rfl, hn, ?_⟩
      refine ⟨_, rfl, wl, _, 0, .int a, rfl, rfl, SqL.of hw, atI_nat (j := 0) rfl, _, rfl, _, _, rfl, rfl, ⟨hn, by omega⟩, ?_⟩
      refine ⟨_, rfl, wl, _, 0, 0, rfl, rfl, hw, rfl, ?_⟩
      refine ⟨_, rfl, ?_⟩
      exact q _ _ (Int.emod_nonneg _ (by omega)) (Int.emod_lt_of_pos _ hn) ⟨But.upd, ⟨_, _, _, upd_same⟩⟩
    · have h1 : (upd H wl (HO.lst [.int a, .int b, .int (c + 1)])) wl = some (.lst [.int a, .int b, .int (c + 1)]) := upd_same
      refine ⟨_, rfl, wl, _, 2, .int c, rfl, rfl, SqL.of hw, atI_nat (j := 2) rfl, _, _, rfl, rfl, ?_⟩
      refine ⟨_, rfl, wl, _, 2, 2, rfl, rfl, hw, rfl, ?_⟩
      refine ⟨_, rfl, wl, _, 1, .int b, rfl, rfl, SqL.of h1, atI_nat (j := 1) rfl, _, rfl, wl, _, 2, .int (c + 1), rfl, rfl, SqL.of h1, atI_nat (j := 2) rfl, _, _, rfl, rfl, .inl ⟨by decide, by decide⟩, _, _, rfl, rfl, _, _, rfl, rfl, _, _, rfl, rfl, .inr ⟨by decide, by decide⟩, _, _, rfl, rfl, (by show (0 : Int) < 2147483629; decide), ?_⟩
      refine ⟨_, rfl, _, rfl, _, _, rfl, rfl, ⟨by decide, by decide⟩, _, _, rfl, rfl, _, rfl, wl, _, 2, .int (c + 1), rfl, rfl, SqL.of h1, atI_nat (j := 2) rfl, _, _, rfl, rfl, _, _, rfl, rfl, .inl (mod_b (by decide) (by decide)), _, _, rfl, rfl, (by show (0 : Int) < 2147483587; decide), ?_⟩
      refine ⟨_, rfl, _, rfl, _, _, rfl, rfl, ⟨by decide, by decide⟩, _, _, rfl, rfl, _, _, rfl, rfl, .inl (mod_b (by decide) (by decide)), _, _, rfl, rfl, (by show (0 : Int) < 2147483563; decide), _, _, rfl, rfl, ⟨by decide, by decide⟩, _, rfl, _, _, rfl, rfl, hn, ?_⟩
      exact q _ _ (Int.emod_nonneg _ (by omega)) (Int.emod_lt_of_pos _ hn) ⟨But.upd, ⟨_, _, _, h1⟩⟩
/-! ### _law_one -/
theorem scOne : FnScope ["_law_well_here", "_law_some"] ["_law_well_here", "_law_some"] (defScope sOne) := ⟨rfl, rfl, rfl, by decide +kernel, rfl, by decide +kernel, by decide +kernel⟩
abbrev DOne (P : Program) (w : World) (K : PySem.W.Frag) (mg : Str → Option Value) (base : Heap) := Df P w K mg base 2 "_law_one" ["_law_well_here", "_law_some"] (spOne K)
theorem ok_one {f fD : Addr} {fd fdD : FuncData} (F : Fun K "_law_one" "_law_one" sOne f fd) (hm : mg "_law_one" = some (.ref f)) (D0 : DDraw P w K mg base fD fdD) (ml : mg "len" = none) : DOne P w K mg base f fd := by
  refine ⟨?_, hm, F.kp, F.binds fun _ _ _ _ _ _ us hl => match us, hl with | [_, _], _ => rfl⟩
  refine F.ok scOne (fun vs H Q E h => ?_) (fun cdv A outer s H vs Q E hr h => ?_)
  · obtain ⟨wl, l, xs, rfl, _⟩ := h
    rfl
  · obtain ⟨wl, l, xs, rfl, hl, hw, hS, h0, hz, q⟩ := h
    refine ⟨_, pss_one (ps_ret (pe_ix ix_list (pv 1) (pe_call D0.ok hr (by rfl) D0.mg D0.kp D0.bd .nil pass0 (pa_cons (pv 0) (pa_cons (pe_callB call_len_seq (by rfl) ml PySem.boot_len (pa_cons (pv 1) pa_nil)) pa_nil))) (fun _ _ => rfl))), ?_⟩
    have hp : 0 < xs.length := by
      cases xs with
      | nil => exact absurd rfl h0
      | cons x r => simp
    refine ⟨_, rfl, _, rfl, _, rfl, l, xs, rfl, .inl hS, wl, _, rfl, by omega, by omega, hw, fun d H' d0 d1 D => ?_⟩
    have hj : d.toNat < xs.length := by omega
    refine ⟨l, xs, d, xs[d.toNat], rfl, rfl, D.but.seq hl hS, at_of (j := d.toNat) (by omega) (List.getElem?_eq_getElem hj), ?_⟩
    exact q _ _ (List.getElem_mem hj) D
end
end Lag

set_option maxRecDepth 100000
set_option maxHeartbeats 4000000
namespace Lag
open PySem PySem.Spec PyProof.Rows L2
/-! ### what is kept of tuples -/
def isT : HO → Prop
  | .tup _ => True
  | .frz _ _ => True
  | _ => False
/-- tuples, and what is locked, stand as they stood -/
def TK (H H' : Hp) : Prop := ∀ a o, isT o → H a = some o → H' a = some o
theorem TK.refl (H : Hp) : TK H H := fun _ _ _ h => h
theorem TK.trans {H H1 H2 : Hp} (a : TK H H1) (b : TK H1 H2) : TK H H2 := fun c o t h => b c o t (a c o t h)
theorem TK.same {H H1 : Hp} (a : Same H H1) : TK H H1 := fun c o _ h => a c o h
theorem TK.new {p : Addr} {H : Hp} {o : HO} (h : H p = none) : TK H (upd H p o) := TK.same (same_new h)
theorem TK.lst {l : Addr} {H : Hp} {xs : List V} {o : HO} (h : H l = some (.lst xs)) : TK H (upd H l o) := fun c u t e => by
  have n : c ≠ l := fun z => by
    rw [z, h] at e
    cases e
    exact t
  rw [upd_ne n]
  exact e
theorem TK.dr {w : Addr} {H H' : Hp} (W : WellAt w H) (d : But w H H') : TK H H' := fun c u t e => by
  obtain ⟨x, y, z, h⟩ := W
  have n : c ≠ w := fun z => by
    rw [z, h] at e
    cases e
    exact t
  exact d _ _ n e
theorem TK.seq {K : PySem.W.Frag} {H H' : Hp} {a : Addr} {xs : List V} (t : TK H H') (h : SqT K H a xs) : SqT K H' a xs := by
  rcases h with (h | ⟨o, h⟩) | h
  · exact .inl (.inl (t _ _ trivial h))
  · exact .inl (.inr ⟨o, t _ _ trivial h⟩)
  · exact .inr h
/-! ### gates and wires as data -/
abbrev Gt := Str × Int
abbrev Wr := Nat × Nat × List Int
def kinds : List Str := ["in", "out", "sum", "times", "most", "least", "first", "one"]
def portK (k : Str) : Prop := k = "in" ∨ k = "out"
/-- a gate -/
def GOk (g : Gt) : Prop := g.1 ∈ kinds ∧ 0 ≤ g.2 ∧ g.2 ≤ 100 ∧ (portK g.1 → g.2 = 0)
def GateV (K : PySem.W.Frag) (H : Hp) (v : V) (g : Gt) : Prop := ∃ a, v = .ref a ∧ SqT K H a [.str g.1, .int g.2]
def WireV (K : PySem.W.Frag) (H : Hp) (v : V) (x : Wr) : Prop := ∃ a b, v = .ref a ∧ SqT K H a [.int x.1, .int x.2.1, .ref b] ∧ SqT K H b (x.2.2.map V.int)
theorem GateV.tk {K : PySem.W.Frag} {H H' : Hp} {v : V} {g : Gt} (t : TK H H') (h : GateV K H v g) : GateV K H' v g := by
  obtain ⟨a, e, s⟩ := h
  exact ⟨a, e, t.seq s⟩
theorem WireV.tk {K : PySem.W.Frag} {H H' : Hp} {v : V} {x : Wr} (t : TK H H') (h : WireV K H v x) : WireV K H' v x := by
  obtain ⟨a, b, e, s, s2⟩ := h
  exact ⟨a, b, e, t.seq s, t.seq s2⟩
/-! ### _law_gate -/
def kinds11 : List Str := ["in", "in", "sum", "times", "most", "least", "first", "one", "sum", "out", "out"]
theorem k11 : ∀ k ∈ kinds11, k ∈ kinds := by decide +kernel
abbrev sGate' : Stmt := sGate
def spGate (K : PySem.W.Frag) : Sp := fun vs H Q _ => ∃ (wl : Addr) (b : Bool), vs = [.ref wl, .bl b] ∧ WellAt wl H ∧ ∀ (g : Gt) p H', GOk g → (b = true → g.1 ≠ "out") → Dr wl H H' → H p = none → H' p = some (.tup [.str g.1, .int g.2]) → Q (.ref p) H'
section
variable {P : Program} {w : World} {K : PySem.W.Frag} {mg : Str → Option Value} {base : Heap}
theorem scGate : FnScope ["_law_well_here", "_law_first", "_law_kind"] ["_law_well_here", "_law_first"] (defScope sGate) := ⟨rfl, rfl, rfl, by decide +kernel, rfl, by decide +kernel, by decide +kernel⟩
abbrev DGate (P : Program) (w : World) (K : PySem.W.Frag) (mg : Str → Option Value) (base : Heap) := Df P w K mg base 3 "_law_gate" ["_law_well_here", "_law_first"] (spGate K)
theorem Dr.new {wl p : Addr} {H : Hp} {o : HO} (W : WellAt wl H) (h : H p = none) : Dr wl H (upd H p o) := ⟨But.new h, W.new h⟩
theorem ok_gate {f fD fO : Addr} {fd fdD fdO : FuncData} (F : Fun K "_law_gate" "_law_gate" sGate f fd) (hm : mg "_law_gate" = some (.ref f)) (DD : DDraw P w K mg base fD fdD) (DO : DOne P w K mg base fO fdO) : DGate P w K mg base f fd := by
  refine ⟨?_, hm, F.kp, F.binds fun _ _ _ _ _ _ us hl => match us, hl with | [_, _], _ => rfl⟩
  refine F.ok scGate (fun vs H Q E h => ?_) (fun cdv A outer s H vs Q E hr h => ?_)
  · obtain ⟨wl, b, rfl, _⟩ := h
    rfl
  · obtain ⟨wl, b, rfl, hw, q⟩ := h
    have hr1 : Room 1 _ := hr.mono (by decide)
    refine ⟨_, pss_cons (ps_set (i := 2) scGate.nd rfl (Or.inl rfl) (pe_call DO.ok hr (by rfl) DO.mg DO.kp DO.bd .nil pass0 (pa_cons (pv 0) (pa_cons (pe_lst
        (pa_cons pe_str (pa_cons pe_str (pa_cons pe_str (pa_cons pe_str (pa_cons pe_str (pa_cons pe_str (pa_cons pe_str (pa_cons pe_str (pa_cons pe_str (pa_cons pe_str (pa_cons pe_str pa_nil)))))))))))) pa_nil))))
      (Evl.pss_cut (ps_if (PW.pt (pw_and (pt_val (pv 1)) (pw_and1 (pt_cmpR op_eq (pv 2) pe_str (nomark _))))) (pss_one (ps_set (i := 2) scGate.nd rfl (Or.inl rfl) pe_str)) pss_nil)
      (pss_cons (ps_if (pt_cmpR op_in_seq (pv 2) (pe_tup (pa_cons pe_str (pa_cons pe_str pa_nil))) (by rfl)) (pss_one (ps_ret (pe_tup (pa_cons (pv 2) (pa_cons pe_int pa_nil))))) pss_nil)
      (pss_one (ps_ret (pe_tup (pa_cons (pv 2) (pa_cons (pe_call DO.ok hr (by rfl) DO.mg DO.kp DO.bd .nil pass0 (pa_cons (pv 0) (pa_cons (pe_lst
        (pa_cons (pe_call DD.ok hr1 (by rfl) DD.mg DD.kp DD.bd .nil pass0 (pa_cons (pv 0) (pa_cons pe_int pa_nil))) (pa_cons (pe_call DD.ok hr1 (by rfl) DD.mg DD.kp DD.bd .nil pass0 (pa_cons (pv 0) (pa_cons pe_int pa_nil))) (pa_cons pe_int (pa_cons pe_int pa_nil))))) pa_nil))) pa_nil))))))), ?_⟩
    refine ⟨_, rfl, (by show 11 ≤ sizeLine; decide), fun l hl => ?_⟩
    refine ⟨wl, l, kinds11.map V.str, rfl, (hw.ne hl).symm, hw.new hl, SqL.of upd_same, by decide, by decide, fun v H1 hv D1 => ?_⟩
    have D1 : Dr wl H H1 := (Dr.new hw hl).trans D1
    obtain ⟨k0, hk0, rfl⟩ := List.mem_map.mp hv
    have hk0 := k11 k0 hk0
    -- if first and kind == 'out'
    refine ⟨fun σ H2 => ∃ k : Str, k ∈ kinds ∧ (b = true → k ≠ "out") ∧ σ = [some (.ref wl), some (.bl b), some (.str k)] ∧ H2 = H1, ?_, ?_⟩
    · refine ⟨_, rfl, b, rfl, ?_⟩
      refine ite2 (fun e => ?_) (fun e => ?_)
      · refine ⟨_, rfl, rfl, _, rfl, ite2 (fun e2 => ?_) (fun e2 => ?_)⟩
        · exact ⟨"in", by decide +kernel, fun _ => by decide +kernel, rfl, rfl⟩
        · exact ⟨k0, hk0, fun _ z => e2 (decide_eq_true (by rw [z])), rfl, rfl⟩
      · exact iteF ⟨k0, hk0, fun z => absurd z e, rfl, rfl⟩
    · rintro σ H2 ⟨k, hk, hb, rfl, rfl⟩
      -- if kind in ('in', 'out')
      refine ⟨_, rfl, (by show 2 ≤ sizeLine; decide), fun t ht => ?_⟩
      have Dt : Dr wl H (upd H2 t (.tup [.str "in", .str "out"])) := D1.trans (Dr.new D1.well ht)
      refine ⟨t, _, rfl, .inr (.inl (.inl upd_same)), rfl, rfl, _, rfl, ite2 (fun e => ?_) (fun e => ?_)⟩
      · refine ⟨_, rfl, (by show 2 ≤ sizeLine; decide), fun p hp => ?_⟩
        exact q (k, 0) p _ ⟨hk, Int.le_refl 0, (by show (0 : Int) ≤ 100; decide), fun _ => rfl⟩ hb (Dt.trans (Dr.new Dt.well hp)) (Dt.free hw hp) upd_same
      · refine ⟨_, rfl, _, rfl, _, rfl, wl, 10, rfl, by decide, by decide, Dt.well, fun d1 H3 a1 b1 E1 => ?_⟩
        have D3 := Dt.trans E1
        refine ⟨_, rfl, wl, 101, rfl, by decide, by decide, D3.well, fun d2 H4 a2 b2 E2 => ?_⟩
        have D4 := D3.trans E2
        refine ⟨(by show 4 ≤ sizeLine; decide), fun l2 hl2 => ?_⟩
        have D5 := D4.trans (Dr.new (o := .lst [.int d1, .int d2, .int 0, .int 100]) D4.well hl2)
        refine ⟨wl, l2, [.int d1, .int d2, .int 0, .int 100], rfl, (D4.well.ne hl2).symm, D5.well, SqL.of upd_same, by simp, by show 4 < 1000000; decide, fun v H6 hv E3 => ?_⟩
        have D6 := D5.trans E3
        obtain ⟨wt, rfl, w0, w1⟩ : ∃ wt, v = V.int wt ∧ 0 ≤ wt ∧ wt ≤ 100 := by
          simp only [List.mem_cons, List.not_mem_nil, or_false] at hv
          rcases hv with rfl | rfl | rfl | rfl
          · exact ⟨d1, rfl, a1, by omega⟩
          · exact ⟨d2, rfl, a2, by omega⟩
          · exact ⟨0, rfl, by decide, by decide⟩
          · exact ⟨100, rfl, by decide, by decide⟩
        refine ⟨(by show 2 ≤ sizeLine; decide), fun p hp => ?_⟩
        refine q (k, wt) p _ ⟨hk, w0, w1, fun hpk => ?_⟩ hb (D6.trans (Dr.new D6.well hp)) (D6.free hw hp) upd_same
        exact absurd (by rcases hpk with z | z <;> (have z' : k = _ := z; rw [z']; decide +kernel)) e
end
end Lag

set_option maxRecDepth 100000
set_option maxHeartbeats 4000000
namespace Lag
open PySem PySem.Spec PyProof.Rows L2
abbrev sWire : Stmt := topS 52
/-- registers' worths -/
def ROk (r : List Int) : Prop := ∀ x ∈ r, 0 ≤ x ∧ x ≤ 96
def spWire (K : PySem.W.Frag) : Sp := fun vs H Q _ => ∃ (wl : Addr) (a b : Nat), vs = [.ref wl, .int a, .int b] ∧ WellAt wl H ∧ ∀ (r : List Int) v H', ROk r → r.length ≤ 2 → (b ≤ a → r ≠ []) → Dr wl H H' → WireV K H' v (a, b, r) → Q v H'
/-- a comprehension without a test keeps each item -/
theorem tyes {σ : L2.St} {H : Hp} {A B : Hp → Prop} (h : A H) : tYes σ H (fun b H3 => if b = true then A H3 else B H3) := by
  show if true = true then A H else B H
  rw [if_pos rfl]
  exact h
theorem menu3 {d1 d2 : Int} {v : V} (hv : v ∈ [V.int d1, V.int d2, V.int 96]) (a1 : 0 ≤ d1) (b1 : d1 < 97) (a2 : 0 ≤ d2) (b2 : d2 < 97) : ∃ x, v = V.int x ∧ 0 ≤ x ∧ x ≤ 96 := by
  simp only [List.mem_cons, List.not_mem_nil, or_false] at hv
  rcases hv with rfl | rfl | rfl
  · exact ⟨d1, rfl, a1, by omega⟩
  · exact ⟨d2, rfl, a2, by omega⟩
  · exact ⟨96, rfl, by decide, by decide⟩
section
variable {P : Program} {w : World} {K : PySem.W.Frag} {mg : Str → Option Value} {base : Heap}
theorem scWire : FnScope ["_law_well_here", "_law_start", "_law_end", "_law_many", "_law_k"] ["_law_well_here", "_law_start", "_law_end"] (defScope sWire) := ⟨rfl, rfl, rfl, by decide +kernel, rfl, by decide +kernel, by decide +kernel⟩
abbrev DWire (P : Program) (w : World) (K : PySem.W.Frag) (mg : Str → Option Value) (base : Heap) := Df P w K mg base 3 "_law_wire" ["_law_well_here", "_law_start", "_law_end"] (spWire K)
theorem ok_wire {f fD fO : Addr} {fd fdD fdO : FuncData} (F : Fun K "_law_wire" "_law_wire" sWire f fd) (hm : mg "_law_wire" = some (.ref f)) (DD : DDraw P w K mg base fD fdD) (DO : DOne P w K mg base fO fdO) (mx : mg "max" = none) (mt : mg "tuple" = none) (mr : mg "range" = none) : DWire P w K mg base f fd := by
  refine ⟨?_, hm, F.kp, F.binds fun _ _ _ _ _ _ us hl => match us, hl with | [_, _, _], _ => rfl⟩
  refine F.ok scWire (fun vs H Q E h => ?_) (fun cdv A outer s H vs Q E hr h => ?_)
  · obtain ⟨wl, a, b, rfl, _⟩ := h
    rfl
  · obtain ⟨wl, a, b, rfl, hw, q⟩ := h
    have hr1 : Room 1 _ := hr.mono (by decide)
    refine ⟨_, pss_cons (ps_set (i := 3) scWire.nd rfl (Or.inl rfl) (pe_call DO.ok hr (by rfl) DO.mg DO.kp DO.bd .nil pass0 (pa_cons (pv 0) (pa_cons (pe_lst
        (pa_cons pe_int (pa_cons pe_int (pa_cons pe_int (pa_cons pe_int pa_nil))))) pa_nil))))
      (Evl.pss_cut (ps_if (pt_cmpR op_ge (pv 1) (pv 2) (nomark _)) (pss_one (ps_set (i := 3) scWire.nd rfl (Or.inl rfl) (pe_callB (call_max2 rfl) (by rfl) mx (by decide +kernel) (pa_cons pe_int (pa_cons (pv 3) pa_nil))))) pss_nil)
      (pss_one (ps_ret (pe_tup (pa_cons (pv 1) (pa_cons (pv 2) (pa_cons (pe_callTy call_tuple_of (by rfl) mt (by decide +kernel) (pa_cons
        (pe_lc (own := [("_law_k", 4)]) (g := gName 4) (tt := tYes) rfl scWire.nd (pi_range1 (by rfl) mr (pa_cons (pv 3) pa_nil)) (blkOk_by (N := ["_law_well_here", "_law_start", "_law_end", "_law_many", "_law_k"]) (sc := defScope sWire) (own := [("_law_k", 4)]) (by decide +kernel)) (fun _ _ _ _ _ => pg_name (i := 4) scWire.nd rfl (Or.inl rfl)) (fun _ _ _ _ _ => pts_nil)
          (fun _ _ _ _ _ => pe_call DO.ok hr (by rfl) DO.mg DO.kp DO.bd .nil pass0 (pa_cons (pv 0) (pa_cons (pe_lst
            (pa_cons (pe_call DD.ok hr1 (by rfl) DD.mg DD.kp DD.bd .nil pass0 (pa_cons (pv 0) (pa_cons pe_int pa_nil))) (pa_cons (pe_call DD.ok hr1 (by rfl) DD.mg DD.kp DD.bd .nil pass0 (pa_cons (pv 0) (pa_cons pe_int pa_nil))) (pa_cons pe_int pa_nil)))) pa_nil)))) pa_nil)) pa_nil))))))), ?_⟩
    refine ⟨_, rfl, (by show 4 ≤ sizeLine; decide), fun l hl => ?_⟩
    refine ⟨wl, l, [.int 0, .int 0, .int 1, .int 2], rfl, (hw.ne hl).symm, hw.new hl, SqL.of upd_same, by simp, by show 4 < 1000000; decide, fun v H1 hv D1 => ?_⟩
    have D1 : Dr wl H H1 := (Dr.new hw hl).trans D1
    obtain ⟨m0, rfl, m1, m2⟩ : ∃ m0, v = V.int m0 ∧ 0 ≤ m0 ∧ m0 ≤ 2 := by
      simp only [List.mem_cons, List.not_mem_nil, or_false] at hv
      rcases hv with rfl | rfl | rfl | rfl
      · exact ⟨0, rfl, by decide, by decide⟩
      · exact ⟨0, rfl, by decide, by decide⟩
      · exact ⟨1, rfl, by decide, by decide⟩
      · exact ⟨2, rfl, by decide, by decide⟩
    refine ⟨fun σ H2 => ∃ m : Int, 0 ≤ m ∧ m ≤ 2 ∧ (b ≤ a → 1 ≤ m) ∧ σ = [some (.ref wl), some (.int a), some (.int b), some (.int m), none] ∧ H2 = H1, ?_, ?_⟩
    · refine ⟨_, rfl, _, rfl, _, _, rfl, rfl, _, rfl, ite2 (fun e => ?_) (fun e => ?_)⟩
      · refine ⟨_, rfl, _, _, rfl, ?_⟩
        refine ⟨_, ?_, ?_, ?_, rfl, rfl⟩
        · split <;> omega
        · split <;> omega
        · intro _; split <;> omega
      · exact ⟨m0, m1, m2, fun z => absurd (decide_eq_true (by omega)) e, rfl, rfl⟩
    · rintro σ H2 ⟨m, m1, m2, m3, rfl, rfl⟩
      refine ⟨_, rfl, _, rfl, _, rfl, m, rfl, by omega, by omega, fun D hD => ?_⟩
      refine lc_range (lo := 0) (n := m.toNat) (fun i H3 => ∃ r : List Int, r.length = i ∧ ROk r ∧ H3 D = some (.lst (r.map V.int)) ∧ Dr wl H H3) ⟨[], rfl, by simp [ROk], upd_same, D1.trans (Dr.new D1.well hD)⟩ ?_ ?_
      · rintro i H3 hi ⟨r, hrl, hrk, hrD, D3⟩
        refine ⟨rfl, tyes ?_⟩
        refine ⟨_, rfl, _, rfl, wl, 97, rfl, by decide, by decide, D3.well, fun d1 H4 a1 b1 E1 => ?_⟩
        have D4 := D3.trans E1
        refine ⟨_, rfl, wl, 3, rfl, by decide, by decide, D4.well, fun d2 H5 a2 b2 E2 => ?_⟩
        have D5 := D4.trans E2
        refine ⟨(by show 3 ≤ sizeLine; decide), fun l2 hl2 => ?_⟩
        refine ⟨wl, l2, [.int d1, .int d2, .int 96], rfl, (D5.well.ne hl2).symm, D5.well.new hl2, SqL.of upd_same, by simp, by show 3 < 1000000; decide, fun v H6 hv E3 => ?_⟩
        have D6 := (D5.trans (Dr.new D5.well hl2)).trans E3
        obtain ⟨x, rfl, x0, x1⟩ := menu3 hv a1 b1 a2 (by omega)
        have nD : D ≠ wl := (D1.well.ne hD).symm
        have h6 : H6 D = some (.lst (r.map V.int)) := by
          refine E3.but _ _ nD ?_
          have h5 := E2.but _ _ nD (E1.but _ _ nD hrD)
          rw [upd_ne (ne_of_none h5 hl2)]
          exact h5
        refine ⟨_, h6, by rw [List.length_map, hrl]; exact small1000 (by omega), r ++ [x], by simp [hrl], ?_, ?_, ?_⟩
        · intro y hy
          rcases List.mem_append.mp hy with hy | hy
          · exact hrk y hy
          · simp at hy; subst hy; exact ⟨x0, x1⟩
        · rw [upd_same, List.map_append]; rfl
        · refine ⟨fun c o n e => ?_, ?_⟩
          · rw [upd_ne (ne_of_none e (D1.free hw hD))]
            exact D6.but c o n e
          · obtain ⟨x1, x2, x3, hx⟩ := D6.well
            exact ⟨x1, x2, x3, by rw [upd_ne nD.symm]; exact hx⟩
      · rintro H3 ⟨r, hrl, hrk, hrD, D3⟩
        refine ⟨D, _, rfl, .inl ⟨SqL.of hrD, fun t ht => ⟨(by show 3 ≤ sizeLine; decide), fun p hp => ?_⟩⟩⟩
        have D4 := D3.trans (Dr.new (o := .tup (r.map V.int)) D3.well ht)
        refine q r (.ref p) _ hrk (by omega) (fun z => ?_) (D4.trans (Dr.new D4.well hp)) ⟨p, t, rfl, .inl (.inl upd_same), ?_⟩
        · intro z2
          have := m3 z
          rw [z2] at hrl
          simp at hrl
          omega
        · have e : (upd H3 t (.tup (r.map V.int))) t = some (.tup (r.map V.int)) := upd_same
          exact .inl (.inl (by rw [upd_ne (ne_of_none e hp)]; exact e))
end
end Lag

set_option maxRecDepth 100000
set_option maxHeartbeats 4000000
namespace Lag
open PySem PySem.Spec PyProof.Rows L2
/-! ### two lists, place by place -/
def All2 {α β : Type} (R : α → β → Prop) (xs : List α) (ys : List β) : Prop := xs.length = ys.length ∧ ∀ (i : Nat) (x : α) (y : β), xs[i]? = some x → ys[i]? = some y → R x y
section
variable {α β : Type} {R S : α → β → Prop} {xs : List α} {ys : List β} {x : α} {y : β}
theorem All2.nil : All2 R [] [] := ⟨rfl, fun i x y h => by simp at h⟩
theorem All2.imp (h : All2 R xs ys) (f : ∀ x y, R x y → S x y) : All2 S xs ys := ⟨h.1, fun i x y a b => f x y (h.2 i x y a b)⟩
theorem All2.snoc (h : All2 R xs ys) (r : R x y) : All2 R (xs ++ [x]) (ys ++ [y]) := by
  refine ⟨by simp [h.1], fun i a b ha hb => ?_⟩
  by_cases hi : i < xs.length
  · rw [List.getElem?_append_left hi] at ha
    rw [List.getElem?_append_left (by rw [← h.1]; exact hi)] at hb
    exact h.2 i a b ha hb
  · rw [List.getElem?_append_right (by omega)] at ha
    rw [List.getElem?_append_right (by rw [← h.1]; omega), ← h.1] at hb
    cases e : i - xs.length with
    | zero =>
      rw [e] at ha hb
      simp at ha hb
      subst ha hb
      exact r
    | succ n =>
      rw [e] at ha
      simp at ha
theorem All2.cons (r : R x y) (h : All2 R xs ys) : All2 R (x :: xs) (y :: ys) := by
  refine ⟨by simp [h.1], fun i a b ha hb => ?_⟩
  cases i with
  | zero =>
    simp at ha hb
    subst ha hb
    exact r
  | succ n => exact h.2 n a b (by simpa using ha) (by simpa using hb)
theorem All2.head {x : α} {y : β} (h : All2 R (x :: xs) (y :: ys)) : R x y := h.2 0 x y rfl rfl
theorem All2.tail {x : α} {y : β} (h : All2 R (x :: xs) (y :: ys)) : All2 R xs ys := ⟨by have := h.1; simp at this; exact this, fun i a b ha hb => h.2 (i + 1) a b (by simpa using ha) (by simpa using hb)⟩
theorem All2.get (h : All2 R xs ys) {i : Nat} {x : α} (e : xs[i]? = some x) : ∃ y, ys[i]? = some y ∧ R x y := by
  have hi := (List.getElem?_eq_some_iff.mp e).1
  have hj : i < ys.length := by rw [← h.1]; exact hi
  exact ⟨ys[i], List.getElem?_eq_getElem hj, h.2 i x _ e (List.getElem?_eq_getElem hj)⟩
theorem All2.getR (h : All2 R xs ys) {i : Nat} {y : β} (e : ys[i]? = some y) : ∃ x, xs[i]? = some x ∧ R x y := by
  have hi := (List.getElem?_eq_some_iff.mp e).1
  have hj : i < xs.length := by rw [h.1]; exact hi
  exact ⟨xs[i], List.getElem?_eq_getElem hj, h.2 i _ y (List.getElem?_eq_getElem hj) e⟩
theorem All2.perm {xs' : List α} (p : xs'.Perm xs) : ∀ {ys : List β}, All2 R xs ys → ∃ ys', ys'.Perm ys ∧ All2 R xs' ys' := by
  induction p with
  | nil => intro ys h; exact ⟨ys, .refl _, h⟩
  | @cons a l1 l2 p ih =>
    intro ys h
    cases ys with
    | nil => have := h.1; simp at this
    | cons y ys =>
      obtain ⟨ys', p', h'⟩ := ih h.tail
      exact ⟨y :: ys', p'.cons y, h'.cons h.head⟩
  | swap a b l =>
    intro ys h
    match ys, h with
    | [], h => have := h.1; simp at this
    | [_], h => have := h.1; simp at this
    | y :: z :: ys, h => exact ⟨z :: y :: ys, .swap _ _ _, All2.cons h.tail.head (All2.cons h.head h.tail.tail)⟩
  | trans p1 p2 ih1 ih2 =>
    intro ys h
    obtain ⟨ys1, q1, h1⟩ := ih2 h
    obtain ⟨ys2, q2, h2⟩ := ih1 h1
    exact ⟨ys2, q2.trans q1, h2⟩
end
/-! ### nets as data -/
def kindAt (gs : List Gt) (i : Nat) : Str := (gs.getD i ("", 0)).1
def cnt (ws : List Wr) (e : Nat) : Nat := ws.countP (fun x => x.2.1 == e)
/-- a wire between these gates -/
structure WOk (gs : List Gt) (x : Wr) : Prop where
  s : x.1 < gs.length
  e : x.2.1 < gs.length
  ks : kindAt gs x.1 ≠ "out"
  ke : kindAt gs x.2.1 ≠ "in"
  r : ROk x.2.2
  rl : x.2.2.length ≤ 100
structure NetOk (gs : List Gt) (ws : List Wr) : Prop where
  ne : gs ≠ []
  gl : gs.length ≤ 100
  wl : ws.length ≤ 1000
  gok : ∀ g ∈ gs, GOk g
  wok : ∀ x ∈ ws, WOk gs x
  one : ∀ e, e < gs.length → kindAt gs e = "out" → cnt ws e = 1
  some : ∀ e, e < gs.length → kindAt gs e = "first" → 1 ≤ cnt ws e
  rank : ∃ ρ : Nat → Nat, ∀ x ∈ ws, x.2.2 = [] → ρ x.1 < ρ x.2.1
/-- numbered anew: the gate k is the old gate at left's place k -/
theorem NetOk.anew {gs : List Gt} {ws : List Wr} {left : List Nat} (N : NetOk gs ws) (p : left.Perm (List.range gs.length)) {ws' : List Wr} (pw : ws'.Perm ws) :
    NetOk (left.map fun k => gs.getD k ("", 0)) (ws'.map fun x => (left.idxOf x.1, left.idxOf x.2.1, x.2.2)) := by
  have hl : left.length = gs.length := by rw [p.length_eq, List.length_range]
  have nd : left.Nodup := p.nodup_iff.mpr List.nodup_range
  have mem : ∀ i, i < gs.length → i ∈ left := fun i hi => p.mem_iff.mpr (List.mem_range.mpr hi)
  have memb : ∀ i, i ∈ left → i < gs.length := fun i hi => List.mem_range.mp (p.mem_iff.mp hi)
  have il : ∀ i, i < gs.length → left.idxOf i < left.length := fun i hi => List.idxOf_lt_length_iff.mpr (mem i hi)
  have ge : ∀ i (h : i < gs.length), left[left.idxOf i]? = Option.some i := fun i h => by
    rw [List.getElem?_eq_getElem (il i h), List.getElem_idxOf]
  have kk : ∀ i, i < gs.length → kindAt (left.map fun k => gs.getD k ("", 0)) (left.idxOf i) = kindAt gs i := fun i h => by
    unfold kindAt
    rw [List.getD_eq_getElem?_getD, List.getElem?_map, ge i h]
    rfl
  have inj : ∀ i j, i < gs.length → j < gs.length → left.idxOf i = left.idxOf j → i = j := fun i j hi hj e => by
    have h1 := ge i hi
    rw [e, ge j hj] at h1
    exact (Option.some.inj h1).symm
  have cc : ∀ e, e < gs.length → cnt (ws'.map fun x => (left.idxOf x.1, left.idxOf x.2.1, x.2.2)) (left.idxOf e) = cnt ws e := fun e he => by
    unfold cnt
    rw [List.countP_map, ← pw.countP_eq]
    refine List.countP_congr fun x hx => ?_
    have := (N.wok x (pw.mem_iff.mp hx)).e
    simp only [Function.comp, beq_iff_eq]
    exact ⟨fun z => inj _ _ this he z, fun z => by rw [z]⟩
  have back : ∀ e, e < left.length → ∃ i, i < gs.length ∧ left.idxOf i = e := fun e he => by
    refine ⟨left[e], memb _ (List.getElem_mem he), ?_⟩
    exact List.Nodup.idxOf_getElem nd e he
  obtain ⟨ρ, hρ⟩ := N.rank
  refine ⟨?_, by simpa [hl] using N.gl, by simpa [pw.length_eq] using N.wl, ?_, ?_, ?_, ?_, ?_⟩
  · intro z
    have := congrArg List.length z
    simp [hl] at this
    exact N.ne this
  · intro g hg
    obtain ⟨k, hk, rfl⟩ := List.mem_map.mp hg
    refine N.gok _ ?_
    rw [List.getD_eq_getElem?_getD, List.getElem?_eq_getElem (memb k hk)]
    exact List.getElem_mem _
  · intro y hy
    obtain ⟨x, hx, rfl⟩ := List.mem_map.mp hy
    have W := N.wok x (pw.mem_iff.mp hx)
    refine ⟨by simpa using il _ W.s, by simpa using il _ W.e, ?_, ?_, W.r, W.rl⟩
    · show kindAt _ (left.idxOf x.1) ≠ _
      rw [kk _ W.s]
      exact W.ks
    · show kindAt _ (left.idxOf x.2.1) ≠ _
      rw [kk _ W.e]
      exact W.ke
  · intro e he hk
    obtain ⟨i, hi, rfl⟩ := back e (by simpa using he)
    rw [kk i hi] at hk
    rw [cc i hi]
    exact N.one i hi hk
  · intro e he hk
    obtain ⟨i, hi, rfl⟩ := back e (by simpa using he)
    rw [kk i hi] at hk
    rw [cc i hi]
    exact N.some i hi hk
  · refine ⟨fun k => ρ (left.getD k 0), fun y hy h => ?_⟩
    obtain ⟨x, hx, rfl⟩ := List.mem_map.mp hy
    have W := N.wok x (pw.mem_iff.mp hx)
    have := hρ x (pw.mem_iff.mp hx) h
    simp only [List.getD_eq_getElem?_getD, ge _ W.s, ge _ W.e, Option.getD_some]
    exact this
end Lag

set_option maxRecDepth 100000
set_option maxHeartbeats 4000000
namespace Lag
open PySem PySem.Spec PyProof.Rows L2
/-! ### [left.pop(draw(well, len(left))) for k in range(len(left))] -/
theorem set_well {wl D : Addr} {H0 H : Hp} {o : HO} (d : Dr wl H0 H) (h0 : H0 D = none) (n : D ≠ wl) : Dr wl H0 (upd H D o) := by
  refine ⟨fun c u nc e => ?_, ?_⟩
  · rw [upd_ne (ne_of_none e h0)]
    exact d.but c u nc e
  · obtain ⟨x1, x2, x3, hx⟩ := d.well
    exact ⟨x1, x2, x3, by rw [upd_ne n.symm]; exact hx⟩
theorem perm_erase {α : Type} : ∀ (l : List α) (k : Nat) (h : k < l.length), (l[k] :: l.eraseIdx k).Perm l
  | [], k, h => by simp at h
  | a :: l, 0, _ => .refl _
  | a :: l, k + 1, h => by
    have h' : k < l.length := by simpa using h
    show (l[k] :: a :: l.eraseIdx k).Perm (a :: l)
    exact (List.Perm.swap _ _ _).trans ((perm_erase l k h').cons a)
theorem perm_pop {α : Type} {acc rem xs : List α} {k : Nat} {y : α} (h : (acc ++ rem).Perm xs) (e : rem[k]? = some y) : ((acc ++ [y]) ++ rem.eraseIdx k).Perm xs := by
  obtain ⟨hk, rfl⟩ := List.getElem?_eq_some_iff.mp e
  refine List.Perm.trans ?_ h
  rw [List.append_assoc]
  refine List.Perm.append_left acc ?_
  exact perm_erase rem k hk
def tLen (K : PySem.W.Frag) (i : Nat) : TE := tCB (Evl.rLenS K) (tCons (tVar i) tNil)
def popT (K : PySem.W.Frag) : TE := tLc (iRng1 (tCons (tLen K 10) tNil)) (gName 3) tYes (tBM K "list" rPopAt (tVar 10) (tCons (tCall spDraw [] E0 (tCons (tVar 0) (tCons (tLen K 10) tNil))) tNil)) [3]
theorem popAll {K : PySem.W.Frag} {σ : L2.St} {H : Hp} {Q : VK} {wl L : Addr} {vs : List V} (h0 : σ[0]? = some (some (.ref wl))) (h10 : σ[10]? = some (some (.ref L))) (hL : H L = some (.lst vs)) (hw : WellAt wl H) (hn : L ≠ wl) (hz : vs.length ≤ 1000)
    (q : ∀ D vs' H', vs'.Perm vs → H D = none → H' D = some (.lst vs') → (∀ b o, b ≠ wl → b ≠ L → H b = some o → H' b = some o) → WellAt wl H' → Q (.ref D) H') : popT K σ H Q := by
  have s0 : ∀ x, (((wipe σ [3]).set 3 x))[0]? = some (some (.ref wl)) := fun x => by
    show (((σ.set 3 none).set 3 x))[0]? = _
    rw [List.getElem?_set_ne (by decide), List.getElem?_set_ne (by decide)]
    exact h0
  have s10 : ∀ x, (((wipe σ [3]).set 3 x))[10]? = some (some (.ref L)) := fun x => by
    show (((σ.set 3 none).set 3 x))[10]? = _
    rw [List.getElem?_set_ne (by decide), List.getElem?_set_ne (by decide)]
    exact h10
  refine ⟨_, h10, L, vs, rfl, .inl (SqL.of hL), _, rfl, by omega, by omega, fun D hD => ?_⟩
  have nDL : L ≠ D := ne_of_none hL hD
  have nDw : D ≠ wl := (hw.ne hD).symm
  refine lc_range (lo := 0) (n := ((vs.length : Int)).toNat) (fun i H3 => ∃ acc rem : List V, acc.length = i ∧ (acc ++ rem).Perm vs ∧ H3 D = some (.lst acc) ∧ H3 L = some (.lst rem) ∧ (∀ b o, b ≠ wl → b ≠ L → H b = some o → H3 b = some o) ∧ WellAt wl H3)
    ⟨[], vs, rfl, by simp, upd_same, by rw [upd_ne nDL]; exact hL, fun b o _ _ e => by rw [upd_ne (ne_of_none e hD)]; exact e, hw.new hD⟩ ?_ ?_
  · rintro i H3 hi ⟨acc, rem, hal, hp, hDa, hLr, hk, hw3⟩
    have hlen : acc.length + rem.length = vs.length := by
      have := hp.length_eq
      simpa using this
    have hrem : 0 < rem.length := by omega
    refine ⟨?_, tyes ?_⟩
    · show ((σ.set 3 none).set 3 _).set 3 none = σ.set 3 none
      simp
    refine ⟨_, s10 _, .inl ⟨rfl, _, SqL.of hLr⟩, _, s0 _, _, s10 _, L, rem, rfl, .inl (SqL.of hLr), wl, _, rfl, by omega, by omega, hw3, fun d H4 d0 d1 E1 => ?_⟩
    have hj : d.toNat < rem.length := by omega
    have hLr4 := E1.but _ _ hn hLr
    have hDa4 := E1.but _ _ nDw hDa
    have hg : rem[d.toNat]? = some rem[d.toNat] := List.getElem?_eq_getElem hj
    refine ⟨L, rem, d, d.toNat, rem[d.toNat], rfl, rfl, hLr4, by omega, by omega, PySem.seqIndex_of d0 d1, hg, ?_⟩
    refine ⟨acc, by rw [upd_ne nDL.symm]; exact hDa4, small1000 (by omega), acc ++ [rem[d.toNat]], rem.eraseIdx d.toNat, by simp [hal], perm_pop hp hg, upd_same, ?_, ?_, ?_⟩
    · rw [upd_ne nDL, upd_same]
    · intro b o nb nL e
      rw [upd_ne (ne_of_none e hD), upd_ne nL]
      exact E1.but _ _ nb (hk b o nb nL e)
    · obtain ⟨x1, x2, x3, hx⟩ := E1.well
      exact ⟨x1, x2, x3, by rw [upd_ne nDw.symm, upd_ne hn.symm]; exact hx⟩
  · rintro H3 ⟨acc, rem, hal, hp, hDa, hLr, hk, hw3⟩
    have hlen : acc.length + rem.length = vs.length := by
      have := hp.length_eq
      simpa using this
    have hr : rem = [] := by
      cases rem with
      | nil => rfl
      | cons _ _ => simp at hlen; omega
    subst hr
    rw [List.append_nil] at hp
    exact q D acc H3 hp hD hDa hk hw3
end Lag

set_option maxRecDepth 100000
set_option maxHeartbeats 4000000
namespace Lag
open PySem PySem.Spec PyProof.Rows L2
abbrev sParts : Stmt := topS 53
/-! ### what stands while the parts are made -/
structure PS1 (K : PySem.W.Frag) (wl : Addr) (H0 H : Hp) (g : Addr) (gs : List Gt) : Prop where
  w0 : WellAt wl H0
  dr : Dr wl H0 H
  gn : H0 g = none
  gl : ∃ vs, H g = some (.lst vs) ∧ All2 (GateV K H) vs gs
  gok : ∀ x ∈ gs, GOk x
  g0 : ∀ x : Gt, gs[0]? = some x → x.1 ≠ ("out" : Str)
theorem PS1.step {K : PySem.W.Frag} {wl g : Addr} {H0 H H' : Hp} {gs : List Gt} (p : PS1 K wl H0 H g gs) (d : Dr wl H H') : PS1 K wl H0 H' g gs := by
  obtain ⟨vs, h, a⟩ := p.gl
  exact ⟨p.w0, p.dr.trans d, p.gn, ⟨vs, d.but _ _ (p.w0.ne p.gn).symm h, a.imp fun _ _ r => r.tk (TK.dr p.dr.well d.but)⟩, p.gok, p.g0⟩
structure PS2 (K : PySem.W.Frag) (wl : Addr) (H0 H : Hp) (g st wi : Addr) (gs : List Gt) (sts : List Nat) (ws : List Wr) : Prop extends PS1 K wl H0 H g gs where
  sn : H0 st = none
  sl : H st = some (.lst (sts.map fun i => V.int (i : Nat)))
  wn : H0 wi = none
  wv : ∃ vs, H wi = some (.lst vs) ∧ All2 (WireV K H) vs ws
  nsw : st ≠ wi
  ngw : g ≠ wi
theorem PS2.step {K : PySem.W.Frag} {wl g st wi : Addr} {H0 H H' : Hp} {gs : List Gt} {sts : List Nat} {ws : List Wr} (p : PS2 K wl H0 H g st wi gs sts ws) (d : Dr wl H H') : PS2 K wl H0 H' g st wi gs sts ws := by
  obtain ⟨vs, h, a⟩ := p.wv
  exact ⟨p.toPS1.step d, p.sn, d.but _ _ (p.w0.ne p.sn).symm p.sl, p.wn, ⟨vs, d.but _ _ (p.w0.ne p.wn).symm h, a.imp fun _ _ r => r.tk (TK.dr p.dr.well d.but)⟩, p.nsw, p.ngw⟩
theorem PS2.app {K : PySem.W.Frag} {wl g st wi : Addr} {H0 H : Hp} {gs : List Gt} {sts : List Nat} {ws : List Wr} {vs : List V} {v : V} {x : Wr} (p : PS2 K wl H0 H g st wi gs sts ws) (hv : H wi = some (.lst vs)) (hx : WireV K H v x) :
    PS2 K wl H0 (upd H wi (.lst (vs ++ [v]))) g st wi gs sts (ws ++ [x]) := by
  obtain ⟨vs', h, a⟩ := p.wv
  obtain ⟨gv, hg, ag⟩ := p.gl
  rw [hv] at h
  cases h
  have t : TK H (upd H wi (.lst (vs ++ [v]))) := TK.lst hv
  exact ⟨⟨p.w0, set_well p.dr p.wn (p.w0.ne p.wn).symm, p.gn, ⟨gv, by rw [upd_ne p.ngw]; exact hg, ag.imp fun _ _ r => r.tk t⟩, p.gok, p.g0⟩, p.sn, by rw [upd_ne p.nsw]; exact p.sl, p.wn, ⟨_, upd_same, (a.imp fun _ _ r => r.tk t).snoc (hx.tk t)⟩, p.nsw, p.ngw⟩
/-- the wires into the gates ahead of i -/
structure WInv (gs : List Gt) (ws : List Wr) (i : Nat) : Prop where
  ok : ∀ x ∈ ws, WOk gs x ∧ (x.2.2 = [] → x.1 < x.2.1) ∧ x.2.1 < i
  one : ∀ e, e < i → kindAt gs e = "out" → cnt ws e = 1
  some : ∀ e, e < i → kindAt gs e = "first" → 1 ≤ cnt ws e
  len : ws.length ≤ 3 * i
  r2 : ∀ x ∈ ws, x.2.2.length ≤ 2
/-- .. and j wires into the gate i -/
structure WInv2 (gs : List Gt) (ws : List Wr) (i j : Nat) : Prop where
  ok : ∀ x ∈ ws, WOk gs x ∧ (x.2.2 = [] → x.1 < x.2.1) ∧ x.2.1 < i + 1
  one : ∀ e, e < i → kindAt gs e = "out" → cnt ws e = 1
  some : ∀ e, e < i → kindAt gs e = "first" → 1 ≤ cnt ws e
  here : cnt ws i = j
  len : ws.length ≤ 3 * i + j
  r2 : ∀ x ∈ ws, x.2.2.length ≤ 2
theorem WInv.go {gs : List Gt} {ws : List Wr} {i : Nat} (h : WInv gs ws i) : WInv2 gs ws i 0 := by
  refine ⟨fun x hx => ⟨(h.ok x hx).1, (h.ok x hx).2.1, by have := (h.ok x hx).2.2; omega⟩, h.one, h.some, ?_, h.len, h.r2⟩
  unfold cnt
  rw [List.countP_eq_zero]
  intro x hx z
  have := (h.ok x hx).2.2
  simp at z
  omega
theorem WInv2.app {gs : List Gt} {ws : List Wr} {i j : Nat} {x : Wr} (h : WInv2 gs ws i j) (hx : WOk gs x) (hr : x.2.2 = [] → x.1 < x.2.1) (he : x.2.1 = i) (h2 : x.2.2.length ≤ 2) : WInv2 gs (ws ++ [x]) i (j + 1) := by
  have c : ∀ e, e < i → cnt (ws ++ [x]) e = cnt ws e := fun e he' => by
    unfold cnt
    rw [List.countP_append]
    have : (x.2.1 == e) = false := by simp; omega
    simp [List.countP_cons, this]
  refine ⟨fun y hy => ?_, fun e h1 h2 => by rw [c e h1]; exact h.one e h1 h2, fun e h1 h2 => by rw [c e h1]; exact h.some e h1 h2, ?_, by have := h.len; simp; omega, fun y hy => ?_⟩
  · rcases List.mem_append.mp hy with hy | hy
    · exact h.ok y hy
    · simp at hy
      subst hy
      exact ⟨hx, hr, by omega⟩
  · have := h.here
    unfold cnt at this ⊢
    rw [List.countP_append, this]
    simp [List.countP_cons, he]
  · rcases List.mem_append.mp hy with hy | hy
    · exact h.r2 y hy
    · simp at hy
      subst hy
      exact h2
theorem WInv2.done {gs : List Gt} {ws : List Wr} {i j : Nat} (h : WInv2 gs ws i j) (h1 : kindAt gs i = "out" → j = 1) (h2 : kindAt gs i = "first" → 1 ≤ j) (hj : j ≤ 3) : WInv gs ws (i + 1) := by
  refine ⟨fun x hx => h.ok x hx, fun e he hk => ?_, fun e he hk => ?_, by have := h.len; omega, h.r2⟩
  · by_cases hi : e = i
    · subst hi
      rw [h.here]
      exact h1 hk
    · exact h.one e (by omega) hk
  · by_cases hi : e = i
    · subst hi
      rw [h.here]
      exact h2 hk
    · exact h.some e (by omega) hk
theorem WInv.net {gs : List Gt} {ws : List Wr} (h : WInv gs ws gs.length) (ne : gs ≠ []) (gl : gs.length ≤ 100) (gok : ∀ g ∈ gs, GOk g) : NetOk gs ws :=
  ⟨ne, gl, by have := h.len; omega, gok, fun x hx => (h.ok x hx).1, h.one, h.some, id, fun x hx hr => (h.ok x hx).2.1 hr⟩
theorem many_ok (k : Str) (d2 d4 : Int) (a2 : 0 ≤ d2) (b2 : d2 < 2) (a4 : 0 ≤ d4) (b4 : d4 < 4) :
    ∃ m : Int, (valV (mergeK [] [((Sum.inr "in" : Key), V.int 0), (Sum.inr "out", V.int 1), (Sum.inr "first", V.int (1 + d2))]) (Sum.inr k)).getD (V.int d4) = V.int m ∧ 0 ≤ m ∧ m ≤ 3 ∧ (k = "in" → m = 0) ∧ (k = "out" → m = 1) ∧ (k = "first" → 1 ≤ m) := by
  have n1 : ¬ (("in" : Str) = "out") := by decide +kernel
  have n2 : ¬ (("in" : Str) = "first") := by decide +kernel
  have n3 : ¬ (("out" : Str) = "first") := by decide +kernel
  have e : mergeK [] [((Sum.inr "in" : Key), V.int 0), (Sum.inr "out", V.int 1), (Sum.inr "first", V.int (1 + d2))] = [((Sum.inr "in" : Key), V.int 0), (Sum.inr "out", V.int 1), (Sum.inr "first", V.int (1 + d2))] := by
    simp [mergeK, putK, n1, n2, n3]
  rw [e]
  by_cases h1 : k = "in"
  · subst h1
    rw [valV_pos rfl]
    exact ⟨0, rfl, by decide, by decide, fun _ => rfl, fun z => absurd z n1, fun z => absurd z n2⟩
  · rw [valV_neg (by intro z; exact h1 (Sum.inr.inj z).symm)]
    by_cases h2 : k = "out"
    · subst h2
      rw [valV_pos rfl]
      exact ⟨1, rfl, by decide, by decide, fun z => absurd z h1, fun _ => rfl, fun z => absurd z n3⟩
    · rw [valV_neg (by intro z; exact h2 (Sum.inr.inj z).symm)]
      by_cases h3 : k = "first"
      · subst h3
        rw [valV_pos rfl]
        exact ⟨1 + d2, rfl, by omega, by omega, fun z => absurd z h1, fun z => absurd z h2, fun _ => by omega⟩
      · rw [valV_neg (by intro z; exact h3 (Sum.inr.inj z).symm), valV_nil]
        exact ⟨d4, rfl, by omega, by omega, fun z => absurd z h1, fun z => absurd z h2, fun z => absurd z h3⟩
end Lag

set_option maxRecDepth 100000
set_option maxHeartbeats 8000000
namespace Lag
open PySem PySem.Spec PyProof.Rows L2
/-- lists of gates, of wires, that stand tracked -/
def LG (K : PySem.W.Frag) (H : Hp) (l : Addr) (gs : List Gt) : Prop := ∃ vs, H l = some (.lst vs) ∧ All2 (GateV K H) vs gs
def LW (K : PySem.W.Frag) (H : Hp) (l : Addr) (ws : List Wr) : Prop := ∃ vs, H l = some (.lst vs) ∧ All2 (WireV K H) vs ws
def spParts (K : PySem.W.Frag) : Sp := fun vs H Q _ => ∃ (wl : Addr) (m : Int), vs = [.ref wl, .int m] ∧ 0 < m ∧ m ≤ 20 ∧ WellAt wl H ∧
  ∀ (gs : List Gt) (ws : List Wr) (lg lw p : Addr) (H' : Hp), NetOk gs ws → gs.length ≤ 20 → (∀ x ∈ ws, x.2.2.length ≤ 2) → ws.length ≤ 100 → Dr wl H H' → H lg = none → H lw = none → lg ≠ lw → LG K H' lg gs → LW K H' lw ws → H' p = some (.tup [.ref lg, .ref lw]) → Q (.ref p) H'
abbrev nParts : List Str := ["_law_well_here", "_law_most", "_law_gates", "_law_k", "_law_starts", "_law_wires", "_law_end", "_law_kind", "_law_wait", "_law_many", "_law_left", "_law_gate_here", "_law_start", "_law_row"]
theorem scParts : FnScope nParts ["_law_well_here", "_law_most"] (defScope sParts) := ⟨rfl, rfl, rfl, by decide +kernel, rfl, by decide +kernel, by decide +kernel⟩
theorem kindAt_get {gs : List Gt} {i : Nat} {g : Gt} (h : gs[i]? = some g) : kindAt gs i = g.1 := by
  unfold kindAt
  rw [List.getD_eq_getElem?_getD, h]
  rfl
/-- all but the well and one list is kept -/
theorem TK.two {wl L : Addr} {H H' : Hp} {vs : List V} (W : WellAt wl H) (hL : H L = some (.lst vs)) (k : ∀ b o, b ≠ wl → b ≠ L → H b = some o → H' b = some o) : TK H H' := fun c u t e => by
  obtain ⟨x, y, z, h⟩ := W
  refine k c u (fun z => ?_) (fun z => ?_) e
  · rw [z, h] at e
    cases e
    exact t
  · rw [z, hL] at e
    cases e
    exact t
theorem PS1.two {K : PySem.W.Frag} {wl g L : Addr} {H0 H H' : Hp} {gs : List Gt} {vs : List V} (p : PS1 K wl H0 H g gs) (hL : H L = some (.lst vs)) (h0 : H0 L = none) (ng : g ≠ L) (k : ∀ b o, b ≠ wl → b ≠ L → H b = some o → H' b = some o) (W : WellAt wl H') : PS1 K wl H0 H' g gs := by
  obtain ⟨gv, h, a⟩ := p.gl
  exact ⟨p.w0, ⟨fun b o n e => k b o n (ne_of_none e h0) (p.dr.but b o n e), W⟩, p.gn, ⟨gv, k _ _ (p.w0.ne p.gn).symm ng h, a.imp fun _ _ r => r.tk (TK.two p.dr.well hL k)⟩, p.gok, p.g0⟩
theorem all2_eq {α β : Type} {f : β → α} : ∀ {xs : List α} {ys : List β}, All2 (fun x y => x = f y) xs ys → xs = ys.map f
  | [], [], _ => rfl
  | [], _ :: _, h => by have := h.1; simp at this
  | _ :: _, [], h => by have := h.1; simp at this
  | x :: xs, y :: ys, h => by rw [List.map_cons, ← all2_eq h.tail, ← h.head]
theorem eq_all2 {α β : Type} {f : β → α} (ys : List β) : All2 (fun x y => x = f y) (ys.map f) ys := ⟨by simp, fun i x y h1 h2 => by
  rw [List.getElem?_map, h2] at h1
  exact (Option.some.inj h1).symm⟩
theorem rgV_nat (n : Nat) : rgV 0 (n : Int) = (List.range n).map fun i => V.int (i : Nat) := by
  unfold rgV
  have : ((n : Int) - 0).toNat = n := by omega
  rw [this]
  refine List.map_congr_left fun i _ => ?_
  rw [Int.zero_add]
theorem flat_ints (l : List Nat) : (l.map fun i => V.int (i : Nat)).all flatV = true := by
  rw [List.all_eq_true]
  intro x hx
  obtain ⟨i, _, rfl⟩ := List.mem_map.mp hx
  rfl
/-- where a number stands among numbers without two alike -/
theorem idx_at {left : List Nat} {a : Nat} (h : a ∈ left) : (left.map fun i => V.int (i : Nat))[left.idxOf a]? = some (V.int (a : Nat)) := by
  rw [List.getElem?_map, List.getElem?_eq_getElem (List.idxOf_lt_length_iff.mpr h), List.getElem_idxOf]
  rfl
theorem eqV_int (a b : Int) : eqV (V.int a) (V.int b) = decide (a = b) := rfl
theorem idx_no {left : List Nat} {a m : Nat} {z : V} (nd : left.Nodup) (hm : m < left.idxOf a) (h : (left.map fun i => V.int (i : Nat))[m]? = some z) : eqV z (V.int (a : Nat)) = false := by
  rw [List.getElem?_map] at h
  cases e : left[m]? with
  | none =>
    rw [e] at h
    cases h
  | some b =>
    rw [e] at h
    cases h
    rw [eqV_int]
    refine decide_eq_false fun z => ?_
    have z : b = a := by omega
    obtain ⟨hm', eb⟩ := List.getElem?_eq_some_iff.mp e
    have := List.Nodup.idxOf_getElem nd m hm'
    rw [eb, z] at this
    omega
section
variable {P : Program} {w : World} {K : PySem.W.Frag} {mg : Str → Option Value} {base : Heap}
abbrev DParts (P : Program) (w : World) (K : PySem.W.Frag) (mg : Str → Option Value) (base : Heap) := Df P w K mg base 4 "_law_parts" ["_law_well_here", "_law_most"] (spParts K)
theorem ok_parts {f fD fO fG fW : Addr} {fd fdD fdO fdG fdW : FuncData} (F : Fun K "_law_parts" "_law_parts" sParts f fd) (hm : mg "_law_parts" = some (.ref f)) (DD : DDraw P w K mg base fD fdD) (DO : DOne P w K mg base fO fdO)
    (DG : DGate P w K mg base fG fdG) (DW : DWire P w K mg base fW fdW) (me : mg "enumerate" = none) (mr : mg "range" = none) (ml : mg "len" = none) (mls : mg "list" = none) : DParts P w K mg base f fd := by
  refine ⟨?_, hm, F.kp, F.binds fun _ _ _ _ _ _ us hl => match us, hl with | [_, _], _ => rfl⟩
  refine F.ok scParts (fun vs H Q E h => ?_) (fun cdv A outer s H vs Q E hr h => ?_)
  · obtain ⟨wl, m, rfl, _⟩ := h
    rfl
  · obtain ⟨wl, m, rfl, hm0, hm1, hw, q⟩ := h
    have hr1 : Room 1 _ := hr.mono (by decide)
    have hr2 : Room 2 _ := hr.mono (by decide)
    have nd := scParts.nd
    refine ⟨_, pss_cons (ps_set (i := 2) nd rfl (Or.inr rfl) (pe_lst pa_nil)) <|
      pss_cons (ps_for PassesOwn.never rfl (pi_range1 (by rfl) mr (pa_cons (pe_op op_add pe_int (pe_call DD.ok hr1 (by rfl) DD.mg DD.kp DD.bd .nil pass0 (pa_cons (pv 0) (pa_cons (pv 1) pa_nil)))) pa_nil)) (pg_name (i := 3) nd rfl (Or.inl rfl)) <|
        pss_one <| ps_expr <| pe_bm PySem.F.plainAttrs_list PySem.F.slot_list_append PySem.F.type_list_append mt_append (pv 2) <| (pa_cons · pa_nil) <| pe_call DG.ok hr (by rfl) DG.mg DG.kp DG.bd .nil pass0 <| pa_cons (pv 0) <| pa_cons (pe_cmpR op_eq (pv 3) pe_int (nomark _)) pa_nil) <|
      pss_cons (ps_setLc (i := 4) (own := [("_law_k", 3), ("_law_gate_here", 11)]) (g := gTup K 2 (gCons (gName 3) (gCons (gName 11) gNil))) (tt := tTest (tOp rNe (tOp (rIxT K) (tVar 11) (tC (.int 0))) (tC (.str "out")))) (te := tVar 3) rfl nd rfl rfl (sw_true rfl rfl rfl (by decide +kernel))
          (pi_enum (by rfl) me (pa_cons (pv 2) pa_nil)) (blkOk_by (N := nParts) (sc := defScope sParts) (own := [("_law_k", 3), ("_law_gate_here", 11)]) (by decide +kernel))
          (fun _ _ _ _ _ => pg_tup rfl (pgs_cons (pg_name (i := 3) nd rfl (Or.inl rfl)) (pgs_cons (pg_name (i := 11) nd rfl (Or.inl rfl)) pgs_nil)))
          (fun _ _ _ _ _ => pts_one (pt_cmpR op_ne (pe_ix ix_tup (pv 11) pe_int (fun _ _ => rfl)) pe_str (nomark _))) (fun _ _ _ _ _ => pv 3)) <|
      pss_cons (ps_set (i := 5) nd rfl (Or.inl rfl) (pe_lst pa_nil)) <|
      pss_cons (ps_for PassesOwn.never rfl (pi_enum (by rfl) me (pa_cons (pv 2) pa_nil)) (pg_tup rfl (pgs_cons (pg_name (i := 6) nd rfl (Or.inl rfl)) (pgs_cons (pg_tup rfl (pgs_cons (pg_name (i := 7) nd rfl (Or.inl rfl)) (pgs_cons (pg_name (i := 8) nd rfl (Or.inl rfl)) pgs_nil))) pgs_nil))) <|
        pss_cons (ps_set (i := 9) nd rfl (Or.inl rfl) (pe_dget2 (hu_of hr) (pe_disp (pps_cons pe_str pe_int (pps_cons pe_str pe_int (pps_cons pe_str (pe_op op_add pe_int (pe_call DD.ok hr1 (by rfl) DD.mg DD.kp DD.bd .nil pass0 (pa_cons (pv 0) (pa_cons pe_int pa_nil)))) pps_nil))) (by rfl) (by rfl) (fun z => by cases z) (by decide))
            (pv 7) (pe_call DD.ok hr1 (by rfl) DD.mg DD.kp DD.bd .nil pass0 (pa_cons (pv 0) (pa_cons pe_int pa_nil))) ⟨rfl, rfl, rfl, rfl⟩)) <|
        pss_one <| ps_for PassesOwn.never rfl (pi_range1 (by rfl) mr (pa_cons (pv 9) pa_nil)) (pg_name (i := 3) nd rfl (Or.inl rfl)) <|
          pss_one <| ps_expr <| pe_bm PySem.F.plainAttrs_list PySem.F.slot_list_append PySem.F.type_list_append mt_append (pv 5) <| (pa_cons · pa_nil) <| pe_call DW.ok hr (by rfl) DW.mg DW.kp DW.bd .nil pass0 <|
            pa_cons (pv 0) <| pa_cons (pe_call DO.ok hr2 (by rfl) DO.mg DO.kp DO.bd .nil pass0 (pa_cons (pv 0) (pa_cons (pv 4) pa_nil))) <| pa_cons (pv 6) pa_nil) <|
      pss_cons (ps_set (i := 10) nd rfl (Or.inr rfl) (pe_callTy call_list_of (by rfl) mls (by decide +kernel) (pa_cons (pv 5) pa_nil))) <|
      Evl.pss_cut (ps_if (pt_cmpR op_eq (pe_call DD.ok hr1 (by rfl) DD.mg DD.kp DD.bd .nil pass0 (pa_cons (pv 0) (pa_cons pe_int pa_nil))) pe_int (nomark _))
        (pss_one (ps_setLc (i := 5) (own := [("_law_k", 3)]) (g := gName 3) (tt := tYes) (te := tBM K "list" rPopAt (tVar 10) (tCons (tCall spDraw [] E0 (tCons (tVar 0) (tCons (tLen K 10) tNil))) tNil)) rfl nd rfl rfl (sw_true rfl rfl rfl (by decide +kernel))
          (pi_range1 (by rfl) mr (pa_cons (pe_callB call_len_seq (by rfl) ml PySem.boot_len (pa_cons (pv 10) pa_nil)) pa_nil)) (blkOk_by (N := nParts) (sc := defScope sParts) (own := [("_law_k", 3)]) (by decide +kernel)) (fun _ _ _ _ _ => pg_name (i := 3) nd rfl (Or.inl rfl)) (fun _ _ _ _ _ => pts_nil)
          (fun _ _ _ _ _ => pe_bm PySem.F.plainAttrs_list PySem.F.slot_list_pop PySem.F.type_list_pop mt_popAt (pv 10) (pa_cons (pe_call DD.ok hr1 (by rfl) DD.mg DD.kp DD.bd .nil pass0 (pa_cons (pv 0) (pa_cons (pe_callB call_len_seq (by rfl) ml PySem.boot_len (pa_cons (pv 10) pa_nil)) pa_nil))) pa_nil)))) pss_nil) <|
      pss_cons (ps_set (i := 10) nd rfl (Or.inr rfl) (pe_listRg rfl (by rfl) mls (prg_1 (by rfl) mr (pe_callB call_len_seq (by rfl) ml PySem.boot_len (pa_cons (pv 2) pa_nil))))) <|
      Evl.pss_cut (ps_if (pt_cmpR op_eq (pe_call DD.ok hr1 (by rfl) DD.mg DD.kp DD.bd .nil pass0 (pa_cons (pv 0) (pa_cons pe_int pa_nil))) pe_int (nomark _))
        (pss_one (ps_set (i := 10) nd rfl (Or.inr rfl) (pe_lc (own := [("_law_k", 3)]) (g := gName 3) (tt := tYes) (te := tBM K "list" rPopAt (tVar 10) (tCons (tCall spDraw [] E0 (tCons (tVar 0) (tCons (tLen K 10) tNil))) tNil)) rfl nd
          (pi_range1 (by rfl) mr (pa_cons (pe_callB call_len_seq (by rfl) ml PySem.boot_len (pa_cons (pv 10) pa_nil)) pa_nil)) (blkOk_by (N := nParts) (sc := defScope sParts) (own := [("_law_k", 3)]) (by decide +kernel)) (fun _ _ _ _ _ => pg_name (i := 3) nd rfl (Or.inl rfl)) (fun _ _ _ _ _ => pts_nil)
          (fun _ _ _ _ _ => pe_bm PySem.F.plainAttrs_list PySem.F.slot_list_pop PySem.F.type_list_pop mt_popAt (pv 10) (pa_cons (pe_call DD.ok hr1 (by rfl) DD.mg DD.kp DD.bd .nil pass0 (pa_cons (pv 0) (pa_cons (pe_callB call_len_seq (by rfl) ml PySem.boot_len (pa_cons (pv 10) pa_nil)) pa_nil))) pa_nil))))) pss_nil) <|
      pss_one <| ps_ret <| pe_tup <| pa_cons
        (pe_lc (own := [("_law_k", 3)]) (g := gName 3) (tt := tYes) (te := tOp (rIxL K) (tVar 2) (tVar 3)) rfl nd (pi_list (pv 10)) (blkOk_by (N := nParts) (sc := defScope sParts) (own := [("_law_k", 3)]) (by decide +kernel)) (fun _ _ _ _ _ => pg_name (i := 3) nd rfl (Or.inl rfl)) (fun _ _ _ _ _ => pts_nil)
          (fun _ _ _ _ _ => pe_ix ix_list (pv 2) (pv 3) (fun _ _ => rfl))) <|
        (pa_cons · pa_nil) <| pe_lc (own := [("_law_start", 12), ("_law_end", 6), ("_law_row", 13)]) (g := gTup K 3 (gCons (gName 12) (gCons (gName 6) (gCons (gName 13) gNil)))) (tt := tYes)
            (te := tTup (tCons (tBM K "list" (rIndex K) (tVar 10) (tCons (tVar 12) tNil)) (tCons (tBM K "list" (rIndex K) (tVar 10) (tCons (tVar 6) tNil)) (tCons (tVar 13) tNil)))) rfl nd (pi_list (pv 5))
          (blkOk_by (N := nParts) (sc := defScope sParts) (own := [("_law_start", 12), ("_law_end", 6), ("_law_row", 13)]) (by decide +kernel))
          (fun _ _ _ _ _ => pg_tup rfl (pgs_cons (pg_name (i := 12) nd rfl (Or.inl rfl)) (pgs_cons (pg_name (i := 6) nd rfl (Or.inl rfl)) (pgs_cons (pg_name (i := 13) nd rfl (Or.inl rfl)) pgs_nil)))) (fun _ _ _ _ _ => pts_nil)
          (fun _ _ _ _ _ => pe_tup (pa_cons (pe_bm PySem.F.plainAttrs_list PySem.F.slot_list_index PySem.F.type_list_index mt_index (pv 10) (pa_cons (pv 12) pa_nil)) (pa_cons (pe_bm PySem.F.plainAttrs_list PySem.F.slot_list_index PySem.F.type_list_index mt_index (pv 10) (pa_cons (pv 6) pa_nil)) (pa_cons (pv 13) pa_nil)))), ?_⟩
    -- gates = []
    refine ⟨Nat.zero_le _, fun g hg => ?_⟩
    have ngw : g ≠ wl := (hw.ne hg).symm
    refine ⟨_, rfl, _, rfl, wl, m, rfl, hm0, by omega, hw.new hg, fun d H1 d0 d1 E1 => ?_⟩
    have D1 := (Dr.new (o := .lst []) hw hg).trans E1
    refine ⟨_, _, rfl, rfl, _, rfl, by omega, by omega, ?_⟩
    refine for_range (lo := 0) (n := (1 + d).toNat) (fun i σ H2 => ∃ (k3 : Option V) (gs : List Gt), σ = [some (.ref wl), some (.int m), some (.ref g), k3, none, none, none, none, none, none, none, none, none, none] ∧ gs.length = i ∧ PS1 K wl H H2 g gs)
      ⟨none, [], rfl, rfl, ⟨hw, D1, hg, ⟨[], E1.but _ _ ngw upd_same, All2.nil⟩, by simp, by simp⟩⟩ ?_ ?_
    · rintro i σ H2 hi ⟨k3, gs, rfl, hgl, p1⟩
      obtain ⟨vs, hgv, hga⟩ := p1.gl
      refine ⟨_, rfl, .inl ⟨rfl, _, SqL.of hgv⟩, _, rfl, _, rfl, rfl, wl, _, rfl, p1.dr.well, fun gt p H3 gok gne E2 hp hp3 => ?_⟩
      have hg3 := E2.but _ _ ngw hgv
      have npg : p ≠ g := fun z => by
        rw [z, hgv] at hp
        cases hp
      have t3 : TK H2 H3 := TK.dr p1.dr.well E2.but
      have hlv : vs.length = i := by rw [hga.1, hgl]
      refine ⟨g, vs, _, rfl, rfl, hg3, small1000 (by omega), _, gs ++ [gt], rfl, by simp [hgl], ⟨hw, set_well (p1.dr.trans E2) hg ngw, hg, ⟨_, upd_same, ((hga.imp fun _ _ r => r.tk t3).imp fun _ _ r => r.tk (TK.lst hg3)).snoc ⟨p, rfl, .inl (.inl (by rw [upd_ne npg]; exact hp3))⟩⟩, ?_, ?_⟩⟩
      · intro x hx
        rcases List.mem_append.mp hx with hx | hx
        · exact p1.gok x hx
        · simp at hx
          subst hx
          exact gok
      · intro x hx
        by_cases hi0 : gs.length = 0
        · have : gs = [] := List.length_eq_zero_iff.mp hi0
          subst this
          simp at hx
          subst hx
          refine gne (decide_eq_true ?_)
          have : i = 0 := by simpa using hgl.symm
          subst this
          rfl
        · rw [List.getElem?_append_left (by omega)] at hx
          exact p1.g0 x hx
    · rintro σ H2 ⟨k3, gs, rfl, hgl, p1⟩
      obtain ⟨vs, hgv, hga⟩ := p1.gl
      have hlv : vs.length = gs.length := hga.1
      have hn : gs.length ≤ 20 := by omega
      have hpos : 0 < gs.length := by omega
      -- starts = [k for k, gate in enumerate(gates) if gate[0] != 'out']
      refine ⟨_, rfl, g, vs, rfl, SqL.of hgv, fun st hst => ?_⟩
      refine lc_it (walk_enum (K := K) (a := g) (xs := vs)) (fun i H3 => ∃ sts : List Nat, H3 st = some (.lst (sts.map fun i => V.int (i : Nat))) ∧ (∀ k ∈ sts, k < gs.length ∧ kindAt gs k ≠ "out") ∧ (0 < i → sts ≠ []) ∧ sts.length ≤ i ∧ Same H2 H3)
        ⟨[], upd_same, by simp, by simp, Nat.le_refl _, same_new hst⟩ (fun i H3 _ ⟨_, _, _, _, _, sm⟩ => sm.seq (SqL.of hgv)) ?_ ?_
      · rintro i x H3 H3' hi ⟨sts, hs3, hsk, hs0, hsl, sm⟩ ⟨T, x1, y, rfl, hT, rfl, ex, ey⟩
        cases ex
        obtain ⟨gt, hgt, ga, rfl, sq⟩ := hga.get ey
        have smT : Same H3 (upd H3 T (.tup [.int (i : Nat), .ref ga])) := same_new hT
        have t : TK H2 (upd H3 T (.tup [.int (i : Nat), .ref ga])) := TK.same (sm.trans smT)
        have hsT := smT _ _ hs3
        refine ⟨T, _, rfl, .inl (.inl upd_same), rfl, _, _, rfl, _, _, rfl, rfl, rfl, ?_⟩
        refine ⟨_, rfl, ga, _, 0, .str gt.1, rfl, rfl, t.seq sq, atI_nat (j := 0) rfl, rfl, _, rfl, ite2 (fun e => ?_) (fun e => ?_)⟩
        · have hk : kindAt gs i ≠ "out" := by
            rw [kindAt_get hgt]
            intro z
            rw [z] at e
            simp at e
          refine ⟨_, rfl, _, hsT, by rw [List.length_map]; exact small1000 (by omega), sts ++ [i], ?_, ?_, by simp, by simp; omega, same_mut (sm.trans smT) hst⟩
          · rw [upd_same, List.map_append]
            rfl
          · intro k hk'
            rcases List.mem_append.mp hk' with hk' | hk'
            · exact hsk k hk'
            · simp at hk'
              subst hk'
              exact ⟨by rw [← hlv]; exact hi, hk⟩
        · refine ⟨sts, hsT, hsk, fun _ => ?_, by omega, sm.trans smT⟩
          by_cases hi0 : i = 0
          · subst hi0
            have := p1.g0 gt hgt
            exfalso
            apply e
            simp [this]
          · exact hs0 (by omega)
      · rintro H3 ⟨sts, hs3, hsk, hs0, hsl, sm⟩
        have hsne : sts ≠ [] := hs0 (by omega)
        have p3 : PS1 K wl H H3 g gs := p1.step ⟨But.same sm, p1.dr.well.same sm⟩
        have hst0 : H st = none := p1.dr.free hw hst
        -- wires = []
        refine ⟨Nat.zero_le _, fun wi hwi => ?_⟩
        have p4 : PS2 K wl H (upd H3 wi (.lst [])) g st wi gs sts [] := by
          have d4 : Dr wl H3 (upd H3 wi (.lst [])) := Dr.new p3.dr.well hwi
          obtain ⟨gv, hgv3, _⟩ := p3.gl
          exact ⟨p3.step d4, hst0, same_new hwi _ _ hs3, p3.dr.free hw hwi, ⟨[], upd_same, All2.nil⟩, ne_of_none hs3 hwi, ne_of_none hgv3 hwi⟩
        obtain ⟨gv, hgv4, hga4⟩ := p4.gl
        refine ⟨_, rfl, g, gv, rfl, SqL.of hgv4, for_it (walk_enum (K := K) (a := g) (xs := gv)) (fun i σ H5 => ∃ (k3 s6 s7 s8 s9 : Option V) (ws : List Wr), σ = [some (.ref wl), some (.int m), some (.ref g), k3, some (.ref st), some (.ref wi), s6, s7, s8, s9, none, none, none, none] ∧
            PS2 K wl H H5 g st wi gs sts ws ∧ WInv gs ws i ∧ H5 g = some (.lst gv) ∧ All2 (GateV K H5) gv gs)
          ⟨_, _, _, _, _, [], rfl, p4, ⟨by simp, by simp, by simp, by simp, by simp⟩, hgv4, hga4⟩ (fun i σ H5 _ ⟨_, _, _, _, _, _, _, _, _, e, _⟩ => SqL.of e) ?_ ?_⟩
        · rintro i x σ H5 H5' hi ⟨k3, s6, s7, s8, s9, ws, rfl, p5, hW, hg5, ha5⟩ ⟨T, x1, y, rfl, hT, rfl, ex, ey⟩
          cases ex
          have hlg : gv.length = gs.length := ha5.1
          obtain ⟨gt, hgt, ga, rfl, sq⟩ := ha5.get ey
          have d6 : Dr wl H5 (upd H5 T (.tup [.int (i : Nat), .ref ga])) := Dr.new p5.dr.well hT
          have t6 : TK H5 (upd H5 T (.tup [.int (i : Nat), .ref ga])) := TK.new hT
          refine ⟨T, _, rfl, .inl (.inl upd_same), rfl, _, _, rfl, _, _, rfl, ga, _, rfl, t6.seq sq, rfl, _, _, rfl, _, _, rfl, rfl, rfl, ?_⟩
          have p6 := p5.step d6
          -- many = {..}.get(kind, draw(well, 4))
          intro p hp
          have d7 := Dr.new (o := .dK []) p6.dr.well hp
          have npw : p ≠ wl := (p6.dr.well.ne hp).symm
          refine ⟨_, rfl, wl, 2, rfl, by decide, by decide, d7.well, fun d2 H7 a2 b2 E2 => ⟨_, _, rfl, rfl, ?_⟩⟩
          have d8 := d7.trans E2
          refine ⟨E2.but _ _ npw upd_same, [(Sum.inr "in", V.int 0), (Sum.inr "out", V.int 1), (Sum.inr "first", V.int (1 + d2))], rfl, (by show 3 ≤ 15; decide), ?_⟩
          have np5 := hp
          have d9 : Dr wl (upd H5 T (.tup [.int (i : Nat), .ref ga])) (upd H7 p (.dK (mergeK [] [(Sum.inr "in", V.int 0), (Sum.inr "out", V.int 1), (Sum.inr "first", V.int (1 + d2))]))) := set_well d8 hp npw
          refine ⟨p, rfl, .inl ⟨_, .inl upd_same⟩, _, rfl, _, rfl, wl, 4, rfl, by decide, by decide, d9.well, fun d4 H8 a4 b4 E4 => ?_⟩
          have d10 := d9.trans E4
          refine ⟨_, .inl ⟨_, Sum.inr gt.1, .inl (E4.but _ _ npw upd_same), rfl, rfl⟩, ?_⟩
          obtain ⟨mm, hmm, mm0, mm3, mi, mo, mf⟩ := many_ok gt.1 d2 d4 a2 b2 a4 b4
          rw [hmm]
          have p8 := p6.step d10
          have hk : kindAt gs i = gt.1 := kindAt_get hgt
          have hg8 : H8 g = some (.lst gv) := d10.but _ _ (p6.w0.ne p6.gn).symm (d6.but _ _ (p6.w0.ne p6.gn).symm hg5)
          have t8 : TK H5 H8 := t6.trans (TK.dr p6.dr.well d10.but)
          refine ⟨_, rfl, mm, rfl, by omega, by omega, for_range (lo := 0) (n := mm.toNat) (fun j σ H9 => ∃ (k3 : Option V) (ws : List Wr), σ = [some (.ref wl), some (.int m), some (.ref g), k3, some (.ref st), some (.ref wi), some (.int (i : Nat)), some (.str gt.1), some (.int gt.2), some (.int mm), none, none, none, none] ∧
              PS2 K wl H H9 g st wi gs sts ws ∧ WInv2 gs ws i j ∧ H9 g = some (.lst gv) ∧ All2 (GateV K H9) gv gs)
            ⟨_, ws, rfl, p8, hW.go, hg8, ha5.imp fun _ _ r => r.tk t8⟩ ?_ ?_⟩
          · rintro j σ H9 hj ⟨k3, ws, rfl, p9, hW2, hg9, ha9⟩
            obtain ⟨wv, hwv, hwa⟩ := p9.wv
            have nwl : wi ≠ wl := (p9.w0.ne p9.wn).symm
            refine ⟨_, rfl, .inl ⟨rfl, _, SqL.of hwv⟩, _, rfl, _, rfl, _, rfl, wl, st, _, rfl, (p9.w0.ne p9.sn).symm, p9.dr.well, SqL.of p9.sl, by simpa using hsne, by rw [List.length_map]; omega, fun v H10 hv E10 => ?_⟩
            obtain ⟨a, hak, rfl⟩ := List.mem_map.mp hv
            have p10 := p9.step E10
            refine ⟨_, rfl, wl, a, i, rfl, p10.dr.well, fun r v H11 rok rlen rne E11 hx => ?_⟩
            have p11 := p10.step E11
            have hwv11 := E11.but _ _ nwl (E10.but _ _ nwl hwv)
            have hlw : wv.length = ws.length := hwa.1
            have hg11 := E11.but _ _ (p9.w0.ne p9.gn).symm (E10.but _ _ (p9.w0.ne p9.gn).symm hg9)
            have t11 : TK H9 H11 := (TK.dr p9.dr.well E10.but).trans (TK.dr p10.dr.well E11.but)
            have hil : i < gs.length := by omega
            refine ⟨wi, wv, _, rfl, rfl, hwv11, small1000 (by have := hW2.len; omega), _, ws ++ [(a, i, r)], rfl, p11.app hwv11 hx, hW2.app ⟨(hsk a hak).1, hil, (hsk a hak).2, ?_, rok, by show r.length ≤ 100; omega⟩ ?_ rfl rlen, by rw [upd_ne p9.ngw]; exact hg11, (ha9.imp fun _ _ r => r.tk t11).imp fun _ _ r => r.tk (TK.lst hwv11)⟩
            · show kindAt gs i ≠ "in"
              intro z
              have := mi (by rw [← hk]; exact z)
              omega
            · intro z
              show a < i
              exact Nat.lt_of_not_le fun z2 => rne z2 z
          · rintro σ H9 ⟨k3, ws, rfl, p9, hW2, hg9, ha9⟩
            refine ⟨_, _, _, _, _, ws, rfl, p9, hW2.done (fun z => ?_) (fun z => ?_) (by omega), hg9, ha9⟩
            · have := mo (by rw [← hk]; exact z)
              omega
            · have := mf (by rw [← hk]; exact z)
              omega
        · rintro σ H5 ⟨k3, s6, s7, s8, s9, ws, rfl, p5, hW, hg5, ha5⟩
          have hlg : gv.length = gs.length := ha5.1
          rw [hlg] at hW
          have N : NetOk gs ws := hW.net (by intro z; rw [z] at hpos; simp at hpos) (by omega) p5.gok
          obtain ⟨wv, hwv, hwa⟩ := p5.wv
          have hlw : wv.length = ws.length := hwa.1
          have hws := N.wl
          have nwl : wi ≠ wl := (p5.w0.ne p5.wn).symm
          -- left = list(wires)
          refine ⟨_, rfl, wi, wv, rfl, .inl (SqL.of hwv), fun L hL => ?_⟩
          have d6 : Dr wl H5 (upd H5 L (.lst wv)) := Dr.new p5.dr.well hL
          have p6 := p5.step d6
          have hL0 : H L = none := p5.dr.free hw hL
          have nLw : L ≠ wl := (p5.dr.well.ne hL).symm
          have nwL : wi ≠ L := ne_of_none hwv hL
          have ngL : g ≠ L := ne_of_none hg5 hL
          -- if draw(well, 2) == 0: wires = [..]
          refine ⟨fun σ H7 => ∃ (wi' L' : Addr) (wv' : List V) (ws' : List Wr), σ = [some (.ref wl), some (.int m), some (.ref g), k3, some (.ref st), some (.ref wi'), s6, s7, s8, s9, some (.ref L'), none, none, none] ∧
            H7 wi' = some (.lst wv') ∧ All2 (WireV K H7) wv' ws' ∧ ws'.Perm ws ∧ PS1 K wl H H7 g gs ∧ H wi' = none, ?_, ?_⟩
          · refine ⟨_, rfl, wl, 2, rfl, by decide, by decide, p6.dr.well, fun d H7 d0 d1 E7 => ⟨rfl, _, rfl, ite2 (fun e => ?_) (fun e => ?_)⟩⟩
            · have p7 := p6.step E7
              have hL7 : H7 L = some (.lst wv) := E7.but _ _ nLw upd_same
              have t7 : TK H5 H7 := (TK.new hL).trans (TK.dr p6.dr.well E7.but)
              refine popAll (K := K) (wl := wl) (L := L) (vs := wv) rfl rfl hL7 E7.well nLw (by omega) fun D wv' H8 pm hD hD8 hk8 hw8 => ?_
              obtain ⟨ws', pw, hwa'⟩ := (hwa.imp fun _ _ r => r.tk t7).perm pm
              exact ⟨D, L, wv', ws', rfl, hD8, hwa'.imp fun _ _ r => r.tk (TK.two E7.well hL7 hk8), pw, p7.toPS1.two hL7 hL0 ngL hk8 hw8, p7.dr.free hw hD⟩
            · have p7 := p6.step E7
              have t7 : TK H5 H7 := (TK.new hL).trans (TK.dr p6.dr.well E7.but)
              exact ⟨wi, L, wv, ws, rfl, E7.but _ _ nwl (by rw [upd_ne nwL]; exact hwv), hwa.imp fun _ _ r => r.tk t7, .refl _, p7.toPS1, p5.wn⟩
          · rintro σ H7 ⟨wi', L', wv', ws', rfl, hwv', hwa', pw, p7, hwi0⟩
            obtain ⟨gv7, hg7, ha7⟩ := p7.gl
            have hlg7 : gv7.length = gs.length := ha7.1
            have nwl' : wi' ≠ wl := (hw.ne hwi0).symm
            -- left = list(range(len(gates)))
            refine ⟨_, rfl, g, gv7, rfl, .inl (SqL.of hg7), _, rfl, RgOk.of_le (by omega) (by omega) (by omega) (by omega), fun L2 hL2 => ?_⟩
            rw [rgV_nat, hlg7]
            have d8 : Dr wl H7 (upd H7 L2 (.lst ((List.range gs.length).map fun i => V.int (i : Nat)))) := Dr.new p7.dr.well hL2
            have p8 := p7.step d8
            have hL20 : H L2 = none := p7.dr.free hw hL2
            have nL2w : L2 ≠ wl := (p7.dr.well.ne hL2).symm
            have nwL2 : wi' ≠ L2 := ne_of_none hwv' hL2
            have ngL2 : g ≠ L2 := ne_of_none hg7 hL2
            refine ⟨fun σ H9 => ∃ (L3 : Addr) (left : List Nat), σ = [some (.ref wl), some (.int m), some (.ref g), k3, some (.ref st), some (.ref wi'), s6, s7, s8, s9, some (.ref L3), none, none, none] ∧
              H9 L3 = some (.lst (left.map fun i => V.int (i : Nat))) ∧ left.Perm (List.range gs.length) ∧ H9 wi' = some (.lst wv') ∧ All2 (WireV K H9) wv' ws' ∧ PS1 K wl H H9 g gs, ?_, ?_⟩
            · refine ⟨_, rfl, wl, 2, rfl, by decide, by decide, p8.dr.well, fun d H9 d0 d1 E9 => ⟨rfl, _, rfl, ite2 (fun e => ?_) (fun e => ?_)⟩⟩
              · have p9 := p8.step E9
                have hL9 : H9 L2 = some (.lst ((List.range gs.length).map fun i => V.int (i : Nat))) := E9.but _ _ nL2w upd_same
                have t9 : TK H7 H9 := (TK.new hL2).trans (TK.dr p8.dr.well E9.but)
                have hw9 : H9 wi' = some (.lst wv') := E9.but _ _ nwl' (by rw [upd_ne nwL2]; exact hwv')
                refine popAll (K := K) (wl := wl) (L := L2) rfl rfl hL9 E9.well nL2w (by simp; omega) fun D vs' H10 pm hD hD10 hk10 hw10 => ?_
                obtain ⟨left, pl, al⟩ := (eq_all2 (f := fun i : Nat => V.int (i : Nat)) (List.range gs.length)).perm pm
                refine ⟨D, left, rfl, by rw [← all2_eq al]; exact hD10, pl, hk10 _ _ nwl' nwL2 hw9, (hwa'.imp fun _ _ r => r.tk t9).imp fun _ _ r => r.tk (TK.two E9.well hL9 hk10), p9.two hL9 hL20 ngL2 hk10 hw10⟩
              · have p9 := p8.step E9
                have t9 : TK H7 H9 := (TK.new hL2).trans (TK.dr p8.dr.well E9.but)
                exact ⟨L2, List.range gs.length, rfl, E9.but _ _ nL2w upd_same, .refl _, E9.but _ _ nwl' (by rw [upd_ne nwL2]; exact hwv'), hwa'.imp fun _ _ r => r.tk t9, p9⟩
            · rintro σ H9 ⟨L3, left, rfl, hL3, pl, hw9, hwa9, p9⟩
              obtain ⟨gv9, hg9, ha9⟩ := p9.gl
              have hlg9 : gv9.length = gs.length := ha9.1
              have hll : left.length = gs.length := by rw [pl.length_eq, List.length_range]
              have ndl : left.Nodup := pl.nodup_iff.mpr List.nodup_range
              have memb : ∀ k, k ∈ left → k < gs.length := fun k hk => List.mem_range.mp (pl.mem_iff.mp hk)
              have memr : ∀ k, k < gs.length → k ∈ left := fun k hk => pl.mem_iff.mpr (List.mem_range.mpr hk)
              have hlw9 : wv'.length = ws'.length := hwa9.1
              have hlws : ws'.length = ws.length := pw.length_eq
              -- [gates[k] for k in left]
              refine ⟨_, rfl, L3, rfl, ⟨_, SqL.of hL3⟩, fun D4 hD4 => ?_⟩
              refine lc_list (K := K) (a := L3) (xs := left.map fun i => V.int (i : Nat)) (fun i Hc => ∃ acc, Hc D4 = some (.lst acc) ∧ acc.length = i ∧ All2 (GateV K H9) acc ((left.take i).map fun k => gs.getD k ("", 0)) ∧ Same H9 Hc)
                ⟨[], upd_same, rfl, by simpa using All2.nil, same_new hD4⟩ (fun i Hc _ ⟨_, _, _, _, sm⟩ => sm.seq (SqL.of hL3)) ?_ ?_
              · rintro i x Hc hx ⟨acc, hacc, hal, haa, sm⟩
                rw [List.getElem?_map] at hx
                cases ek : left[i]? with
                | none =>
                  rw [ek] at hx
                  cases hx
                | some k =>
                rw [ek] at hx
                cases hx
                have hk : k < gs.length := memb k (List.mem_of_getElem? ek)
                have hi : i < left.length := (List.getElem?_eq_some_iff.mp ek).1
                refine ⟨rfl, tyes ?_⟩
                refine ⟨_, rfl, _, rfl, g, gv9, k, gv9[k]'(by omega), rfl, rfl, sm.seq (SqL.of hg9), atI_nat (List.getElem?_eq_getElem (by omega)), acc, hacc, small1000 (by omega), acc ++ [gv9[k]'(by omega)], upd_same, by simp [hal], ?_, same_mut sm hD4⟩
                rw [List.take_add_one, ek, List.map_append]
                refine haa.snoc ?_
                show GateV K H9 _ (gs.getD k ("", 0))
                rw [List.getD_eq_getElem?_getD, List.getElem?_eq_getElem hk]
                exact ha9.2 k _ _ (List.getElem?_eq_getElem (by omega)) (List.getElem?_eq_getElem hk)
              · rintro H10 ⟨gacc, hgacc, hgl4, hga4', sm10⟩
                rw [List.length_map] at hgl4 hga4'
                rw [List.take_length] at hga4'
                -- the wires
                refine ⟨_, rfl, wi', rfl, ⟨_, SqL.of (sm10 _ _ hw9)⟩, fun D5 hD5 => ?_⟩
                refine lc_list (K := K) (a := wi') (xs := wv') (fun i Hc => ∃ acc, Hc D5 = some (.lst acc) ∧ acc.length = i ∧ All2 (WireV K Hc) acc ((ws'.take i).map fun x => (left.idxOf x.1, left.idxOf x.2.1, x.2.2)) ∧ Same H10 Hc)
                  ⟨[], upd_same, rfl, by simpa using All2.nil, same_new hD5⟩ (fun i Hc _ ⟨_, _, _, _, sm⟩ => sm.seq (SqL.of (sm10 _ _ hw9))) ?_ ?_
                · rintro i x Hc hx ⟨acc, hacc, hal, haa, sm⟩
                  obtain ⟨y, hy, xa, xb, rfl, sq1, sq2⟩ := hwa9.get hx
                  have hyi : i < ws'.length := (List.getElem?_eq_some_iff.mp hy).1
                  have W := N.wok y (pw.mem_iff.mp (List.mem_of_getElem? hy))
                  have tc : TK H9 Hc := TK.same (sm10.trans sm)
                  have hL3c : SqL K Hc L3 (left.map fun i => V.int (i : Nat)) := SqL.of (sm _ _ (sm10 _ _ hL3))
                  refine ⟨xa, _, rfl, tc.seq sq1, rfl, _, _, rfl, _, _, rfl, _, _, rfl, rfl, rfl, tyes ?_⟩
                  refine ⟨_, rfl, .inl ⟨rfl, _, hL3c⟩, _, rfl, L3, _, _, left.idxOf y.1, _, rfl, rfl, hL3c, rfl, flat_ints _, idx_at (memr _ W.s), by rw [eqV_int]; exact decide_eq_true rfl, fun mm z hm hz => idx_no ndl hm hz, ?_⟩
                  refine ⟨_, rfl, .inl ⟨rfl, _, hL3c⟩, _, rfl, L3, _, _, left.idxOf y.2.1, _, rfl, rfl, hL3c, rfl, flat_ints _, idx_at (memr _ W.e), by rw [eqV_int]; exact decide_eq_true rfl, fun mm z hm hz => idx_no ndl hm hz, ?_⟩
                  refine ⟨_, rfl, (by show 3 ≤ sizeLine; decide), fun t ht => ?_⟩
                  have smt : Same Hc (upd Hc t (.tup [.int (left.idxOf y.1 : Nat), .int (left.idxOf y.2.1 : Nat), .ref xb])) := same_new ht
                  have hDt : (upd Hc t (.tup [.int (left.idxOf y.1 : Nat), .int (left.idxOf y.2.1 : Nat), .ref xb])) D5 = some (.lst acc) := smt _ _ hacc
                  have ntD : t ≠ D5 := fun z => by
                    rw [z, hacc] at ht
                    cases ht
                  refine ⟨acc, hDt, small1000 (by omega), acc ++ [.ref t], upd_same, by simp [hal], ?_, same_mut (sm.trans smt) hD5⟩
                  have t2 : TK Hc (upd (upd Hc t (.tup [.int (left.idxOf y.1 : Nat), .int (left.idxOf y.2.1 : Nat), .ref xb])) D5 (.lst (acc ++ [.ref t]))) := (TK.new ht).trans (TK.lst hDt)
                  rw [List.take_add_one, hy, List.map_append]
                  refine (haa.imp fun _ _ r => r.tk t2).snoc ⟨t, xb, rfl, .inl (.inl (by rw [upd_ne ntD]; exact upd_same)), (tc.trans t2).seq sq2⟩
                · rintro H11 ⟨wacc, hwacc, hwl5, hwa5, sm11⟩
                  rw [hlw9, List.take_length] at hwa5
                  refine ⟨(by show 2 ≤ sizeLine; decide), fun p hp => ?_⟩
                  have smp : Same H11 (upd H11 p (.tup [.ref D4, .ref D5])) := same_new hp
                  have s9 : Same H9 (upd H11 p (.tup [.ref D4, .ref D5])) := (sm10.trans sm11).trans smp
                  have n45 : D4 ≠ D5 := ne_of_none hgacc hD5
                  refine q _ _ D4 D5 p _ (N.anew pl pw) (by rw [List.length_map, hll]; exact hn) (fun x hx => by obtain ⟨y, hy, rfl⟩ := List.mem_map.mp hx; exact hW.r2 y (pw.mem_iff.mp hy)) (by rw [List.length_map, hlws]; have := hW.len; omega) (p9.dr.trans ⟨But.same s9, p9.dr.well.same s9⟩) (p9.dr.free hw hD4) (p9.dr.free hw (sm10.free hD5)) n45 ⟨gacc, smp _ _ (sm11 _ _ hgacc), hga4'.imp fun _ _ r => r.tk (TK.same s9)⟩ ⟨wacc, smp _ _ hwacc, hwa5.imp fun _ _ r => r.tk (TK.same smp)⟩ upd_same
end
end Lag

set_option maxRecDepth 100000
set_option maxHeartbeats 4000000
namespace Lag
open PySem PySem.Spec PyProof.Rows L2
abbrev sWhole : Stmt := topS 8
abbrev sFromTo : Stmt := topS 9
abbrev sWorth : Stmt := topS 10
abbrev sIsGate : Stmt := topS 22
abbrev sChkGates : Stmt := topS 21
/-! ### o[i] of a list, by values -/
def rGetL (K : PySem.W.Frag) : V → V → Hp → VK → Prop := fun o i H Q => ∃ (p : Addr) (xs : List V) (j : Nat) (v : V), o = .ref p ∧ i = .int (j : Nat) ∧ SqL K H p xs ∧ xs[j]? = some v ∧ Q v H
theorem get_list {X : Cx} : PGet X (rGetL X.K) := by
  intro pins s σ H o i ov iv Q I ro ri h
  obtain ⟨p, xs, j, v, rfl, rfl, hq, he, q⟩ := h
  cases ro
  obtain ⟨t, rfl⟩ := ri
  obtain ⟨its, r, pl, hz⟩ := I.list hq
  obtain ⟨w, ew, rw'⟩ := r.get he
  have hl := r.length
  have hn := line63
  have hj : j < its.length := (List.getElem?_eq_some_iff.mp ew).1
  exact wpAny_getItem_list pl.isList (by omega) (by omega) (by simpa using ew) ⟨v, H, I, rw', q⟩
/-! ### names of built-ins, constants of the text -/
structure Bt (mg : Str → Option Value) : Prop where
  isi : mg "isinstance" = none
  int : mg "int" = none
  bool : mg "bool" = none
  len : mg "len" = none
  tuple : mg "tuple" = none
  str : mg "str" = none
  list : mg "list" = none
  all : mg "all" = none
  enum : mg "enumerate" = none
  zip : mg "zip" = none
  range : mg "range" = none
  max : mg "max" = none
structure Cns (K : PySem.W.Frag) (mg : Str → Option Value) (aK aW aF : Addr) : Prop where
  gw : ∃ t, mg "GREATEST_WORTH" = some (.int 96 t)
  ga : ∃ t, mg "GREATEST_WAIT" = some (.int 100 t)
  mK : mg "KINDS" = some (.ref aK)
  sK : ∀ H, SqT K H aK (kinds.map V.str)
  mW : mg "OUTER_KINDS" = some (.ref aW)
  sW : ∀ H, SqT K H aW [.str "in", .str "out"]
  mF : mg "KINDS_WITH_A_WIRE" = some (.ref aF)
  sF : ∀ H, SqT K H aF [.str "out", .str "first"]
theorem ty_tup {K : PySem.W.Frag} {H : Hp} {a : Addr} {xs : List V} (h : SqT K H a xs) : TyX K H (.ref a) (.type "tuple") := by
  rcases h with (h | ⟨o, h⟩) | ⟨o, its, n, hk, hc, _⟩
  · exact .base (.tup h)
  · exact .fTuple h
  · exact .kTuple hk hc
theorem ty_lst {K : PySem.W.Frag} {H : Hp} {a : Addr} {xs : List V} (h : SqL K H a xs) : TyX K H (.ref a) (.type "list") := by
  rcases h with (h | ⟨o, h⟩) | ⟨o, its, n, hk, hc, _⟩
  · exact .base (.lst h)
  · exact .base (.frz h)
  · exact .kList hk hc
/-! ### promises -/
def spWhole : Sp := fun vs H Q _ => ∃ n : Int, vs = [.int n] ∧ Q (.bl true) H
def spFromTo : Sp := fun vs H Q _ => ∃ n a b : Int, vs = [.int n, .int a, .int b] ∧ Q (.bl (decide (a ≤ n) && decide (n ≤ b))) H
def spWorth : Sp := fun vs H Q _ => ∃ n : Int, vs = [.int n] ∧ Q (.bl (decide (0 ≤ n) && decide (n ≤ 96))) H
def spIsGate (K : PySem.W.Frag) : Sp := fun vs H Q _ => ∃ (v : V) (g : Gt), vs = [v] ∧ GateV K H v g ∧ GOk g ∧ ∀ H', Same H H' → Q (.bl true) H'
/-- lists that are read -/
def RG (K : PySem.W.Frag) (H : Hp) (l : Addr) (gs : List Gt) : Prop := ∃ vs, SqL K H l vs ∧ All2 (GateV K H) vs gs
def RW (K : PySem.W.Frag) (H : Hp) (l : Addr) (ws : List Wr) : Prop := ∃ vs, SqL K H l vs ∧ All2 (WireV K H) vs ws
theorem RG.same {K : PySem.W.Frag} {H H' : Hp} {l : Addr} {gs : List Gt} (h : RG K H l gs) (s : Same H H') : RG K H' l gs := by
  obtain ⟨vs, q, a⟩ := h
  exact ⟨vs, s.seq q, a.imp fun _ _ r => r.tk (TK.same s)⟩
theorem RW.same {K : PySem.W.Frag} {H H' : Hp} {l : Addr} {ws : List Wr} (h : RW K H l ws) (s : Same H H') : RW K H' l ws := by
  obtain ⟨vs, q, a⟩ := h
  exact ⟨vs, s.seq q, a.imp fun _ _ r => r.tk (TK.same s)⟩
def spChkGates (K : PySem.W.Frag) : Sp := fun vs H Q _ => ∃ (l : Addr) (gs : List Gt), vs = [.ref l] ∧ RG K H l gs ∧ gs ≠ [] ∧ (∀ g ∈ gs, GOk g) ∧ ∀ H', Same H H' → Q .non H'
section
variable {P : Program} {w : World} {K : PySem.W.Frag} {mg : Str → Option Value} {base : Heap}
/-! ### is_whole, is_whole_from_to, is_worth -/
theorem scWhole : FnScope ["thing"] ["thing"] (defScope sWhole) := ⟨rfl, rfl, rfl, by decide +kernel, rfl, by decide +kernel, by decide +kernel⟩
abbrev DWhole (P : Program) (w : World) (K : PySem.W.Frag) (mg : Str → Option Value) (base : Heap) := Df P w K mg base 1 "is_whole" ["thing"] spWhole
theorem ok_whole {f : Addr} {fd : FuncData} (F : Fun K "is_whole" "is_whole" sWhole f fd) (hm : mg "is_whole" = some (.ref f)) (B : Bt mg) : DWhole P w K mg base f fd := by
  refine ⟨?_, hm, F.kp, F.binds fun _ _ _ _ _ _ us hl => match us, hl with | [_], _ => rfl⟩
  refine F.ok scWhole (fun vs H Q E h => ?_) (fun cdv A outer s H vs Q E hr h => ?_)
  · obtain ⟨n, rfl, _⟩ := h
    rfl
  · obtain ⟨n, rfl, q⟩ := h
    refine ⟨_, pss_one <| ps_ret <| pe_and (pe_callB call_isi (by rfl) B.isi (by decide +kernel) (pa_cons (pv 0) (pa_cons (pe_bltn (v := .ty "int") (by rfl) B.int (by decide +kernel) rfl) pa_nil)))
      (pe_one (pe_not (pe_callB call_isi (by rfl) B.isi (by decide +kernel) (pa_cons (pv 0) (pa_cons (pe_bltn (v := .ty "bool") (by rfl) B.bool (by decide +kernel) rfl) pa_nil))))), ?_⟩
    refine ⟨_, rfl, _, _, _, _, true, rfl, .ty "int", .base (.int n), kit_ty (by decide +kernel), true, rfl, iteT ?_⟩
    exact ⟨_, rfl, _, _, _, _, false, rfl, .ty "bool", .base (.int n), kit_ty (by decide +kernel), false, rfl, q⟩
theorem scFromTo : FnScope ["thing", "least", "greatest"] ["thing", "least", "greatest"] (defScope sFromTo) := ⟨rfl, rfl, rfl, by decide +kernel, rfl, by decide +kernel, by decide +kernel⟩
abbrev DFromTo (P : Program) (w : World) (K : PySem.W.Frag) (mg : Str → Option Value) (base : Heap) := Df P w K mg base 2 "is_whole_from_to" ["thing", "least", "greatest"] spFromTo
theorem ok_fromTo {f fW : Addr} {fd fdW : FuncData} (F : Fun K "is_whole_from_to" "is_whole_from_to" sFromTo f fd) (hm : mg "is_whole_from_to" = some (.ref f)) (DW : DWhole P w K mg base fW fdW) : DFromTo P w K mg base f fd := by
  refine ⟨?_, hm, F.kp, F.binds fun _ _ _ _ _ _ us hl => match us, hl with | [_, _, _], _ => rfl⟩
  refine F.ok scFromTo (fun vs H Q E h => ?_) (fun cdv A outer s H vs Q E hr h => ?_)
  · obtain ⟨n, a, b, rfl, _⟩ := h
    rfl
  · obtain ⟨n, a, b, rfl, q⟩ := h
    refine ⟨_, pss_one <| ps_ret <| pe_and (pe_call DW.ok hr (by rfl) DW.mg DW.kp DW.bd .nil pass0 (pa_cons (pv 0) pa_nil)) (pe_one (pe_chain op_le op_le (pv 1) (pv 0) (pv 2))), ?_⟩
    refine ⟨_, rfl, n, rfl, true, rfl, iteT ?_⟩
    refine ⟨_, rfl, _, rfl, _, _, rfl, rfl, _, rfl, ?_⟩
    cases e : decide (a ≤ n) with
    | false =>
      rw [e] at q
      exact iteF q
    | true =>
      rw [e] at q
      exact iteT ⟨_, rfl, _, _, rfl, rfl, q⟩
theorem scWorth : FnScope ["thing"] ["thing"] (defScope sWorth) := ⟨rfl, rfl, rfl, by decide +kernel, rfl, by decide +kernel, by decide +kernel⟩
abbrev DWorth (P : Program) (w : World) (K : PySem.W.Frag) (mg : Str → Option Value) (base : Heap) := Df P w K mg base 3 "is_worth" ["thing"] spWorth
theorem ok_worth {f fF aK aW aF : Addr} {fd fdF : FuncData} (F : Fun K "is_worth" "is_worth" sWorth f fd) (hm : mg "is_worth" = some (.ref f)) (C : Cns K mg aK aW aF) (DF : DFromTo P w K mg base fF fdF) : DWorth P w K mg base f fd := by
  obtain ⟨tg, hgw⟩ := C.gw
  refine ⟨?_, hm, F.kp, F.binds fun _ _ _ _ _ _ us hl => match us, hl with | [_], _ => rfl⟩
  refine F.ok scWorth (fun vs H Q E h => ?_) (fun cdv A outer s H vs Q E hr h => ?_)
  · obtain ⟨n, rfl, _⟩ := h
    rfl
  · obtain ⟨n, rfl, q⟩ := h
    refine ⟨_, pss_one <| ps_ret <| pe_call DF.ok hr (by rfl) DF.mg DF.kp DF.bd .nil pass0 <| pa_cons (pv 0) <| pa_cons pe_int <| pa_cons (pe_glob (v := .int 96) (by rfl) hgw ⟨_, rfl⟩) pa_nil, ?_⟩
    exact ⟨_, rfl, n, 0, 96, rfl, q⟩
/-! ### is_gate -/
theorem scIsGate : FnScope ["thing", "kind", "wait"] ["thing"] (defScope sIsGate) := ⟨rfl, rfl, rfl, by decide +kernel, rfl, by decide +kernel, by decide +kernel⟩
abbrev DIsGate (P : Program) (w : World) (K : PySem.W.Frag) (mg : Str → Option Value) (base : Heap) := Df P w K mg base 3 "is_gate" ["thing"] (spIsGate K)
theorem kinds_in {k : Str} (h : k ∈ kinds) : inV (.str k) (kinds.map V.str) = true := by
  unfold inV
  rw [List.any_eq_true]
  exact ⟨.str k, List.mem_map.mpr ⟨k, h, rfl⟩, beq_self_eq_true k⟩
theorem flat_strs (l : List Str) : (l.map V.str).all flatV = true := by
  rw [List.all_eq_true]
  intro x hx
  obtain ⟨i, _, rfl⟩ := List.mem_map.mp hx
  rfl
theorem ok_isGate {f fF aK aW aF : Addr} {fd fdF : FuncData} (F : Fun K "is_gate" "is_gate" sIsGate f fd) (hm : mg "is_gate" = some (.ref f)) (B : Bt mg) (C : Cns K mg aK aW aF) (DF : DFromTo P w K mg base fF fdF) : DIsGate P w K mg base f fd := by
  obtain ⟨tg, hga⟩ := C.ga
  refine ⟨?_, hm, F.kp, F.binds fun _ _ _ _ _ _ us hl => match us, hl with | [_], _ => rfl⟩
  refine F.ok scIsGate (fun vs H Q E h => ?_) (fun cdv A outer s H vs Q E hr h => ?_)
  · obtain ⟨v, g, rfl, _⟩ := h
    rfl
  · obtain ⟨v, g, rfl, ⟨a, rfl, sq⟩, gok, q⟩ := h
    have nd := scIsGate.nd
    refine ⟨_, pss_cons (ps_if (PW.pt (pw_or (pt_not (pt_val (pe_callB call_isi (by rfl) B.isi (by decide +kernel) (pa_cons (pv 0) (pa_cons (pe_bltn (v := .ty "tuple") (by rfl) B.tuple (by decide +kernel) rfl) pa_nil)))))
          (pw_or1 (pt_cmpR op_ne (pe_callB call_len_seq (by rfl) B.len PySem.boot_len (pa_cons (pv 0) pa_nil)) pe_int (nomark _))))) (pss_one (ps_ret pe_bl)) pss_nil) <|
      pss_cons (ps_asg (pv 0) (pg_tup (by rfl) (pgs_cons (pg_name (i := 1) nd rfl (.inl rfl)) (pgs_cons (pg_name (i := 2) nd rfl (.inl rfl)) pgs_nil)))) <|
      pss_cons (ps_if (PW.pt (pw_or (pt_not (pt_val (pe_callB call_isi (by rfl) B.isi (by decide +kernel) (pa_cons (pv 1) (pa_cons (pe_bltn (v := .ty "str") (by rfl) B.str (by decide +kernel) rfl) pa_nil)))))
          (pw_or1 (pt_cmpR op_notIn_seq (pv 1) (pe_glob (v := .ref aK) (by rfl) C.mK rfl) (by rfl))))) (pss_one (ps_ret pe_bl)) pss_nil) <|
      pss_one <| ps_ret <| pe_call DF.ok hr (by rfl) DF.mg DF.kp DF.bd .nil pass0 <| pa_cons (pv 2) <| pa_cons pe_int <| (pa_cons · pa_nil) <|
        pe_ifExp (pt_cmpR op_in_seq (pv 1) (pe_glob (v := .ref aW) (by rfl) C.mW rfl) (by rfl)) pe_int (pe_glob (v := .int 100) (by rfl) hga ⟨_, rfl⟩), ?_⟩
    refine ⟨_, rfl, _, _, _, _, true, rfl, .ty "tuple", ty_tup sq, kit_ty (by decide +kernel), true, rfl, ?_⟩
    refine iteF ⟨_, rfl, a, _, rfl, .inr sq, rfl, _, rfl, iteF ?_⟩
    refine ⟨_, rfl, a, _, rfl, sq, rfl, _, _, rfl, _, _, rfl, rfl, ?_⟩
    refine ⟨_, rfl, _, _, _, _, true, rfl, .ty "str", .base (.str g.1), kit_ty (by decide +kernel), true, rfl, ?_⟩
    refine iteF ⟨_, rfl, aK, _, rfl, .inr (C.sK H), rfl, flat_strs _, false, ?_, iteF ?_⟩
    · show V.bl (!inV (V.str g.1) (kinds.map V.str)) = V.bl false
      rw [kinds_in gok.1]
      rfl
    refine ⟨_, rfl, _, rfl, aW, _, rfl, .inr (C.sW H), rfl, rfl, _, rfl, ite2 (fun e => ?_) (fun e => ?_)⟩
    · have hp : portK g.1 := by
        have e' : inV (V.str g.1) [V.str "in", V.str "out"] = true := e
        unfold inV at e'
        rw [List.any_eq_true] at e'
        obtain ⟨x, hx, hxe⟩ := e'
        simp only [List.mem_cons, List.not_mem_nil, or_false] at hx
        rcases hx with rfl | rfl
        · exact .inl (eq_of_beq hxe).symm
        · exact .inr (eq_of_beq hxe).symm
      have h0 := gok.2.2.2 hp
      refine ⟨g.2, 0, 0, rfl, ?_⟩
      rw [h0]
      exact q H (Same.refl H)
    · refine ⟨g.2, 0, 100, rfl, ?_⟩
      rw [decide_eq_true gok.2.1, decide_eq_true gok.2.2.1]
      exact q H (Same.refl H)
end
end Lag

set_option maxRecDepth 100000
set_option maxHeartbeats 4000000
namespace Lag
open PySem PySem.Spec PyProof.Rows L2
abbrev sIsWire : Stmt := topS 24
abbrev sTaken : Stmt := topS 25
def spIsWire (K : PySem.W.Frag) : Sp := fun vs H Q _ => ∃ (v : V) (x : Wr) (n : Nat), vs = [v, .int (n : Nat)] ∧ WireV K H v x ∧ x.1 < n ∧ x.2.1 < n ∧ ROk x.2.2 ∧ x.2.2.length ≤ 1000 ∧ ∀ H', Same H H' → Q (.bl true) H'
def spTaken (K : PySem.W.Frag) : Sp := fun vs H Q _ => ∃ (v : V) (x : Wr) (lg lc : Addr) (gs : List Gt) (cs : List Nat), vs = [v, .ref lg, .ref lc] ∧ WireV K H v x ∧ RG K H lg gs ∧ SqL K H lc (cs.map fun i => V.int (i : Nat)) ∧ WOk gs x ∧ cs.length = gs.length ∧
  (kindAt gs x.2.1 = "out" → cs[x.2.1]? = some 0) ∧ Q (.bl true) H
section
variable {P : Program} {w : World} {K : PySem.W.Frag} {mg : Str → Option Value} {base : Heap}
/-! ### check_gates -/
theorem scChkGates : FnScope ["gates", "thing"] ["gates"] (defScope sChkGates) := ⟨rfl, rfl, rfl, by decide +kernel, rfl, by decide +kernel, by decide +kernel⟩
abbrev DChkGates (P : Program) (w : World) (K : PySem.W.Frag) (mg : Str → Option Value) (base : Heap) := Df P w K mg base 4 "check_gates" ["gates"] (spChkGates K)
theorem ok_chkGates {f fG : Addr} {fd fdG : FuncData} (F : Fun K "check_gates" "check_gates" sChkGates f fd) (hm : mg "check_gates" = some (.ref f)) (B : Bt mg) (DG : DIsGate P w K mg base fG fdG) : DChkGates P w K mg base f fd := by
  refine ⟨?_, hm, F.kp, F.binds fun _ _ _ _ _ _ us hl => match us, hl with | [_], _ => rfl⟩
  refine F.ok scChkGates (fun vs H Q E h => ?_) (fun cdv A outer s H vs Q E hr h => ?_)
  · obtain ⟨l, gs, rfl, _⟩ := h
    rfl
  · obtain ⟨l, gs, rfl, R, hne, gok, q⟩ := h
    have nd := scChkGates.nd
    refine ⟨_, pss_cons (ps_if (PW.pt (pw_or (pt_not (pt_val (pe_callB call_isi (by rfl) B.isi (by decide +kernel) (pa_cons (pv 0) (pa_cons (pe_bltn (v := .ty "list") (by rfl) B.list (by decide +kernel) rfl) pa_nil)))))
          (pw_or1 (pt_cmpR op_eq (pe_callB call_len_seq (by rfl) B.len PySem.boot_len (pa_cons (pv 0) pa_nil)) pe_int (nomark _))))) (pss_one ps_never) pss_nil) <|
      pss_one <| ps_for PassesOwn.never rfl (pi_list (pv 0)) (pg_name (i := 1) nd rfl (.inl rfl)) <|
        pss_one <| ps_if (pt_not (pt_val (pe_call DG.ok hr (by rfl) DG.mg DG.kp DG.bd .nil pass0 (pa_cons (pv 1) pa_nil)))) (pss_one ps_never) pss_nil, ?_⟩
    obtain ⟨gv, sg, ga⟩ := R
    have hl : gv.length = gs.length := ga.1
    have hpos : 0 < gs.length := by
      cases gs with
      | nil => exact absurd rfl hne
      | cons _ _ => simp
    refine ⟨_, rfl, _, _, _, _, true, rfl, .ty "list", ty_lst sg, kit_ty (by decide +kernel), true, rfl, ?_⟩
    refine iteF ⟨_, rfl, l, gv, rfl, .inl sg, rfl, false, ?_, iteF ?_⟩
    · show V.bl (decide (V.int (gv.length : Int) = V.int 0)) = V.bl false
      rw [decide_eq_false]
      intro z
      have := V.int.inj z
      omega
    refine ⟨_, rfl, l, rfl, ⟨_, sg⟩, for_list (K := K) (a := l) (xs := gv) (fun i σ H2 => ∃ y, σ = [some (.ref l), y] ∧ Same H H2) ⟨_, rfl, Same.refl H⟩ (fun i σ H2 _ ⟨_, _, sm⟩ => sm.seq sg) ?_ ?_⟩
    · rintro i x σ H2 hx ⟨y, rfl, sm⟩
      obtain ⟨g, hg, gv⟩ := ga.get hx
      refine ⟨_, rfl, x, g, rfl, gv.tk (TK.same sm), gok g (List.mem_of_getElem? hg), fun H3 sm3 => ⟨true, rfl, iteF ⟨_, rfl, sm.trans sm3⟩⟩⟩
    · rintro σ H2 ⟨y, rfl, sm⟩
      exact q H2 sm
/-! ### is_wire -/
abbrev nIsWire : List Str := ["thing", "many_gates", "start", "end", "held", "worth"]
theorem scIsWire : FnScope nIsWire ["thing", "many_gates"] (defScope sIsWire) := ⟨rfl, rfl, rfl, by decide +kernel, rfl, by decide +kernel, by decide +kernel⟩
abbrev DIsWire (P : Program) (w : World) (K : PySem.W.Frag) (mg : Str → Option Value) (base : Heap) := Df P w K mg base 4 "is_wire" ["thing", "many_gates"] (spIsWire K)
theorem ok_isWire {f fF fW : Addr} {fd fdF fdW : FuncData} (F : Fun K "is_wire" "is_wire" sIsWire f fd) (hm : mg "is_wire" = some (.ref f)) (B : Bt mg) (DF : DFromTo P w K mg base fF fdF) (DW : DWorth P w K mg base fW fdW) : DIsWire P w K mg base f fd := by
  refine ⟨?_, hm, F.kp, F.binds fun _ _ _ _ _ _ us hl => match us, hl with | [_, _], _ => rfl⟩
  refine F.ok scIsWire (fun vs H Q E h => ?_) (fun cdv A outer s H vs Q E hr h => ?_)
  · obtain ⟨v, x, n, rfl, _⟩ := h
    rfl
  · obtain ⟨v, x, n, rfl, ⟨a, b, rfl, sq1, sq2⟩, hs, he, rok, rl, q⟩ := h
    have nd := scIsWire.nd
    have hr2 : Room 2 _ := hr.mono (by decide)
    refine ⟨_, pss_cons (ps_if (PW.pt (pw_or (pt_not (pt_val (pe_callB call_isi (by rfl) B.isi (by decide +kernel) (pa_cons (pv 0) (pa_cons (pe_bltn (v := .ty "tuple") (by rfl) B.tuple (by decide +kernel) rfl) pa_nil)))))
          (pw_or1 (pt_cmpR op_ne (pe_callB call_len_seq (by rfl) B.len PySem.boot_len (pa_cons (pv 0) pa_nil)) pe_int (nomark _))))) (pss_one (ps_ret pe_bl)) pss_nil) <|
      pss_cons (ps_asg (pv 0) (pg_tup (by rfl) (pgs_cons (pg_name (i := 2) nd rfl (.inl rfl)) (pgs_cons (pg_name (i := 3) nd rfl (.inl rfl)) (pgs_cons (pg_name (i := 4) nd rfl (.inl rfl)) pgs_nil))))) <|
      pss_cons (ps_if (PW.pt (pw_or (pt_not (pt_val (pe_call DF.ok hr2 (by rfl) DF.mg DF.kp DF.bd .nil pass0 (pa_cons (pv 2) (pa_cons pe_int (pa_cons (pe_op op_sub (pv 1) pe_int) pa_nil))))))
          (pw_or1 (pt_not (pt_val (pe_call DF.ok hr2 (by rfl) DF.mg DF.kp DF.bd .nil pass0 (pa_cons (pv 3) (pa_cons pe_int (pa_cons (pe_op op_sub (pv 1) pe_int) pa_nil))))))))) (pss_one (ps_ret pe_bl)) pss_nil) <|
      pss_one <| ps_ret <| pe_and (pe_callB call_isi (by rfl) B.isi (by decide +kernel) (pa_cons (pv 4) (pa_cons (pe_bltn (v := .ty "tuple") (by rfl) B.tuple (by decide +kernel) rfl) pa_nil))) <| pe_one <|
        pe_callB (cr_all rfl) (by rfl) B.all (by decide +kernel) <| (pa_cons · pa_nil) <| pe_lc (own := [("worth", 5)]) (g := gName 5) (tt := tYes) (te := tCall spWorth [] E0 (tCons (tVar 5) tNil)) rfl nd (pi_tup (pv 4)) (blkOk_by (N := nIsWire) (sc := defScope sIsWire) (own := [("worth", 5)]) (by decide +kernel))
          (fun _ _ _ _ _ => pg_name (i := 5) nd rfl (.inl rfl)) (fun _ _ _ _ _ => pts_nil) (fun _ _ _ _ _ => pe_call DW.ok hr (by rfl) DW.mg DW.kp DW.bd .nil pass0 (pa_cons (pv 5) pa_nil)), ?_⟩
    refine ⟨_, rfl, _, _, _, _, true, rfl, .ty "tuple", ty_tup sq1, kit_ty (by decide +kernel), true, rfl, ?_⟩
    refine iteF ⟨_, rfl, a, _, rfl, .inr sq1, rfl, _, rfl, iteF ?_⟩
    refine ⟨_, rfl, a, _, rfl, sq1, rfl, _, _, rfl, _, _, rfl, _, _, rfl, rfl, ?_⟩
    refine ⟨_, rfl, _, rfl, _, _, rfl, rfl, _, _, _, rfl, true, ?_, iteF ?_⟩
    · rw [decide_eq_true (by omega), decide_eq_true (by omega)]
      rfl
    refine ⟨_, rfl, _, rfl, _, _, rfl, rfl, _, _, _, rfl, true, ?_, iteF ?_⟩
    · rw [decide_eq_true (by omega), decide_eq_true (by omega)]
      rfl
    refine ⟨_, rfl, _, _, _, _, true, rfl, .ty "tuple", ty_tup sq2, kit_ty (by decide +kernel), true, rfl, iteT ?_⟩
    refine ⟨_, rfl, b, rfl, ⟨_, sq2⟩, fun D hD => ?_⟩
    refine lc_tup (K := K) (a := b) (xs := x.2.2.map V.int) (fun i Hc => Hc D = some (.lst ((List.replicate i true).map V.bl)) ∧ Same H Hc) ⟨upd_same, same_new hD⟩ (fun i Hc _ ⟨_, sm⟩ => (TK.same sm).seq sq2) ?_ ?_
    · rintro i y Hc hy ⟨hc, sm⟩
      rw [List.getElem?_map] at hy
      cases ey : x.2.2[i]? with
      | none =>
        rw [ey] at hy
        cases hy
      | some z =>
      rw [ey] at hy
      cases hy
      have hz := rok z (List.mem_of_getElem? ey)
      have hi : i < x.2.2.length := (List.getElem?_eq_some_iff.mp ey).1
      refine ⟨rfl, tyes ?_⟩
      refine ⟨_, rfl, z, rfl, _, hc, by rw [List.length_map, List.length_replicate]; exact small1000 (by omega), ?_, same_mut sm hD⟩
      rw [upd_same, decide_eq_true hz.1, decide_eq_true hz.2, List.replicate_succ', List.map_append]
      rfl
    · rintro Hc ⟨hc, sm⟩
      refine ⟨D, _, rfl, SqL.of hc, ?_⟩
      have e : (List.replicate (x.2.2.map V.int).length true).all id = true := by
        rw [List.all_eq_true]
        intro y hy
        rw [List.mem_replicate] at hy
        rw [hy.2]
        rfl
      rw [e]
      exact q Hc sm
/-! ### is_taken -/
theorem scTaken : FnScope ["wire", "gates", "come", "start", "end"] ["wire", "gates", "come"] (defScope sTaken) := ⟨rfl, rfl, rfl, by decide +kernel, rfl, by decide +kernel, by decide +kernel⟩
abbrev DTaken (P : Program) (w : World) (K : PySem.W.Frag) (mg : Str → Option Value) (base : Heap) := Df P w K mg base 1 "is_taken" ["wire", "gates", "come"] (spTaken K)
theorem ok_taken {f : Addr} {fd : FuncData} (F : Fun K "is_taken" "is_taken" sTaken f fd) (hm : mg "is_taken" = some (.ref f)) : DTaken P w K mg base f fd := by
  refine ⟨?_, hm, F.kp, F.binds fun _ _ _ _ _ _ us hl => match us, hl with | [_, _, _], _ => rfl⟩
  refine F.ok scTaken (fun vs H Q E h => ?_) (fun cdv A outer s H vs Q E hr h => ?_)
  · obtain ⟨v, x, lg, lc, gs, cs, rfl, _⟩ := h
    rfl
  · obtain ⟨v, x, lg, lc, gs, cs, rfl, ⟨a, b, rfl, sq1, sq2⟩, ⟨gv, sg, ga⟩, sc, W, hcl, h0, q⟩ := h
    have nd := scTaken.nd
    refine ⟨_, pss_cons (ps_par (i := 3) (j := 4) (by rfl) nd rfl rfl (by decide) rfl rfl (pa_cons (pe_ix ix_tup (pv 0) pe_int (fun _ _ => rfl)) (pa_cons (pe_ix ix_tup (pv 0) pe_int (fun _ _ => rfl)) pa_nil)) (by rfl)) <|
      pss_cons (ps_if (PW.pt (pw_or (pt_cmpR op_eq (pe_ix ix_tup (pe_ix ix_list (pv 1) (pv 3) (fun _ _ => rfl)) pe_int (fun _ _ => rfl)) pe_str (nomark _)) (pw_or1 (pt_cmpR op_eq (pe_ix ix_tup (pe_ix ix_list (pv 1) (pv 4) (fun _ _ => rfl)) pe_int (fun _ _ => rfl)) pe_str (nomark _))))) (pss_one (ps_ret pe_bl)) pss_nil) <|
      pss_one <| ps_ret <| pe_or (pe_cmpR op_ne (pe_ix ix_tup (pe_ix ix_list (pv 1) (pv 4) (fun _ _ => rfl)) pe_int (fun _ _ => rfl)) pe_str (nomark _)) (pe_one (pe_cmpR op_eq (pe_ix ix_list (pv 2) (pv 4) (fun _ _ => rfl)) pe_int (nomark _))), ?_⟩
    have hl : gv.length = gs.length := ga.1
    obtain ⟨vs1, g1, e1, f1, a1, rfl, s1⟩ : ∃ vs1 g1, gv[x.1]? = some vs1 ∧ gs[x.1]? = some g1 ∧ GateV K H vs1 g1 := by
      have e1 : gs[x.1]? = some (gs[x.1]'W.s) := List.getElem?_eq_getElem W.s
      obtain ⟨y, hy, r⟩ := ga.getR e1
      exact ⟨y, _, hy, e1, r⟩
    obtain ⟨vs2, g2, e2, f2, a2, rfl, s2⟩ : ∃ vs2 g2, gv[x.2.1]? = some vs2 ∧ gs[x.2.1]? = some g2 ∧ GateV K H vs2 g2 := by
      have e1 : gs[x.2.1]? = some (gs[x.2.1]'W.e) := List.getElem?_eq_getElem W.e
      obtain ⟨y, hy, r⟩ := ga.getR e1
      exact ⟨y, _, hy, e1, r⟩
    have k1 := kindAt_get f1
    have k2 := kindAt_get f2
    refine ⟨_, rfl, a, _, 0, _, rfl, rfl, sq1, atI_nat (j := 0) rfl, _, rfl, a, _, 1, _, rfl, rfl, sq1, atI_nat (j := 1) rfl, _, _, rfl, ?_⟩
    refine ⟨_, rfl, _, rfl, lg, gv, _, _, rfl, rfl, sg, atI_nat e1, a1, _, 0, _, rfl, rfl, s1, atI_nat (j := 0) rfl, rfl, false, ?_, iteF ?_⟩
    · show V.bl (decide (V.str g1.1 = V.str "out")) = V.bl false
      rw [decide_eq_false]
      intro z
      exact W.ks (by rw [k1]; exact V.str.inj z)
    refine ⟨_, rfl, _, rfl, lg, gv, _, _, rfl, rfl, sg, atI_nat e2, a2, _, 0, _, rfl, rfl, s2, atI_nat (j := 0) rfl, rfl, false, ?_, iteF ?_⟩
    · show V.bl (decide (V.str g2.1 = V.str "in")) = V.bl false
      rw [decide_eq_false]
      intro z
      exact W.ke (by rw [k2]; exact V.str.inj z)
    refine ⟨_, rfl, _, rfl, lg, gv, _, _, rfl, rfl, sg, atI_nat e2, a2, _, 0, _, rfl, rfl, s2, atI_nat (j := 0) rfl, rfl, _, rfl, ite2 (fun e => ?_) (fun e => ?_)⟩
    · exact q
    · have hk : kindAt gs x.2.1 = "out" := by
        rw [k2]
        refine Classical.byContradiction fun z => e ?_
        show (!decide (V.str g2.1 = V.str "out")) = true
        rw [decide_eq_false (fun y => z (V.str.inj y))]
        rfl
      have hc := h0 hk
      refine ⟨_, rfl, _, rfl, lc, _, _, .int 0, rfl, rfl, sc, atI_nat (by rw [List.getElem?_map, hc]; rfl), rfl, q⟩
end
end Lag

set_option maxRecDepth 100000
set_option maxHeartbeats 4000000
namespace Lag
open PySem PySem.Spec PyProof.Rows L2
abbrev sChkWires : Stmt := topS 23
def cntL (n : Nat) (ws : List Wr) : List Nat := (List.range n).map (cnt ws)
theorem cntL_len (n : Nat) (ws : List Wr) : (cntL n ws).length = n := by simp [cntL]
theorem cntL_get {n e : Nat} {ws : List Wr} (h : e < n) : (cntL n ws)[e]? = some (cnt ws e) := by
  unfold cntL
  rw [List.getElem?_map, List.getElem?_range h]
  rfl
theorem cntL_nil (n : Nat) : cntL n [] = List.replicate n 0 := by
  refine List.ext_getElem? fun i => ?_
  by_cases h : i < n
  · rw [cntL_get h, List.getElem?_replicate, if_pos h]
    rfl
  · rw [List.getElem?_eq_none (by rw [cntL_len]; omega), List.getElem?_eq_none (by simp; omega)]
theorem cnt_app (ws : List Wr) (x : Wr) (e : Nat) : cnt (ws ++ [x]) e = cnt ws e + if x.2.1 = e then 1 else 0 := by
  unfold cnt
  rw [List.countP_append, List.countP_cons, List.countP_nil]
  by_cases h : x.2.1 = e <;> simp [h]
theorem cntL_app {n : Nat} {ws : List Wr} {x : Wr} (h : x.2.1 < n) : (cntL n ws).set x.2.1 (cnt ws x.2.1 + 1) = cntL n (ws ++ [x]) := by
  refine List.ext_getElem? fun i => ?_
  by_cases hi : i < n
  · rw [cntL_get hi, cnt_app, List.getElem?_set]
    by_cases e : x.2.1 = i
    · rw [if_pos e, if_pos e, if_pos (by rw [cntL_len]; exact h), e]
    · rw [if_neg e, if_neg e, cntL_get hi]
      rfl
  · rw [List.getElem?_eq_none (by rw [List.length_set, cntL_len]; omega), List.getElem?_eq_none (by rw [cntL_len]; omega)]
theorem cnt_take_lt {ws : List Wr} {i : Nat} {x : Wr} (h : ws[i]? = some x) : cnt (ws.take i) x.2.1 + 1 ≤ cnt ws x.2.1 := by
  have e : ws.take (i + 1) = ws.take i ++ [x] := by rw [List.take_add_one, h]; rfl
  have h1 : cnt (ws.take (i + 1)) x.2.1 ≤ cnt ws x.2.1 := by
    unfold cnt
    exact List.Sublist.countP_le (List.take_sublist _ _)
  rw [e, cnt_app, if_pos rfl] at h1
  exact h1
def spChkWires (K : PySem.W.Frag) : Sp := fun vs H Q _ => ∃ (lg lw : Addr) (gs : List Gt) (ws : List Wr), vs = [.ref lg, .ref lw] ∧ RG K H lg gs ∧ RW K H lw ws ∧ NetOk gs ws ∧ ∀ H', Same H H' → Q .non H'
theorem map_set' {α β : Type} (f : α → β) (l : List α) (i : Nat) (a : α) : (l.map f).set i (f a) = (l.set i a).map f := by simp [List.map_set]
section
variable {P : Program} {w : World} {K : PySem.W.Frag} {mg : Str → Option Value} {base : Heap}
theorem scChkWires : FnScope ["gates", "wires", "come", "place", "thing", "gate", "many"] ["gates", "wires"] (defScope sChkWires) := ⟨rfl, rfl, rfl, by decide +kernel, rfl, by decide +kernel, by decide +kernel⟩
abbrev DChkWires (P : Program) (w : World) (K : PySem.W.Frag) (mg : Str → Option Value) (base : Heap) := Df P w K mg base 5 "check_wires" ["gates", "wires"] (spChkWires K)
theorem ok_chkWires {f fW fT aK aW aF : Addr} {fd fdW fdT : FuncData} (F : Fun K "check_wires" "check_wires" sChkWires f fd) (hm : mg "check_wires" = some (.ref f)) (B : Bt mg) (C : Cns K mg aK aW aF) (DW : DIsWire P w K mg base fW fdW) (DT : DTaken P w K mg base fT fdT) : DChkWires P w K mg base f fd := by
  refine ⟨?_, hm, F.kp, F.binds fun _ _ _ _ _ _ us hl => match us, hl with | [_, _], _ => rfl⟩
  refine F.ok scChkWires (fun vs H Q E h => ?_) (fun cdv A outer s H vs Q E hr h => ?_)
  · obtain ⟨lg, lw, gs, ws, rfl, _⟩ := h
    rfl
  · obtain ⟨lg, lw, gs, ws, rfl, RGs, ⟨wv, sw, wa⟩, N, q⟩ := h
    have nd := scChkWires.nd
    have hr1 : Room 1 _ := hr.mono (by decide)
    refine ⟨_, pss_cons (ps_if (pt_not (pt_val (pe_callB call_isi (by rfl) B.isi (by decide +kernel) (pa_cons (pv 1) (pa_cons (pe_bltn (v := .ty "list") (by rfl) B.list (by decide +kernel) rfl) pa_nil))))) (pss_one ps_never) pss_nil) <|
      pss_cons (ps_set (i := 2) nd rfl (Or.inl rfl) (pe_op op_rep (pe_lst (pa_cons pe_int pa_nil)) (pe_callB call_len_seq (by rfl) B.len PySem.boot_len (pa_cons (pv 0) pa_nil)))) <|
      pss_cons (ps_for PassesOwn.never rfl (pi_enum (by rfl) B.enum (pa_cons (pv 1) pa_nil)) (pg_tup rfl (pgs_cons (pg_name (i := 3) nd rfl (Or.inl rfl)) (pgs_cons (pg_name (i := 4) nd rfl (Or.inl rfl)) pgs_nil))) <|
        pss_cons (ps_if (PW.pt (pw_or (pt_not (pt_val (pe_call DW.ok hr (by rfl) DW.mg DW.kp DW.bd .nil pass0 (pa_cons (pv 4) (pa_cons (pe_callB call_len_seq (by rfl) B.len PySem.boot_len (pa_cons (pv 0) pa_nil)) pa_nil)))))
            (pw_or1 (pt_not (pt_val (pe_call DT.ok hr1 (by rfl) DT.mg DT.kp DT.bd .nil pass0 (pa_cons (pv 4) (pa_cons (pv 0) (pa_cons (pv 2) pa_nil))))))))) (pss_one ps_never) pss_nil) <|
        pss_one <| ps_augS (pv 2) (pe_ix ix_tup (pv 4) pe_int (fun _ _ => rfl)) get_list pe_int ip_add set_list) <|
      pss_one <| ps_for PassesOwn.never rfl (pi_zip (by rfl) B.zip (pa_cons (pv 0) (pa_cons (pv 2) pa_nil))) (pg_tup rfl (pgs_cons (pg_name (i := 5) nd rfl (Or.inl rfl)) (pgs_cons (pg_name (i := 6) nd rfl (Or.inl rfl)) pgs_nil))) <|
        pss_one <| ps_if (PW.pt (pw_and (pt_cmpR op_in_seq (pe_ix ix_tup (pv 5) pe_int (fun _ _ => rfl)) (pe_glob (v := .ref aF) (by rfl) C.mF rfl) (by rfl)) (pw_and1 (pt_cmpR op_eq (pv 6) pe_int (nomark _))))) (pss_one ps_never) pss_nil, ?_⟩
    obtain ⟨gv, sg, ga⟩ := id RGs
    have hlg : gv.length = gs.length := ga.1
    have hlw : wv.length = ws.length := wa.1
    have hgl := N.gl
    refine ⟨_, rfl, _, _, _, _, true, rfl, .ty "list", ty_lst sw, kit_ty (by decide +kernel), true, rfl, iteF ?_⟩
    refine ⟨(by show 1 ≤ sizeLine; decide), fun l0 hl0 => ?_⟩
    refine ⟨_, rfl, lg, gv, rfl, .inl ((same_new hl0).seq sg), ?_⟩
    refine ⟨l0, _, _, rfl, rfl, upd_same, by omega, by omega, ?_, fun lc hlc => ?_⟩
    · show 1 * _ ≤ sizeLine
      have : 1 * ((gv.length : Int)).toNat ≤ 1000 := by omega
      exact Nat.le_of_lt (small1000 this)
    have sm0 : Same H (upd H l0 (.lst [.int 0])) := same_new hl0
    have hlc0 : H lc = none := sm0.free hlc
    have e0 : (List.replicate ((gv.length : Int)).toNat [V.int 0]).flatten = (cntL gs.length (ws.take 0)).map fun i => V.int (i : Nat) := by
      rw [List.take_zero, cntL_nil, List.map_replicate, ← hlg, Int.toNat_natCast]
      generalize gv.length = n
      induction n with
      | zero => rfl
      | succ n ih =>
        rw [List.replicate_succ, List.flatten_cons, ih, List.replicate_succ]
        rfl
    rw [e0]
    -- for place, thing in enumerate(wires)
    refine ⟨_, rfl, lw, wv, rfl, (sm0.trans (same_new hlc)).seq sw, for_it (walk_enum (K := K) (a := lw) (xs := wv)) (fun i σ H2 => ∃ s3 s4 : Option V, σ = [some (.ref lg), some (.ref lw), some (.ref lc), s3, s4, none, none] ∧
        H2 lc = some (.lst ((cntL gs.length (ws.take i)).map fun i => V.int (i : Nat))) ∧ Same H H2)
      ⟨_, _, rfl, upd_same, sm0.trans (same_new hlc)⟩ (fun i σ H2 _ ⟨_, _, _, _, sm⟩ => sm.seq sw) ?_ ?_⟩
    · rintro i v σ H2 H2' hi ⟨s3, s4, rfl, hc, sm⟩ ⟨T, x1, y, rfl, hT, rfl, ex, ey⟩
      cases ex
      obtain ⟨x, hx, wx⟩ := wa.get ey
      have W := N.wok x (List.mem_of_getElem? hx)
      have hxi : i < ws.length := (List.getElem?_eq_some_iff.mp hx).1
      have smT : Same H2 (upd H2 T (.tup [.int (i : Nat), y])) := same_new hT
      have sm2 := sm.trans smT
      refine ⟨T, _, rfl, .inl (.inl upd_same), rfl, _, _, rfl, _, _, rfl, rfl, ?_⟩
      refine ⟨_, rfl, _, rfl, lg, gv, rfl, .inl (sm2.seq sg), y, x, gv.length, rfl, wx.tk (TK.same sm2), by rw [hlg]; exact W.s, by rw [hlg]; exact W.e, W.r, by have := W.rl; omega, fun H3 sm3 => ⟨true, rfl, iteF ?_⟩⟩
      have sm4 := sm2.trans sm3
      have hc3 := sm3 _ _ (smT _ _ hc)
      refine ⟨_, rfl, _, rfl, _, rfl, y, x, lg, lc, gs, cntL gs.length (ws.take i), rfl, wx.tk (TK.same sm4), RGs.same sm4, SqL.of hc3, W, cntL_len _ _, fun hk => ?_, true, rfl, iteF ?_⟩
      · rw [cntL_get W.e]
        have h1 := N.one _ W.e hk
        have h2 := cnt_take_lt hx
        congr 1
        omega
      obtain ⟨a, b, rfl, sq1, sq2⟩ := wx
      have hlen : x.2.1 < (cntL gs.length (ws.take i)).length := by rw [cntL_len]; exact W.e
      refine ⟨_, rfl, _, rfl, a, _, 1, _, rfl, rfl, (TK.same sm4).seq sq1, atI_nat (j := 1) rfl, lc, _, x.2.1, .int (cnt (ws.take i) x.2.1 : Nat), rfl, rfl, SqL.of hc3, by rw [List.getElem?_map, cntL_get W.e]; rfl, _, _, rfl, rfl, lc, _, _, x.2.1, rfl, rfl, hc3, Evl.ixN_nat (by rw [List.length_map]; exact hlen), ?_⟩
      refine ⟨_, _, rfl, ?_, same_mut sm4 hlc0⟩
      have et : ws.take (i + 1) = ws.take i ++ [x] := by rw [List.take_add_one, hx]; rfl
      rw [upd_same, et, ← cntL_app W.e, ← map_set']
      rfl
    · rintro σ H2 ⟨s3, s4, rfl, hc, sm⟩
      rw [hlw, List.take_length] at hc
      -- for gate, many in zip(gates, come)
      refine ⟨_, rfl, _, rfl, lg, lc, gv, _, rfl, sm.seq sg, SqL.of hc, RZ.for_zipL (K := K) (a := lg) (b := lc) (xs := gv) (by rw [List.length_map, cntL_len]; exact hlg) (fun i σ H3 => ∃ s5 s6 : Option V, σ = [some (.ref lg), some (.ref lw), some (.ref lc), s3, s4, s5, s6] ∧ Same H2 H3)
        ⟨_, _, rfl, Same.refl H2⟩ (fun i σ H3 ⟨_, _, _, sm3⟩ => ⟨(sm.trans sm3).seq sg, SqL.of (sm3 _ _ hc)⟩) ?_ ?_⟩
      · rintro i x y T σ H3 hx hy ⟨s5, s6, rfl, sm3⟩ hT
        obtain ⟨g, hg, a, rfl, sq⟩ := ga.get hx
        have hgi : i < gs.length := (List.getElem?_eq_some_iff.mp hg).1
        rw [List.getElem?_map, cntL_get hgi] at hy
        cases hy
        have sm4 : Same H (upd H3 T (.tup [.ref a, .int (cnt ws i : Nat)])) := (sm.trans sm3).trans (same_new hT)
        refine ⟨T, _, rfl, .inl (.inl upd_same), rfl, _, _, rfl, _, _, rfl, rfl, ?_⟩
        refine ⟨_, rfl, a, _, 0, _, rfl, rfl, (TK.same sm4).seq sq, atI_nat (j := 0) rfl, aF, _, rfl, .inr (C.sF _), rfl, rfl, _, rfl, ite2 (fun e => ?_) (fun e => ?_)⟩
        · have e' : inV (V.str g.1) [V.str "out", V.str "first"] = true := e
          have hpos : 1 ≤ cnt ws i := by
            unfold inV at e'
            rw [List.any_eq_true] at e'
            obtain ⟨x, hx, hxe⟩ := e'
            simp only [List.mem_cons, List.not_mem_nil, or_false] at hx
            rcases hx with rfl | rfl
            · have := N.one i hgi (by rw [kindAt_get hg]; exact (eq_of_beq hxe).symm)
              omega
            · exact N.some i hgi (by rw [kindAt_get hg]; exact (eq_of_beq hxe).symm)
          refine ⟨_, rfl, rfl, false, ?_, iteF ⟨_, _, rfl, sm3.trans (same_new hT)⟩⟩
          show V.bl (decide (V.int (cnt ws i : Int) = V.int 0)) = V.bl false
          rw [decide_eq_false]
          intro z
          have := V.int.inj z
          omega
        · exact iteF ⟨_, _, rfl, sm3.trans (same_new hT)⟩
      · rintro σ H3 ⟨s5, s6, rfl, sm3⟩
        exact q H3 (sm.trans sm3)
end
end Lag

set_option maxRecDepth 100000
set_option maxHeartbeats 4000000
namespace Lag
open PySem PySem.Spec PyProof.Rows L2
/-! ### the order of gates along wires without registers: the mathematics -/
def bare (ws : List Wr) : List (Nat × Nat) := (ws.filter fun x => x.2.2.isEmpty).map fun x => (x.1, x.2.1)
/-- how many wires of B lead into e from gates that are not in dn -/
def mis (B : List (Nat × Nat)) (dn : List Nat) (e : Nat) : Nat := B.countP fun b => b.2 == e && !dn.contains b.1
def frm (B : List (Nat × Nat)) (g e : Nat) : Nat := B.countP fun b => b.1 == g && b.2 == e
theorem mis_split {B : List (Nat × Nat)} {dn : List Nat} {g : Nat} (h : g ∉ dn) (e : Nat) : mis B dn e = mis B (dn ++ [g]) e + frm B g e := by
  unfold mis frm
  induction B with
  | nil => rfl
  | cons b B ih =>
    rw [List.countP_cons, List.countP_cons, List.countP_cons, ih]
    by_cases h1 : b.2 = e
    · by_cases h2 : b.1 = g
      · have : b.1 ∉ dn := by rw [h2]; exact h
        simp [h1, h2, h]
        omega
      · by_cases h3 : b.1 ∈ dn
        · simp [h1, h2, h3]
        · simp [h1, h2, h3]
          omega
    · simp [h1]
theorem mis_zero {B : List (Nat × Nat)} {dn : List Nat} {e : Nat} (h : mis B dn e = 0) {b : Nat × Nat} (hb : b ∈ B) (he : b.2 = e) : b.1 ∈ dn := by
  unfold mis at h
  rw [List.countP_eq_zero] at h
  have := h b hb
  simp [he] at this
  exact this
theorem frm_drop {B : List (Nat × Nat)} {j : Nat} {b : Nat × Nat} (h : B[j]? = some b) (g e : Nat) : frm (B.drop j) g e = frm (B.drop (j + 1)) g e + if b.1 = g ∧ b.2 = e then 1 else 0 := by
  obtain ⟨hj, rfl⟩ := List.getElem?_eq_some_iff.mp h
  rw [List.drop_eq_getElem_cons hj]
  unfold frm
  rw [List.countP_cons]
  by_cases h1 : B[j].1 = g <;> by_cases h2 : B[j].2 = e <;> simp [h1, h2]
structure KI (B : List (Nat × Nat)) (n : Nat) (placed : List Nat) (d : Nat) : Prop where
  nd : placed.Nodup
  lt : ∀ e ∈ placed, e < n
  le : d ≤ placed.length
  iff : ∀ e, e < n → (e ∈ placed ↔ mis B (placed.take d) e = 0)
  top : ∀ (j e : Nat), placed[j]? = some e → ∀ b ∈ B, b.2 = e → b.1 ∈ placed.take j
structure KJ (B : List (Nat × Nat)) (n : Nat) (placed : List Nat) (d g j : Nat) : Prop where
  nd : placed.Nodup
  lt : ∀ e ∈ placed, e < n
  at_ : placed[d]? = some g
  iff : ∀ e, e < n → (e ∈ placed ↔ mis B (placed.take (d + 1)) e + frm (B.drop j) g e = 0)
  top : ∀ (j e : Nat), placed[j]? = some e → ∀ b ∈ B, b.2 = e → b.1 ∈ placed.take j
theorem take_add {l : List Nat} {d g : Nat} (h : l[d]? = some g) : l.take (d + 1) = l.take d ++ [g] := by rw [List.take_add_one, h]; rfl
theorem nodup_take {l : List Nat} {d g : Nat} (nd : l.Nodup) (h : l[d]? = some g) : g ∉ l.take d := by
  intro hm
  obtain ⟨i, hi⟩ := List.getElem?_of_mem hm
  have h1 : i < d := by
    have := (List.getElem?_eq_some_iff.mp hi).1
    rw [List.length_take] at this
    omega
  rw [List.getElem?_take_of_lt h1] at hi
  have := nd_ix nd hi h
  omega
theorem KI.go {B : List (Nat × Nat)} {n : Nat} {placed : List Nat} {d g : Nat} (h : KI B n placed d) (hg : placed[d]? = some g) : KJ B n placed d g 0 :=
  ⟨h.nd, h.lt, hg, fun e he => by rw [h.iff e he, take_add hg, mis_split (nodup_take h.nd hg), List.drop_zero], h.top⟩
theorem KJ.done {B : List (Nat × Nat)} {n : Nat} {placed : List Nat} {d g : Nat} (h : KJ B n placed d g B.length) : KI B n placed (d + 1) := by
  have hd : d < placed.length := (List.getElem?_eq_some_iff.mp h.at_).1
  refine ⟨h.nd, h.lt, hd, fun e he => ?_, h.top⟩
  rw [h.iff e he, List.drop_length]
  rfl
theorem KJ.skip {B : List (Nat × Nat)} {n : Nat} {placed : List Nat} {d g j : Nat} {b : Nat × Nat} (h : KJ B n placed d g j) (hb : B[j]? = some b) (hg : b.1 ≠ g) : KJ B n placed d g (j + 1) :=
  ⟨h.nd, h.lt, h.at_, fun e he => by rw [h.iff e he, frm_drop hb, if_neg (fun z => hg z.1)]; rfl, h.top⟩
theorem KJ.not {B : List (Nat × Nat)} {n : Nat} {placed : List Nat} {d g j : Nat} {b : Nat × Nat} (h : KJ B n placed d g j) (hb : B[j]? = some b) (hg : b.1 = g) (hn : mis B (placed.take (d + 1)) b.2 + frm (B.drop (j + 1)) g b.2 ≠ 0) : KJ B n placed d g (j + 1) := by
  refine ⟨h.nd, h.lt, h.at_, fun e he => ?_, h.top⟩
  rw [h.iff e he, frm_drop hb]
  by_cases h2 : b.2 = e
  · subst h2
    rw [if_pos ⟨hg, rfl⟩]
    omega
  · rw [if_neg (fun z => h2 z.2)]
    rfl
theorem KJ.put {B : List (Nat × Nat)} {n : Nat} {placed : List Nat} {d g j : Nat} {b : Nat × Nat} (h : KJ B n placed d g j) (hb : B[j]? = some b) (hg : b.1 = g) (hlt : b.2 < n) (hn : mis B (placed.take (d + 1)) b.2 + frm (B.drop (j + 1)) g b.2 = 0) : KJ B n (placed ++ [b.2]) d g (j + 1) := by
  have hd : d < placed.length := (List.getElem?_eq_some_iff.mp h.at_).1
  have hnot : b.2 ∉ placed := fun z => by
    have := (h.iff _ hlt).mp z
    rw [frm_drop hb, if_pos ⟨hg, rfl⟩] at this
    omega
  have et : (placed ++ [b.2]).take (d + 1) = placed.take (d + 1) := List.take_append_of_le_length (by omega)
  refine ⟨?_, ?_, ?_, ?_, ?_⟩
  · rw [List.nodup_append]
    refine ⟨h.nd, by simp, fun a ha c hc => ?_⟩
    simp at hc
    subst hc
    intro z
    exact hnot (by rw [← z]; exact ha)
  · intro e he
    rcases List.mem_append.mp he with he | he
    · exact h.lt e he
    · simp at he
      subst he
      exact hlt
  · rw [List.getElem?_append_left hd]
    exact h.at_
  · intro e he
    rw [et, List.mem_append]
    by_cases h2 : b.2 = e
    · subst h2
      simp [hn]
    · have := h.iff e he
      rw [frm_drop hb, if_neg (fun z => h2 z.2)] at this
      rw [this]
      simp
      intro z
      exact absurd z.symm h2
  · intro k e hk c hc hce
    by_cases hk' : k < placed.length
    · rw [List.getElem?_append_left hk'] at hk
      rw [List.take_append_of_le_length (by omega)]
      exact h.top k e hk c hc hce
    · have hkl : k = placed.length := by
        have := (List.getElem?_eq_some_iff.mp hk).1
        simp at this
        omega
      subst hkl
      rw [List.getElem?_append_right (by omega)] at hk
      simp at hk
      subst hk
      rw [List.take_left']
      · have := mis_zero (show mis B (placed.take (d + 1)) b.2 = 0 by omega) hc hce
        exact List.mem_of_mem_take this
      · rfl
/-- what the order is: gates without two alike, each behind those it hangs on; all whose wires come from such -/
def Ord (n : Nat) (ws : List Wr) (ord : List Nat) : Prop := KI (bare ws) n ord ord.length
theorem Ord.full {n : Nat} {ws : List Wr} {ord : List Nat} (h : Ord n ws ord) (hw : ∀ x ∈ ws, x.1 < n ∧ x.2.1 < n) (rk : ∃ ρ : Nat → Nat, ∀ x ∈ ws, x.2.2 = [] → ρ x.1 < ρ x.2.1) : ord.Perm (List.range n) := by
  obtain ⟨ρ, hρ⟩ := rk
  have all : ∀ r e, e < n → ρ e = r → e ∈ ord := by
    intro r
    induction r using Nat.strongRecOn with
    | ind r ih =>
      intro e he hr
      rw [h.iff e he, List.take_length]
      unfold mis
      rw [List.countP_eq_zero]
      intro b hb
      obtain ⟨x, hx, rfl⟩ := List.mem_map.mp hb
      rw [List.mem_filter] at hx
      have hr0 : x.2.2 = [] := by simpa using hx.2
      have := hρ x hx.1 hr0
      simp
      intro z
      exact ih (ρ x.1) (by rw [← hr, ← z]; exact this) x.1 (hw x hx.1).1 rfl
  rw [List.perm_iff_count]
  intro a
  rw [h.nd.count, List.nodup_range.count]
  by_cases ha : a < n
  · rw [if_pos (all _ a ha rfl), if_pos (List.mem_range.mpr ha)]
  · rw [if_neg (fun z => ha (h.lt a z)), if_neg (fun z => ha (List.mem_range.mp z))]
end Lag

set_option maxRecDepth 100000
set_option maxHeartbeats 8000000
namespace Lag
open PySem PySem.Spec PyProof.Rows L2
abbrev sAlong : Stmt := topS 12
abbrev sOrder : Stmt := topS 27
def PairV (K : PySem.W.Frag) (H : Hp) (v : V) (b : Nat × Nat) : Prop := ∃ a, v = .ref a ∧ SqT K H a [.int (b.1 : Nat), .int (b.2 : Nat)]
theorem PairV.tk {K : PySem.W.Frag} {H H' : Hp} {v : V} {b : Nat × Nat} (t : TK H H') (h : PairV K H v b) : PairV K H' v b := by
  obtain ⟨a, e, s⟩ := h
  exact ⟨a, e, t.seq s⟩
/-- numbers by a function of the place -/
def fnL (n : Nat) (f : Nat → Nat) : List V := (List.range n).map fun e => V.int (f e : Nat)
theorem fnL_len (n : Nat) (f : Nat → Nat) : (fnL n f).length = n := by simp [fnL]
theorem fnL_get {n e : Nat} {f : Nat → Nat} (h : e < n) : (fnL n f)[e]? = some (V.int (f e : Nat)) := by
  unfold fnL
  rw [List.getElem?_map, List.getElem?_range h]
  rfl
theorem fnL_set {n e : Nat} {f f' : Nat → Nat} {z : Int} (h : e < n) (he : (f' e : Int) = z) (ho : ∀ i, i ≠ e → f' i = f i) : (fnL n f).set e (V.int z) = fnL n f' := by
  refine List.ext_getElem? fun i => ?_
  by_cases hi : i < n
  · rw [fnL_get hi, List.getElem?_set]
    by_cases ei : e = i
    · subst ei
      rw [if_pos rfl, if_pos (by rw [fnL_len]; exact h), he]
    · rw [if_neg ei, fnL_get hi, ho i (fun z => ei z.symm)]
  · rw [List.getElem?_eq_none (by rw [List.length_set, fnL_len]; omega), List.getElem?_eq_none (by rw [fnL_len]; omega)]
theorem fnL_zero (n : Nat) (f : Nat → Nat) (h : ∀ e, f e = 0) : (List.replicate n [V.int 0]).flatten = fnL n f := by
  have e : f = fun _ => 0 := funext h
  subst e
  unfold fnL
  induction n with
  | zero => rfl
  | succ n ih =>
    rw [List.replicate_succ', List.flatten_append, ih, List.range_succ, List.map_append]
    rfl
def spOrder (K : PySem.W.Frag) : Sp := fun vs H Q _ => ∃ (n : Nat) (lw : Addr) (ws : List Wr), vs = [.int (n : Nat), .ref lw] ∧ RW K H lw ws ∧ (∀ x ∈ ws, x.1 < n ∧ x.2.1 < n) ∧ n ≤ 1000 ∧ ws.length ≤ 1000 ∧
  ∀ (ord : List Nat) (p : Addr) (H' : Hp), Ord n ws ord → Same H H' → H p = none → H' p = some (.lst (ord.map fun i => V.int (i : Nat))) → Q (.ref p) H'
def spAlong (K : PySem.W.Frag) : Sp := fun vs H Q _ => ∃ (n : Nat) (lb : Addr) (bv : List V) (B : List (Nat × Nat)), vs = [.int (n : Nat), .ref lb] ∧ SqL K H lb bv ∧ All2 (PairV K H) bv B ∧ (∀ b ∈ B, b.1 < n ∧ b.2 < n) ∧ n ≤ 1000 ∧ B.length ≤ 1000 ∧
  ∀ (ord : List Nat) (p : Addr) (H' : Hp), KI B n ord ord.length → Same H H' → H p = none → H' p = some (.lst (ord.map fun i => V.int (i : Nat))) → Q (.ref p) H'
abbrev nAlong : List Str := ["many", "pairs", "missing", "start", "end", "placed", "done", "place"]
theorem scAlong : FnScope nAlong ["many", "pairs"] (defScope sAlong) := ⟨rfl, rfl, rfl, by decide +kernel, rfl, by decide +kernel, by decide +kernel⟩
abbrev nOrder : List Str := ["many_gates", "wires", "start", "end", "held"]
theorem scOrder : FnScope nOrder ["many_gates", "wires"] (defScope sOrder) := ⟨rfl, rfl, rfl, by decide +kernel, rfl, by decide +kernel, by decide +kernel⟩
theorem bare_take {ws : List Wr} {i : Nat} {x : Wr} (h : ws[i]? = some x) : bare (ws.take (i + 1)) = if x.2.2.isEmpty then bare (ws.take i) ++ [(x.1, x.2.1)] else bare (ws.take i) := by
  unfold bare
  rw [List.take_add_one, h]
  show ((ws.take i ++ [x]).filter _).map _ = _
  rw [List.filter_append]
  by_cases e : x.2.2.isEmpty
  · rw [if_pos e, List.filter_cons, if_pos e, List.map_append]
    rfl
  · rw [if_neg e, List.filter_cons, if_neg e, List.filter_nil, List.append_nil]
theorem bare_len (ws : List Wr) : (bare ws).length ≤ ws.length := by
  unfold bare
  rw [List.length_map]
  exact List.length_filter_le _ _
theorem mis_take {B : List (Nat × Nat)} {i : Nat} {b : Nat × Nat} (h : B[i]? = some b) (e : Nat) : mis (B.take (i + 1)) [] e = mis (B.take i) [] e + if b.2 = e then 1 else 0 := by
  unfold mis
  rw [List.take_add_one, h]
  show (B.take i ++ [b]).countP _ = _
  rw [List.countP_append, List.countP_cons, List.countP_nil]
  by_cases h1 : b.2 = e <;> simp [h1]
section
variable {P : Program} {w : World} {K : PySem.W.Frag} {mg : Str → Option Value} {base : Heap}
abbrev DAlong (P : Program) (w : World) (K : PySem.W.Frag) (mg : Str → Option Value) (base : Heap) := Df P w K mg base 1 "order_along" ["many", "pairs"] (spAlong K)
theorem ok_along {f : Addr} {fd : FuncData} (F : Fun K "order_along" "order_along" sAlong f fd) (hm : mg "order_along" = some (.ref f)) (Bb : Bt mg) : DAlong P w K mg base f fd := by
  refine ⟨?_, hm, F.kp, F.binds fun _ _ _ _ _ _ us hl => match us, hl with | [_, _], _ => rfl⟩
  refine F.ok scAlong (fun vs H Q E h => ?_) (fun cdv A outer s H vs Q E hr h => ?_)
  · obtain ⟨n, lb, bv, B, rfl, _⟩ := h
    rfl
  · obtain ⟨n, lb, bv, B, rfl, sb, ba1, hBlt, hn, hwl, q⟩ := h
    have nd := scAlong.nd
    refine ⟨_, pss_cons (ps_set (i := 2) nd rfl (Or.inr rfl) (pe_op op_rep (pe_lst (pa_cons pe_int pa_nil)) (pv 0))) <|
      pss_cons (ps_for PassesOwn.never rfl (pi_list (pv 1)) (pg_tup rfl (pgs_cons (pg_name (i := 3) nd rfl (Or.inl rfl)) (pgs_cons (pg_name (i := 4) nd rfl (Or.inl rfl)) pgs_nil)))
        (pss_one (ps_augS (pv 2) (pv 4) get_list pe_int ip_add set_list))) <|
      pss_cons (ps_setLc (i := 5) (own := [("place", 7)]) (g := gName 7) (tt := tTest (tOp rEq (tOp (rIxL K) (tVar 2) (tVar 7)) (tC (.int 0)))) (te := tVar 7) rfl nd rfl rfl (sw_true rfl rfl rfl (by decide +kernel))
          (pi_range1 (by rfl) Bb.range (pa_cons (pv 0) pa_nil)) (blkOk_by (N := nAlong) (sc := defScope sAlong) (own := [("place", 7)]) (by decide +kernel)) (fun _ _ _ _ _ => pg_name (i := 7) nd rfl (Or.inl rfl))
          (fun _ _ _ _ _ => pts_one (pt_cmpR op_eq (pe_ix ix_list (pv 2) (pv 7) (fun _ _ => rfl)) pe_int (nomark _))) (fun _ _ _ _ _ => pv 7)) <|
      pss_cons (ps_set (i := 6) nd rfl (Or.inl rfl) pe_int) <|
      pss_cons (ps_while PassesOwn.never (pt_cmpR op_lt (pv 6) (pe_callB call_len_seq (by rfl) Bb.len PySem.boot_len (pa_cons (pv 5) pa_nil)) (nomark _)) <|
        pss_cons (ps_for PassesOwn.never rfl (pi_list (pv 1)) (pg_tup rfl (pgs_cons (pg_name (i := 3) nd rfl (Or.inl rfl)) (pgs_cons (pg_name (i := 4) nd rfl (Or.inl rfl)) pgs_nil))) <|
          pss_one <| ps_if (pt_cmpR op_eq (pv 3) (pe_ix ix_list (pv 5) (pv 6) (fun _ _ => rfl)) (nomark _))
            (pss_cons (ps_augS (pv 2) (pv 4) get_list pe_int ip_sub set_list) <| pss_one <| ps_if (pt_cmpR op_eq (pe_ix ix_list (pv 2) (pv 4) (fun _ _ => rfl)) pe_int (nomark _))
              (pss_one (ps_expr (pe_bm PySem.F.plainAttrs_list PySem.F.slot_list_append PySem.F.type_list_append mt_append (pv 5) (pa_cons (pv 4) pa_nil)))) pss_nil) pss_nil) <|
        pss_one <| ps_aug (i := 6) nd rfl (Or.inl rfl) pe_int ip_add) <|
      pss_one <| ps_ret (pv 5), ?_⟩
    have hbl : bv.length ≤ 1000 := by
      rw [ba1.1]
      omega
    -- missing = [0] * many_gates
    refine ⟨(by show 1 ≤ sizeLine; decide), fun l0 hl0 => ?_⟩
    have sm2 : Same H (upd H l0 (.lst [.int 0])) := same_new hl0
    refine ⟨_, rfl, l0, _, _, rfl, rfl, upd_same, by omega, by omega, ?_, fun lm hlm => ?_⟩
    · show 1 * _ ≤ sizeLine
      have : 1 * ((n : Int)).toNat ≤ 1000 := by omega
      exact Nat.le_of_lt (small1000 this)
    rw [Int.toNat_natCast, fnL_zero n (mis (B.take 0) []) (fun e => by simp [mis])]
    have sm3 : Same H (upd (upd H l0 (.lst [.int 0])) lm (.lst (fnL n (mis (B.take 0) [])))) := sm2.trans (same_new hlm)
    have hm1 : H lm = none := sm2.free hlm
    -- for start, end in bare: missing[end] += 1
    refine ⟨_, rfl, lb, rfl, ⟨_, sm3.seq sb⟩, for_list (K := K) (a := lb) (xs := bv) (fun i σ H4 => ∃ s4 s5 : Option V, σ = [some (.int (n : Nat)), some (.ref lb), some (.ref lm), s4, s5, none, none, none] ∧
        H4 lm = some (.lst (fnL n (mis (B.take i) []))) ∧ Same H H4) ⟨_, _, rfl, upd_same, sm3⟩ (fun i σ H4 _ ⟨_, _, _, _, sm⟩ => sm.seq sb) ?_ ?_⟩
    · rintro i x σ H4 hx ⟨s4, s5, rfl, hml, sm4⟩
      obtain ⟨b, hbb, a, rfl, sq⟩ := ba1.get hx
      have hlt := hBlt b (List.mem_of_getElem? hbb)
      refine ⟨a, _, rfl, (TK.same sm4).seq sq, rfl, _, _, rfl, _, _, rfl, rfl, ?_⟩
      refine ⟨_, rfl, _, rfl, lm, _, b.2, _, rfl, rfl, SqL.of hml, fnL_get hlt.2, _, _, rfl, rfl, lm, _, _, b.2, rfl, rfl, hml, Evl.ixN_nat (by rw [fnL_len]; exact hlt.2), ?_⟩
      refine ⟨_, _, rfl, ?_, same_mut sm4 hm1⟩
      rw [upd_same]
      refine congrArg (fun z => some (HO.lst z)) (fnL_set hlt.2 ?_ ?_)
      · rw [mis_take hbb, if_pos rfl]
        show ((mis (B.take i) [] b.2 + 1 : Nat) : Int) = ((mis (B.take i) [] b.2 : Nat) : Int) + 1
        omega
      · intro j hj
        rw [mis_take hbb, if_neg (fun z => hj z.symm)]
        rfl
    · rintro σ H4 ⟨s4, s5, rfl, hml, sm4⟩
      rw [ba1.1, List.take_length] at hml
      -- placed = [gate for gate in range(many_gates) if missing[gate] == 0]
      refine ⟨_, rfl, _, rfl, by omega, by omega, fun lp hlp => ?_⟩
      refine lc_range (lo := 0) (n := ((n : Int)).toNat) (fun i Hc => Hc lp = some (.lst (((List.range i).filter fun e => mis B [] e == 0).map fun i => V.int (i : Nat))) ∧ Same H4 Hc) ⟨upd_same, same_new hlp⟩ ?_ ?_
      · rintro i Hc hi ⟨hc, sm⟩
        have hi' : i < n := by omega
        have hlen : (((List.range i).filter fun e => mis B [] e == 0).map fun i => V.int (i : Nat)).length ≤ 1000 := by
          rw [List.length_map]
          have := List.length_filter_le (fun e => mis B [] e == 0) (List.range i)
          rw [List.length_range] at this
          omega
        have e0 : (0 : Int) + (i : Int) = (i : Int) := Int.zero_add _
        rw [e0]
        refine ⟨rfl, ?_⟩
        refine ⟨_, rfl, _, rfl, lm, _, _, _, rfl, rfl, SqL.of (sm _ _ hml), atI_nat (fnL_get hi'), rfl, _, rfl, ite2 (fun e => ?_) (fun e => ?_)⟩
        · have hz : mis B [] i = 0 := by
            have := V.int.inj (of_decide_eq_true e)
            omega
          refine ⟨_, rfl, _, hc, Nat.lt_of_le_of_lt hlen (small1000 (Nat.le_refl _)), ?_, same_mut sm hlp⟩
          rw [upd_same, List.range_succ, List.filter_append, List.map_append, List.filter_cons, if_pos (by rw [hz]; rfl)]
          rfl
        · have hz : ¬ (mis B [] i == 0) = true := fun z => by
            apply e
            rw [beq_iff_eq] at z
            rw [z]
            rfl
          refine ⟨?_, sm⟩
          rw [List.range_succ, List.filter_append, List.filter_cons, if_neg hz, List.filter_nil, List.append_nil]
          exact hc
      · rintro H5 ⟨hp5, sm5⟩
        rw [Int.toNat_natCast] at hp5
        have k0 : KI B n ((List.range n).filter fun e => mis B [] e == 0) 0 := by
          refine ⟨List.nodup_range.sublist List.filter_sublist, fun e he => List.mem_range.mp (List.mem_filter.mp he).1, Nat.zero_le _, fun e he => ?_, fun j e hj b hb hbe => ?_⟩
          · rw [List.mem_filter, List.take_zero]
            simp [he]
          · have hm0 := (List.mem_filter.mp (List.mem_of_getElem? hj)).2
            rw [beq_iff_eq] at hm0
            have := mis_zero hm0 hb hbe
            simp at this
        -- the while
        have hp0 : H lp = none := sm4.free hlp
        refine ⟨fun m σ H6 => ∃ (placed : List Nat) (d : Nat) (s4 s5 : Option V), σ = [some (.int (n : Nat)), some (.ref lb), some (.ref lm), s4, s5, some (.ref lp), some (.int (d : Nat)), none] ∧
          KI B n placed d ∧ H6 lp = some (.lst (placed.map fun i => V.int (i : Nat))) ∧ H6 lm = some (.lst (fnL n (mis B (placed.take d)))) ∧ Same H H6 ∧ m = n - d, ?_, ?_⟩
        · have h5m := sm5 _ _ hml
          have e0 : mis B [] = mis B (((List.range n).filter fun e => mis B [] e == 0).take 0) := by rw [List.take_zero]
          rw [e0] at h5m
          exact ⟨n, _, 0, _, _, rfl, k0, hp5, h5m, sm4.trans sm5, rfl⟩
        · rintro m σ H6 ⟨placed, d, s4, s5, rfl, ki, hp6, hm6, sm6, rfl⟩
          have hp1 : H lp = none := sm4.free hlp
          have npm : lp ≠ lm := fun z => by
            rw [z, hml] at hlp
            cases hlp
          refine ⟨_, rfl, _, rfl, lp, _, rfl, .inl (SqL.of hp6), _, _, rfl, rfl, _, rfl, ite2 (fun e => ?_) (fun e => ?_)⟩
          · have hd : d < placed.length := by
              have e' : (d : Int) < ((placed.map fun i => V.int (i : Nat)).length : Int) := of_decide_eq_true e
              rw [List.length_map] at e'
              omega
            have hpl : ∀ placed : List Nat, placed.Nodup → (∀ e ∈ placed, e < n) → placed.length ≤ n := fun l hnd hlt => by
              have h1 : l.length = (l.filter fun e => decide (e < n)).length := by
                rw [List.filter_eq_self.mpr]
                intro a ha
                exact decide_eq_true (hlt a ha)
              have h2 := List.Nodup.length_le_of_subset hnd (l₂ := List.range n) (fun a ha => List.mem_range.mpr (hlt a ha))
              rw [List.length_range] at h2
              exact h2
            have hdn := hpl placed ki.nd ki.lt
            have hg : placed[d]? = some placed[d] := List.getElem?_eq_getElem hd
            refine ⟨fun σ H7 => ∃ (placed : List Nat) (s4 s5 : Option V), σ = [some (.int (n : Nat)), some (.ref lb), some (.ref lm), s4, s5, some (.ref lp), some (.int ((d : Nat) + 1)), none] ∧
              KI B n placed (d + 1) ∧ H7 lp = some (.lst (placed.map fun i => V.int (i : Nat))) ∧ H7 lm = some (.lst (fnL n (mis B (placed.take (d + 1))))) ∧ Same H H7, ?_, ?_⟩
            · rintro σ' H' ⟨placed', t4, t5, rfl, ki', hp', hm', sm'⟩
              exact ⟨n - (d + 1), by omega, placed', d + 1, t4, t5, rfl, ki', hp', hm', sm', rfl⟩
            · have e1 : mis B (placed.take d) = fun e => mis B (placed.take (d + 1)) e + frm (B.drop 0) placed[d] e := funext fun e => by
                rw [take_add hg, List.drop_zero]
                exact mis_split (nodup_take ki.nd hg) e
              rw [e1] at hm6
              generalize placed[d] = g at hg hm6
              refine ⟨_, rfl, lb, rfl, ⟨_, sm6.seq sb⟩, for_list (K := K) (a := lb) (xs := bv) (fun j σ H7 => ∃ (placed : List Nat) (s4 s5 : Option V), σ = [some (.int (n : Nat)), some (.ref lb), some (.ref lm), s4, s5, some (.ref lp), some (.int (d : Nat)), none] ∧
                  KJ B n placed d g j ∧ H7 lp = some (.lst (placed.map fun i => V.int (i : Nat))) ∧ H7 lm = some (.lst (fnL n fun e => mis B (placed.take (d + 1)) e + frm (B.drop j) g e)) ∧ Same H H7)
                ⟨placed, _, _, rfl, ki.go hg, hp6, hm6, sm6⟩ (fun i σ H4 _ ⟨_, _, _, _, _, _, _, sm⟩ => sm.seq sb) ?_ ?_⟩
              · rintro j x σ H7 hx ⟨placed, s4, s5, rfl, kj, hp7, hm7, sm7⟩
                obtain ⟨b, hbb, a, rfl, sq⟩ := ba1.get hx
                have hlt := hBlt b (List.mem_of_getElem? hbb)
                refine ⟨a, _, rfl, (TK.same sm7).seq sq, rfl, _, _, rfl, _, _, rfl, rfl, ?_⟩
                refine ⟨_, rfl, _, rfl, _, rfl, lp, _, _, _, rfl, rfl, SqL.of hp7, atI_nat (j := d) (by rw [List.getElem?_map, kj.at_]; rfl), rfl, _, rfl, ite2 (fun e => ?_) (fun e => ?_)⟩
                · have hbg : b.1 = g := by
                    have := V.int.inj (of_decide_eq_true e)
                    omega
                  have hfd : ∀ e, frm (B.drop j) g e = frm (B.drop (j + 1)) g e + if b.1 = g ∧ b.2 = e then 1 else 0 := fun e => frm_drop hbb g e
                  refine ⟨_, rfl, _, rfl, lm, _, b.2, _, rfl, rfl, SqL.of hm7, fnL_get hlt.2, _, _, rfl, rfl, lm, _, _, b.2, rfl, rfl, hm7, Evl.ixN_nat (by rw [fnL_len]; exact hlt.2), ?_⟩
                  have e2 : (fnL n fun e => mis B (placed.take (d + 1)) e + frm (B.drop j) g e).set b.2 (V.int (((mis B (placed.take (d + 1)) b.2 + frm (B.drop j) g b.2 : Nat) : Int) - 1)) = fnL n fun e => mis B (placed.take (d + 1)) e + frm (B.drop (j + 1)) g e := by
                    refine fnL_set hlt.2 ?_ ?_
                    · rw [hfd, if_pos ⟨hbg, rfl⟩]
                      omega
                    · intro i hi
                      rw [hfd, if_neg (fun z => hi z.2.symm)]
                      rfl
                  have hm8 : (upd H7 lm (.lst (fnL n fun e => mis B (placed.take (d + 1)) e + frm (B.drop (j + 1)) g e))) lm = some (.lst (fnL n fun e => mis B (placed.take (d + 1)) e + frm (B.drop (j + 1)) g e)) := upd_same
                  rw [← e2] at hm8
                  have hp8 : (upd H7 lm (.lst ((fnL n fun e => mis B (placed.take (d + 1)) e + frm (B.drop j) g e).set b.2 (V.int (((mis B (placed.take (d + 1)) b.2 + frm (B.drop j) g b.2 : Nat) : Int) - 1))))) lp = some (.lst (placed.map fun i => V.int (i : Nat))) := by
                    rw [upd_ne npm]
                    exact hp7
                  have sm8 := same_mut (p := lm) (o := .lst ((fnL n fun e => mis B (placed.take (d + 1)) e + frm (B.drop j) g e).set b.2 (V.int (((mis B (placed.take (d + 1)) b.2 + frm (B.drop j) g b.2 : Nat) : Int) - 1)))) sm7 hm1
                  have hg8 : ((fnL n fun e => mis B (placed.take (d + 1)) e + frm (B.drop j) g e).set b.2 (V.int (((mis B (placed.take (d + 1)) b.2 + frm (B.drop j) g b.2 : Nat) : Int) - 1)))[b.2]? = some (V.int ((mis B (placed.take (d + 1)) b.2 + frm (B.drop (j + 1)) g b.2 : Nat) : Int)) := by
                    rw [e2]
                    exact fnL_get hlt.2
                  have hm9 := hm8
                  rw [e2] at hm9
                  refine ⟨_, rfl, _, rfl, lm, _, _, _, rfl, rfl, SqL.of upd_same, atI_nat hg8, rfl, _, rfl, ite2 (fun e3 => ?_) (fun e3 => ?_)⟩
                  · have hz : mis B (placed.take (d + 1)) b.2 + frm (B.drop (j + 1)) g b.2 = 0 := by
                      have := V.int.inj (of_decide_eq_true e3)
                      omega
                    have hlp1 := hpl placed kj.nd kj.lt
                    have hdl : d < placed.length := (List.getElem?_eq_some_iff.mp kj.at_).1
                    refine ⟨_, rfl, .inl ⟨rfl, _, SqL.of hp8⟩, _, rfl, lp, _, _, rfl, rfl, hp8, by rw [List.length_map]; exact small1000 (by omega), ?_⟩
                    refine ⟨placed ++ [b.2], _, _, rfl, kj.put hbb hbg hlt.2 hz, ?_, ?_, same_mut sm8 hp1⟩
                    · rw [upd_same, List.map_append]
                      rfl
                    · rw [upd_ne npm.symm, List.take_append_of_le_length (by omega), ← e2]
                      exact upd_same
                  · have hz : mis B (placed.take (d + 1)) b.2 + frm (B.drop (j + 1)) g b.2 ≠ 0 := fun z => by
                      apply e3
                      rw [z]
                      rfl
                    refine ⟨placed, _, _, rfl, kj.not hbb hbg hz, hp8, ?_, sm8⟩
                    rw [← e2]
                    exact upd_same
                · have hbg : b.1 ≠ g := fun z => by
                    apply e
                    rw [z]
                    exact decide_eq_true rfl
                  refine ⟨placed, _, _, rfl, kj.skip hbb hbg, hp7, ?_, sm7⟩
                  have : (fun e => mis B (placed.take (d + 1)) e + frm (B.drop (j + 1)) g e) = fun e => mis B (placed.take (d + 1)) e + frm (B.drop j) g e := funext fun e => by
                    rw [frm_drop hbb, if_neg (fun z => hbg z.1)]
                    rfl
                  rw [this]
                  exact hm7
              · rintro σ H7 ⟨placed, s4, s5, rfl, kj, hp7, hm7, sm7⟩
                rw [ba1.1] at kj hm7
                refine ⟨_, rfl, _, _, rfl, rfl, placed, _, _, rfl, kj.done, hp7, ?_, sm7⟩
                rw [List.drop_length] at hm7
                exact hm7
          · have hd : d = placed.length := by
              have e' : ¬ (d : Int) < ((placed.map fun i => V.int (i : Nat)).length : Int) := fun z => e (decide_eq_true z)
              rw [List.length_map] at e'
              have := ki.le
              omega
            subst hd
            exact ⟨_, rfl, q placed lp H6 ki sm6 hp0 hp6⟩
abbrev DOrder (P : Program) (w : World) (K : PySem.W.Frag) (mg : Str → Option Value) (base : Heap) := Df P w K mg base 2 "bare_order" ["many_gates", "wires"] (spOrder K)
theorem ok_order {f fA : Addr} {fd fdA : FuncData} (F : Fun K "bare_order" "bare_order" sOrder f fd) (hm : mg "bare_order" = some (.ref f)) (B : Bt mg) (DA : DAlong P w K mg base fA fdA) : DOrder P w K mg base f fd := by
  refine ⟨?_, hm, F.kp, F.binds fun _ _ _ _ _ _ us hl => match us, hl with | [_, _], _ => rfl⟩
  refine F.ok scOrder (fun vs H Q E h => ?_) (fun cdv A outer s H vs Q E hr h => ?_)
  · obtain ⟨n, lw, ws, rfl, _⟩ := h
    rfl
  · obtain ⟨n, lw, ws, rfl, ⟨wv, sw, wa⟩, hws, hn, hwl, q⟩ := h
    have nd := scOrder.nd
    refine ⟨_, pss_one <| ps_ret <| pe_call DA.ok hr (by rfl) DA.mg DA.kp DA.bd .nil pass0 <| pa_cons (pv 0) <| (pa_cons · pa_nil) <|
      pe_lc (own := [("start", 2), ("end", 3), ("held", 4)]) (g := gTup K 3 (gCons (gName 2) (gCons (gName 3) (gCons (gName 4) gNil)))) (tt := tTest (tOp rEq (tCB (Evl.rLenS K) (tCons (tVar 4) tNil)) (tC (.int 0)))) (te := tTup (tCons (tVar 2) (tCons (tVar 3) tNil))) rfl nd
        (pi_list (pv 1)) (blkOk_by (N := nOrder) (sc := defScope sOrder) (own := [("start", 2), ("end", 3), ("held", 4)]) (by decide +kernel))
        (fun _ _ _ _ _ => pg_tup rfl (pgs_cons (pg_name (i := 2) nd rfl (Or.inl rfl)) (pgs_cons (pg_name (i := 3) nd rfl (Or.inl rfl)) (pgs_cons (pg_name (i := 4) nd rfl (Or.inl rfl)) pgs_nil))))
        (fun _ _ _ _ _ => pts_one (pt_cmpR op_eq (pe_callB call_len_seq (by rfl) B.len PySem.boot_len (pa_cons (pv 4) pa_nil)) pe_int (nomark _)))
        (fun _ _ _ _ _ => pe_tup (pa_cons (pv 2) (pa_cons (pv 3) pa_nil))), ?_⟩
    have hlw : wv.length = ws.length := wa.1
    -- bare = [..]
    refine ⟨_, rfl, _, rfl, lw, rfl, ⟨_, sw⟩, fun lb hlb => ?_⟩
    refine lc_list (K := K) (a := lw) (xs := wv) (fun i Hc => ∃ bv, Hc lb = some (.lst bv) ∧ All2 (PairV K Hc) bv (bare (ws.take i)) ∧ Same H Hc) ⟨[], upd_same, by simpa [bare] using All2.nil, same_new hlb⟩ (fun i Hc _ ⟨_, _, _, sm⟩ => sm.seq sw) ?_ ?_
    · rintro i x Hc hx ⟨bv, hb, ba, sm⟩
      obtain ⟨y, hy, a, b, rfl, sq1, sq2⟩ := wa.get hx
      have hyi : i < ws.length := (List.getElem?_eq_some_iff.mp hy).1
      have t := TK.same sm
      have hbl : bv.length ≤ 1000 := by
        rw [ba.1]
        have := bare_len (ws.take i)
        rw [List.length_take] at this
        omega
      refine ⟨a, _, rfl, t.seq sq1, rfl, _, _, rfl, _, _, rfl, _, _, rfl, rfl, rfl, ?_⟩
      refine ⟨_, rfl, b, _, rfl, .inr (t.seq sq2), rfl, _, rfl, ite2 (fun e => ?_) (fun e => ?_)⟩
      · have he : y.2.2.isEmpty = true := by
          have e' : (((y.2.2.map V.int).length : Nat) : Int) = 0 := V.int.inj (of_decide_eq_true e)
          rw [List.length_map] at e'
          rw [List.isEmpty_iff, ← List.length_eq_zero_iff]
          omega
        refine ⟨_, rfl, _, rfl, (by show 2 ≤ sizeLine; decide), fun p hp => ?_⟩
        have smp : Same Hc (upd Hc p (.tup [.int (y.1 : Nat), .int (y.2.1 : Nat)])) := same_new hp
        have npb : p ≠ lb := fun z => by
          rw [z, hb] at hp
          cases hp
        have t2 : TK Hc (upd (upd Hc p (.tup [.int (y.1 : Nat), .int (y.2.1 : Nat)])) lb (.lst (bv ++ [.ref p]))) := (TK.new hp).trans (TK.lst (smp _ _ hb))
        refine ⟨bv, smp _ _ hb, Nat.lt_of_le_of_lt hbl (small1000 (Nat.le_refl _)), bv ++ [.ref p], upd_same, ?_, same_mut (sm.trans smp) hlb⟩
        rw [bare_take hy, if_pos he]
        exact (ba.imp fun _ _ r => r.tk t2).snoc ⟨p, rfl, .inl (.inl (by rw [upd_ne npb]; exact upd_same))⟩
      · have he : ¬ y.2.2.isEmpty = true := fun z => by
          apply e
          rw [List.isEmpty_iff] at z
          rw [z]
          rfl
        exact ⟨bv, hb, by rw [bare_take hy, if_neg he]; exact ba, sm⟩
    · rintro H1 ⟨bv, hb1, ba1, sm1⟩
      rw [hlw, List.take_length] at ba1
      have hbl : bv.length ≤ 1000 := by
        rw [ba1.1]
        have := bare_len ws
        omega
      have hBlt : ∀ b ∈ bare ws, b.1 < n ∧ b.2 < n := by
        intro b hb
        obtain ⟨x, hx, rfl⟩ := List.mem_map.mp hb
        rw [List.mem_filter] at hx
        exact hws x hx.1
      exact ⟨n, lb, bv, bare ws, rfl, SqL.of hb1, ba1, hBlt, hn, by have := bare_len ws; omega, fun ord p H2 ki s2 hp h2 => q ord p H2 ki (sm1.trans s2) (sm1.free hp) h2⟩
end
end Lag

set_option maxRecDepth 100000
set_option maxHeartbeats 4000000
namespace Lag
open PySem PySem.Spec PyProof.Rows L2
abbrev sChkRings : Stmt := topS 26
abbrev sInit : Stmt := inClass (topS 19) 0
abbrev sEq : Stmt := inClass (topS 19) 1
abbrev sIns : Stmt := inClass (topS 19) 2
abbrev sOuts : Stmt := inClass (topS 19) 3
abbrev sPlaces : Stmt := topS 20
def spChkRings (K : PySem.W.Frag) : Sp := fun vs H Q _ => ∃ (n : Nat) (lw : Addr) (ws : List Wr), vs = [.int (n : Nat), .ref lw] ∧ RW K H lw ws ∧ (∀ x ∈ ws, x.1 < n ∧ x.2.1 < n) ∧ n ≤ 1000 ∧ ws.length ≤ 1000 ∧
  (∃ ρ : Nat → Nat, ∀ x ∈ ws, x.2.2 = [] → ρ x.1 < ρ x.2.1) ∧ ∀ H', Same H H' → Q .non H'
/-! ### a net's object -/
def nf (lg lw : Addr) : List (Str × V) := putF "wires" (.ref lw) (putF "gates" (.ref lg) [])
theorem gw_ne : ¬ (("gates" : Str) = "wires") := by decide +kernel
theorem nf_eq (lg lw : Addr) : nf lg lw = ([("gates", V.ref lg), ("wires", V.ref lw)] : List (Str × V)) := by
  show (if ("gates" : Str) = "wires" then [(("gates" : Str), V.ref lw)] else (("gates" : Str), V.ref lg) :: putF "wires" (V.ref lw) []) = ([("gates", V.ref lg), ("wires", V.ref lw)] : List (Str × V))
  rw [if_neg gw_ne]
  all_goals rfl
theorem nf_gates (lg lw : Addr) : (nf lg lw).lookup ("gates" : Str) = some (.ref lg) := by
  unfold nf
  rw [lookup_putF, if_neg gw_ne, lookup_putF, if_pos rfl]
theorem nf_wires (lg lw : Addr) : (nf lg lw).lookup ("wires" : Str) = some (.ref lw) := by
  unfold nf
  rw [lookup_putF, if_pos rfl]
theorem nf_no (lg lw : Addr) {m : Str} (h1 : ¬ m = "wires") (h2 : ¬ m = "gates") : (nf lg lw).lookup m = none := by
  unfold nf
  rw [lookup_putF, if_neg h1, lookup_putF, if_neg h2]
  all_goals rfl
/-- the class as the top has made it -/
structure NT (K : PySem.W.Frag) (mg : Str → Option Value) (C : Addr) : Prop where
  cl : Cls K C
  nG : NoAttr K C "gates"
  nW : NoAttr K C "wires"
  mg : mg "Net" = some (.ref C)
/-- a net at p: its own lists at lg, lw -/
structure NetAt (K : PySem.W.Frag) (C : Addr) (H : Hp) (p lg lw : Addr) (gs : List Gt) (ws : List Wr) : Prop where
  ob : ∃ dx, H p = some (.ins C dx (nf lg lw))
  g : LG K H lg gs
  w : LW K H lw ws
  ne : lg ≠ lw
theorem LG.same {K : PySem.W.Frag} {H H' : Hp} {l : Addr} {gs : List Gt} (h : LG K H l gs) (s : Same H H') : LG K H' l gs := by
  obtain ⟨vs, q, a⟩ := h
  exact ⟨vs, s _ _ q, a.imp fun _ _ r => r.tk (TK.same s)⟩
theorem LW.same {K : PySem.W.Frag} {H H' : Hp} {l : Addr} {ws : List Wr} (h : LW K H l ws) (s : Same H H') : LW K H' l ws := by
  obtain ⟨vs, q, a⟩ := h
  exact ⟨vs, s _ _ q, a.imp fun _ _ r => r.tk (TK.same s)⟩
theorem LG.rg {K : PySem.W.Frag} {H : Hp} {l : Addr} {gs : List Gt} (h : LG K H l gs) : RG K H l gs := by
  obtain ⟨vs, q, a⟩ := h
  exact ⟨vs, SqL.of q, a⟩
theorem LW.rw {K : PySem.W.Frag} {H : Hp} {l : Addr} {ws : List Wr} (h : LW K H l ws) : RW K H l ws := by
  obtain ⟨vs, q, a⟩ := h
  exact ⟨vs, SqL.of q, a⟩
theorem NetAt.same {K : PySem.W.Frag} {C : Addr} {H H' : Hp} {p lg lw : Addr} {gs : List Gt} {ws : List Wr} (n : NetAt K C H p lg lw gs ws) (s : Same H H') : NetAt K C H' p lg lw gs ws := by
  obtain ⟨dx, h⟩ := n.ob
  exact ⟨⟨dx, s _ _ h⟩, n.g.same s, n.w.same s, n.ne⟩
def spInit (K : PySem.W.Frag) (C : Addr) : Sp := fun vs H Q _ => ∃ (p dx lg lw : Addr) (gs : List Gt) (ws : List Wr), vs = [.ref p, .ref lg, .ref lw] ∧ H p = some (.ins C dx []) ∧ RG K H lg gs ∧ RW K H lw ws ∧ NetOk gs ws ∧
  ∀ (H' : Hp) (lg' lw' : Addr), NetAt K C H' p lg' lw' gs ws → H lg' = none → H lw' = none → (∀ b o, H b = some o → b ≠ p → H' b = some o) → Q .non H'
/-- the places of a kind, rising -/
def plc (gs : List Gt) (k : Str) (n : Nat) : List Nat := (List.range n).filter fun i => decide (kindAt gs i = k)
def spPlaces (K : PySem.W.Frag) : Sp := fun vs H Q _ => ∃ (k : Str) (lg : Addr) (gs : List Gt), vs = [.str k, .ref lg] ∧ RG K H lg gs ∧ gs.length ≤ 1000 ∧
  ∀ p H', H p = none → Same H H' → H' p = some (.lst ((plc gs k gs.length).map fun i => V.int (i : Nat))) → Q (.ref p) H'
def spPorts (K : PySem.W.Frag) (C : Addr) (k : Str) : Sp := fun vs H Q _ => ∃ (p lg lw : Addr) (gs : List Gt) (ws : List Wr), vs = [.ref p] ∧ NetAt K C H p lg lw gs ws ∧ gs.length ≤ 1000 ∧
  ∀ l H', H l = none → Same H H' → H' l = some (.lst ((plc gs k gs.length).map fun i => V.int (i : Nat))) → Q (.ref l) H'
section
variable {P : Program} {w : World} {K : PySem.W.Frag} {mg : Str → Option Value} {base : Heap}
theorem scChkRings : FnScope ["many_gates", "wires", "placed"] ["many_gates", "wires"] (defScope sChkRings) := ⟨rfl, rfl, rfl, by decide +kernel, rfl, by decide +kernel, by decide +kernel⟩
abbrev DChkRings (P : Program) (w : World) (K : PySem.W.Frag) (mg : Str → Option Value) (base : Heap) := Df P w K mg base 3 "check_rings" ["many_gates", "wires"] (spChkRings K)
theorem ok_chkRings {f fO : Addr} {fd fdO : FuncData} (F : Fun K "check_rings" "check_rings" sChkRings f fd) (hm : mg "check_rings" = some (.ref f)) (B : Bt mg) (DO : DOrder P w K mg base fO fdO) : DChkRings P w K mg base f fd := by
  refine ⟨?_, hm, F.kp, F.binds fun _ _ _ _ _ _ us hl => match us, hl with | [_, _], _ => rfl⟩
  refine F.ok scChkRings (fun vs H Q E h => ?_) (fun cdv A outer s H vs Q E hr h => ?_)
  · obtain ⟨n, lw, ws, rfl, _⟩ := h
    rfl
  · obtain ⟨n, lw, ws, rfl, R, hws, hn, hwl, rk, q⟩ := h
    have nd := scChkRings.nd
    refine ⟨_, pss_cons (ps_set (i := 2) nd rfl (Or.inl rfl) (pe_call DO.ok hr (by rfl) DO.mg DO.kp DO.bd .nil pass0 (pa_cons (pv 0) (pa_cons (pv 1) pa_nil)))) <|
      pss_one <| ps_if (pt_cmpR op_lt (pe_callB call_len_seq (by rfl) B.len PySem.boot_len (pa_cons (pv 2) pa_nil)) (pv 0) (nomark _)) (pss_one ps_never) pss_nil, ?_⟩
    refine ⟨_, rfl, _, rfl, n, lw, ws, rfl, R, hws, hn, hwl, fun ord p H1 ho sm hp h1 => ?_⟩
    have hpl : ord.length = n := by rw [(ho.full hws rk).length_eq, List.length_range]
    refine ⟨_, rfl, p, _, rfl, .inl (SqL.of h1), _, rfl, _, _, rfl, rfl, false, ?_, iteF (q H1 sm)⟩
    show V.bl (decide (((ord.map fun i => V.int (i : Nat)).length : Int) < (n : Int))) = V.bl false
    rw [decide_eq_false]
    rw [List.length_map, hpl]
    omega
theorem scInit : FnScope ["self", "gates", "wires"] ["self", "gates", "wires"] (defScope sInit) := ⟨rfl, rfl, rfl, by decide +kernel, rfl, by decide +kernel, by decide +kernel⟩
theorem ok_init {f fG fW fR C : Addr} {fd fdG fdW fdR : FuncData} (F : Fun K "__init__" "Net.__init__" sInit f fd) (T : NT K mg C) (B : Bt mg) (DG : DChkGates P w K mg base fG fdG) (DW : DChkWires P w K mg base fW fdW) (DR : DChkRings P w K mg base fR fdR) :
    FnOk P w K mg base CX0 6 f fd ["self", "gates", "wires"] (spInit K C) := by
  refine F.ok scInit (fun vs H Q E h => ?_) (fun cdv A outer s H vs Q E hr h => ?_)
  · obtain ⟨p, dx, lg, lw, gs, ws, rfl, _⟩ := h
    rfl
  · obtain ⟨p, dx, lg, lw, gs, ws, rfl, hp, RGs, RWs, N, q⟩ := h
    have hr4 : Room 4 _ := hr.mono (by decide)
    have hr2 : Room 3 _ := hr.mono (by decide)
    refine ⟨_, pss_cons (ps_expr (pe_call DG.ok hr4 (by rfl) DG.mg DG.kp DG.bd .nil pass0 (pa_cons (pv 1) pa_nil))) <|
      pss_cons (ps_expr (pe_call DW.ok hr (by rfl) DW.mg DW.kp DW.bd .nil pass0 (pa_cons (pv 1) (pa_cons (pv 2) pa_nil)))) <|
      pss_cons (ps_expr (pe_call DR.ok hr2 (by rfl) DR.mg DR.kp DR.bd .nil pass0 (pa_cons (pe_callB call_len_seq (by rfl) B.len PySem.boot_len (pa_cons (pv 1) pa_nil)) (pa_cons (pv 2) pa_nil)))) <|
      pss_cons (ps_fld (pv 0) (pe_callTy call_list_of (by rfl) B.list (by decide +kernel) (pa_cons (pv 1) pa_nil)) rfl) <|
      pss_one (ps_fld (pv 0) (pe_callTy call_list_of (by rfl) B.list (by decide +kernel) (pa_cons (pv 2) pa_nil)) rfl), ?_⟩
    refine ⟨_, rfl, lg, gs, rfl, RGs, N.ne, N.gok, fun H1 sm1 => ?_⟩
    refine ⟨_, rfl, _, rfl, lg, lw, gs, ws, rfl, RGs.same sm1, RWs.same sm1, N, fun H2 sm2 => ?_⟩
    have s2 := sm1.trans sm2
    obtain ⟨gv, sg, ga⟩ := RGs.same s2
    have hlg : gv.length = gs.length := ga.1
    refine ⟨_, rfl, lg, gv, rfl, .inl sg, _, rfl, gv.length, lw, ws, rfl, RWs.same s2, fun x hx => ?_, by have := N.gl; omega, N.wl, N.rank, fun H3 sm3 => ?_⟩
    · rw [hlg]
      exact ⟨(N.wok x hx).s, (N.wok x hx).e⟩
    have s3 := s2.trans sm3
    obtain ⟨gv3, sg3, ga3⟩ := RGs.same s3
    obtain ⟨wv3, sw3, wa3⟩ := RWs.same s3
    have hp3 := s3 _ _ hp
    refine ⟨_, rfl, lg, gv3, rfl, .inl sg3, fun l1 hl1 => ?_⟩
    have np1 : p ≠ l1 := ne_of_none hp3 hl1
    have sm4 : Same H3 (upd H3 l1 (.lst gv3)) := same_new hl1
    refine ⟨_, rfl, p, C, dx, [], rfl, sm4 _ _ hp3, T.cl, T.nG, (by show 0 < 1000; decide), ?_⟩
    have hw4 : SqL K (upd (upd H3 l1 (.lst gv3)) p (.ins C dx (putF "gates" (.ref l1) []))) lw wv3 := by
      rcases sm4.seq sw3 with (h | ⟨o, h⟩) | h
      · have n : lw ≠ p := fun z => by
          rw [z, sm4 _ _ hp3] at h
          cases h
        exact .inl (.inl (by rw [upd_ne n]; exact h))
      · have n : lw ≠ p := fun z => by
          rw [z, sm4 _ _ hp3] at h
          cases h
        exact .inl (.inr ⟨o, by rw [upd_ne n]; exact h⟩)
      · exact .inr h
    refine ⟨_, rfl, lw, wv3, rfl, .inl hw4, fun l2 hl2 => ?_⟩
    have np2 : p ≠ l2 := fun z => by
      rw [← z, upd_same] at hl2
      cases hl2
    have h11 : (upd (upd H3 l1 (.lst gv3)) p (.ins C dx (putF "gates" (.ref l1) []))) l1 = some (.lst gv3) := by
      rw [upd_ne np1.symm]
      exact upd_same
    have n12 : l1 ≠ l2 := ne_of_none h11 hl2
    have hl2' : H3 l2 = none := by
      rw [upd_ne np2.symm, upd_ne n12.symm] at hl2
      exact hl2
    refine ⟨_, rfl, p, C, dx, _, rfl, (by rw [upd_ne np2]; exact upd_same), T.cl, T.nW, (by show 1 < 1000; decide), ?_⟩
    have keep : ∀ b o, b ≠ p → H3 b = some o → (upd (upd (upd (upd H3 l1 (.lst gv3)) p (.ins C dx (putF "gates" (.ref l1) []))) l2 (.lst wv3)) p (.ins C dx (putF "wires" (.ref l2) (putF "gates" (.ref l1) [])))) b = some o := fun b o nb e => by
      rw [upd_ne nb, upd_ne (ne_of_none e hl2'), upd_ne nb, upd_ne (ne_of_none e hl1)]
      exact e
    have tk : TK H3 (upd (upd (upd (upd H3 l1 (.lst gv3)) p (.ins C dx (putF "gates" (.ref l1) []))) l2 (.lst wv3)) p (.ins C dx (putF "wires" (.ref l2) (putF "gates" (.ref l1) [])))) := fun b o t e => keep b o (fun z => by
      rw [z, hp3] at e
      cases e
      exact t) e
    refine q _ l1 l2 ⟨⟨dx, upd_same⟩, ⟨gv3, ?_, ga3.imp fun _ _ r => r.tk tk⟩, ⟨wv3, ?_, wa3.imp fun _ _ r => r.tk tk⟩, n12⟩ (s3.free hl1) (s3.free hl2') fun b o e nb => keep b o nb (s3 _ _ e)
    · rw [upd_ne np1.symm, upd_ne n12, upd_ne np1.symm]
      exact upd_same
    · rw [upd_ne np2.symm]
      exact upd_same
/-! ### places_of, ins, outs -/
abbrev nPlaces : List Str := ["kind", "gates", "number", "gate"]
theorem scPlaces : FnScope nPlaces ["kind", "gates"] (defScope sPlaces) := ⟨rfl, rfl, rfl, by decide +kernel, rfl, by decide +kernel, by decide +kernel⟩
abbrev DPlaces (P : Program) (w : World) (K : PySem.W.Frag) (mg : Str → Option Value) (base : Heap) := Df P w K mg base 1 "places_of" ["kind", "gates"] (spPlaces K)
theorem plc_succ {gs : List Gt} {k : Str} {i : Nat} : plc gs k (i + 1) = if kindAt gs i = k then plc gs k i ++ [i] else plc gs k i := by
  unfold plc
  rw [List.range_succ, List.filter_append, List.filter_cons]
  by_cases h : kindAt gs i = k
  · rw [if_pos h, if_pos (decide_eq_true h)]
    rfl
  · rw [if_neg h, if_neg (by simp [h]), List.filter_nil, List.append_nil]
theorem plc_len (gs : List Gt) (k : Str) (n : Nat) : (plc gs k n).length ≤ n := by
  unfold plc
  have := List.length_filter_le (fun i => decide (kindAt gs i = k)) (List.range n)
  rw [List.length_range] at this
  exact this
theorem ok_places {f : Addr} {fd : FuncData} (F : Fun K "places_of" "places_of" sPlaces f fd) (hm : mg "places_of" = some (.ref f)) (B : Bt mg) : DPlaces P w K mg base f fd := by
  refine ⟨?_, hm, F.kp, F.binds fun _ _ _ _ _ _ us hl => match us, hl with | [_, _], _ => rfl⟩
  refine F.ok scPlaces (fun vs H Q E h => ?_) (fun cdv A outer s H vs Q E hr h => ?_)
  · obtain ⟨k, lg, gs, rfl, _⟩ := h
    rfl
  · obtain ⟨k, lg, gs, rfl, ⟨gv, sg, ga⟩, hl, q⟩ := h
    have nd := scPlaces.nd
    refine ⟨_, pss_one <| ps_ret <| pe_lc (own := [("number", 2), ("gate", 3)]) (g := gTup K 2 (gCons (gName 2) (gCons (gName 3) gNil))) (tt := tTest (tOp rEq (tOp (rIxT K) (tVar 3) (tC (.int 0))) (tVar 0))) (te := tVar 2) rfl nd
      (pi_enum (by rfl) B.enum (pa_cons (pv 1) pa_nil)) (blkOk_by (N := nPlaces) (sc := defScope sPlaces) (own := [("number", 2), ("gate", 3)]) (by decide +kernel))
      (fun _ _ _ _ _ => pg_tup rfl (pgs_cons (pg_name (i := 2) nd rfl (Or.inl rfl)) (pgs_cons (pg_name (i := 3) nd rfl (Or.inl rfl)) pgs_nil)))
      (fun _ _ _ _ _ => pts_one (pt_cmpR op_eq (pe_ix ix_tup (pv 3) pe_int (fun _ _ => rfl)) (pv 0) (nomark _))) (fun _ _ _ _ _ => pv 2), ?_⟩
    have hlg : gv.length = gs.length := ga.1
    refine ⟨_, rfl, lg, gv, rfl, sg, fun D hD => ?_⟩
    refine lc_it (walk_enum (K := K) (a := lg) (xs := gv)) (fun i Hc => Hc D = some (.lst ((plc gs k i).map fun i => V.int (i : Nat))) ∧ Same H Hc) ⟨upd_same, same_new hD⟩ (fun i Hc _ ⟨_, sm⟩ => sm.seq sg) ?_ ?_
    · rintro i x Hc Hc' hi ⟨hc, sm⟩ ⟨T, x1, y, rfl, hT, rfl, ex, ey⟩
      cases ex
      obtain ⟨g, hg, a, rfl, sq⟩ := ga.get ey
      have smT : Same Hc (upd Hc T (.tup [.int (i : Nat), .ref a])) := same_new hT
      have hlen : ((plc gs k i).map fun i => V.int (i : Nat)).length ≤ 1000 := by
        rw [List.length_map]
        have := plc_len gs k i
        omega
      refine ⟨T, _, rfl, .inl (.inl upd_same), rfl, _, _, rfl, _, _, rfl, rfl, rfl, ?_⟩
      refine ⟨_, rfl, a, _, 0, _, rfl, rfl, (TK.same (sm.trans smT)).seq sq, atI_nat (j := 0) rfl, _, rfl, rfl, _, rfl, ite2 (fun e => ?_) (fun e => ?_)⟩
      · have hk : kindAt gs i = k := by
          rw [kindAt_get hg]
          exact V.str.inj (of_decide_eq_true e)
        refine ⟨_, rfl, _, smT _ _ hc, Nat.lt_of_le_of_lt hlen (small1000 (Nat.le_refl _)), ?_, same_mut (sm.trans smT) hD⟩
        rw [upd_same, plc_succ, if_pos hk, List.map_append]
        rfl
      · have hk : ¬ kindAt gs i = k := fun z => e (decide_eq_true (by rw [← z, kindAt_get hg]))
        refine ⟨?_, sm.trans smT⟩
        rw [plc_succ, if_neg hk]
        exact smT _ _ hc
    · rintro Hc ⟨hc, sm⟩
      rw [hlg] at hc
      exact q D Hc hD sm hc
theorem scIns : FnScope ["self"] ["self"] (defScope sIns) := ⟨rfl, rfl, rfl, by decide +kernel, rfl, by decide +kernel, by decide +kernel⟩
theorem ok_ins {f fP C : Addr} {fd fdP : FuncData} (F : Fun K "ins" "Net.ins" sIns f fd) (T : NT K mg C) (DP : DPlaces P w K mg base fP fdP) : FnOk P w K mg base CX0 2 f fd ["self"] (spPorts K C "in") := by
  refine F.ok scIns (fun vs H Q E h => ?_) (fun cdv A outer s H vs Q E hr h => ?_)
  · obtain ⟨p, lg, lw, gs, ws, rfl, _⟩ := h
    rfl
  · obtain ⟨p, lg, lw, gs, ws, rfl, N, hl, q⟩ := h
    obtain ⟨dx, hp⟩ := N.ob
    refine ⟨_, pss_one <| ps_ret <| pe_call DP.ok hr (by rfl) DP.mg DP.kp DP.bd .nil pass0 <| pa_cons pe_str <| pa_cons (pe_fld (pv 0) rfl) pa_nil, ?_⟩
    exact ⟨_, rfl, p, C, dx, _, _, rfl, hp, T.cl, T.nG, nf_gates _ _, "in", lg, gs, rfl, N.g.rg, hl, q⟩
theorem scOuts : FnScope ["self"] ["self"] (defScope sOuts) := ⟨rfl, rfl, rfl, by decide +kernel, rfl, by decide +kernel, by decide +kernel⟩
theorem ok_outs {f fP C : Addr} {fd fdP : FuncData} (F : Fun K "outs" "Net.outs" sOuts f fd) (T : NT K mg C) (DP : DPlaces P w K mg base fP fdP) : FnOk P w K mg base CX0 2 f fd ["self"] (spPorts K C "out") := by
  refine F.ok scOuts (fun vs H Q E h => ?_) (fun cdv A outer s H vs Q E hr h => ?_)
  · obtain ⟨p, lg, lw, gs, ws, rfl, _⟩ := h
    rfl
  · obtain ⟨p, lg, lw, gs, ws, rfl, N, hl, q⟩ := h
    obtain ⟨dx, hp⟩ := N.ob
    refine ⟨_, pss_one <| ps_ret <| pe_call DP.ok hr (by rfl) DP.mg DP.kp DP.bd .nil pass0 <| pa_cons pe_str <| pa_cons (pe_fld (pv 0) rfl) pa_nil, ?_⟩
    exact ⟨_, rfl, p, C, dx, _, _, rfl, hp, T.cl, T.nG, nf_gates _ _, "out", lg, gs, rfl, N.g.rg, hl, q⟩
end
end Lag

set_option maxRecDepth 100000
set_option maxHeartbeats 4000000
namespace Lag
open PySem PySem.Spec PyProof.Rows L2
/-! ### == and != by an own __eq__, whatever the other thing is -/
section
variable {X : Cx} {pins : List (Addr × Obj)} {σ : L2.St} {H : Hp} {s : Shared}
/-- what typeOf says -/
def TyL (X : Cx) (s : Shared) (v tb : Value) : Prop := PySem.W.Looks (model X.prog X.w) s.heap (typeOf v) tb
theorem ty_looks {y : V} {v tb : Value} (I : Inv X pins σ H s) (r : RelV y v) (t : TyOf X.K H y tb) : TyL X s v tb := by
  cases t with
  | non => cases r; exact .of_pure rfl
  | bl b => cases r; exact .of_pure rfl
  | int i => obtain ⟨t, rfl⟩ := r; exact .of_pure rfl
  | str x => obtain ⟨t, rfl⟩ := r; exact .of_pure rfl
  | flt x => obtain ⟨t, rfl⟩ := r; exact .of_pure rfl
  | @lst a xs ea =>
    cases r
    obtain ⟨_, _, n, _, h1⟩ := (show ObjOk X.prog X.w H s.heap a (.lst xs) from I.hok a _ ea)
    exact (PySem.W.Looks.ld h1).andThen .now
  | @frz a ob xs ea =>
    cases r
    obtain ⟨_, _, _, n, _, h1⟩ := (show ObjOk X.prog X.w H s.heap a (.frz ob (.lst xs)) from I.hok a _ ea)
    exact (PySem.W.Looks.ld h1).andThen .now
  | @tup a xs ea =>
    cases r
    obtain ⟨_, _, _, o, h1, h2, _⟩ := (show ObjOk X.prog X.w H s.heap a (.tup xs) from I.hok a _ ea)
    exact h2 ▸ (PySem.W.Looks.ld h1).andThen .now
  | @dK a kvs ea =>
    cases r
    obtain ⟨_, _, vs, _, o, es, ep, h1, h2, _⟩ := (show ObjOk X.prog X.w H s.heap a (.dK kvs) from I.hok a _ ea)
    exact h2.1 ▸ (PySem.W.Looks.ld h1).andThen .now
  | @dT a kvs ea =>
    cases r
    obtain ⟨_, _, xs, _, o, es, ep, h1, h2, _⟩ := (show ObjOk X.prog X.w H s.heap a (.dT kvs) from I.hok a _ ea)
    exact h2.1 ▸ (PySem.W.Looks.ld h1).andThen .now
  | @ins a C dx fs ea cl ha hn htk hm =>
    cases r
    obtain ⟨mA, O, _⟩ := ins_get I.hok ea
    obtain ⟨od, J, _⟩ := O.look
    exact J.type
/-- a call of a def from within -/
theorem call_own {n : Nat} {f : Addr} {fd : FuncData} {ps : List Str} {sp : Sp} {xs : List V} {us : List Value} {Q : VK} {A : Around} (F : FnOk X.prog X.w X.K X.mg X.base CX0 n f fd ps sp) (hb : Binds X.K fd ps []) (sb : Sub X n A) (I : Inv X pins σ H s) (rx : Vals xs us)
    (h : sp xs H Q E0) : wpAny (model X.prog X.w) A (call (.ref f) us) (EP X pins σ Q) X.xe s := by
  have e0 : Env0 X.prog X.w X.K X.mg X.base A X.stack s H := by
    have e := I.env0
    exact ⟨by rw [sb.fr]; exact e.frames, e.mod, e.bs, e.bsz, e.funs, e.frf, e.hok, e.bare⟩
  have hl := F.len _ _ _ _ h
  have hl' : us.length = ps.length := by rw [← rx.length, hl]
  refine wpAny_call (codeAny_mono (F.run A X.stack s H ⟨us, []⟩ us xs _ E0 sb.room e0 (by
    have := hb s us I.kIn (by simpa using hl')
    simpa using this) rx h) fun r s' hq => ?_)
  cases r with
  | error e => exact False.elim hq
  | ok fl =>
    cases fl with
    | ret w => exact I.after hq
    | next => exact False.elim hq
    | brk => exact False.elim hq
    | cont => exact False.elim hq
/-- a special method that is a built-in -/
theorem ifBound_B {M : Model} {K : PySem.W.Frag} {A : Around} {E : Value → Shared → Prop} {s : Shared} {x C : Addr} {ox : Obj} {od : Option Obj} {name : Str} {id : String} {args : List Value} {Q : Option Value → Shared → Prop} (X : K.In s.heap) (I : PySem.W.InstAt s.heap x ox C od)
    (hs : PySem.W.findIn K (.ref C) name = some (some (.builtin id))) (hb : ∀ self, bindSpecial (.builtin id) self = pure (.builtin id, [self]))
    (h : wpAny M A (call (.builtin id) (.ref x :: args)) (fun v => Q (some v)) E s) : wpAny M A (callSpecialIfBound? (.ref x) name args) Q E s := by
  simp only [callSpecialIfBound?, bindSpecialIfBound?]
  refine wpAny_holding (wpAny_bind (wpAny_bind (wpAny_bind (I.type.here ((PySem.W.looks_findIn X hs).here ?_)))))
  refine wpAny_bind (wpAny_askSetting (wpAny_ite ?_))
  have fin : wpAny M A (call (.builtin id) ([.ref x] ++ args) >>= fun v => pure (some v)) Q E s := wpAny_bind (wpAny_mono h (fun v s' h' => wpAny_pure h') fun _ _ h' => h')
  split
  · exact wpAny_bind (wpAny_of_eq (hb _) (wpAny_pure (by exact fin)))
  · exact wpAny_tryCatch (wpAny_bind (wpAny_of_eq (hb _) (wpAny_pure (by exact fin))))
theorem bind_ne (self : Value) : bindSpecial (.builtin "object.__ne__") self = pure (.builtin "object.__ne__", [self]) := PySem.F.slot_tuple_iterator_ne.bind self
theorem ne_body {K : PySem.W.Frag} {prog : Program} {w : World} {A : Around} {E : Value → Shared → Prop} {s : Shared} {x C f : Addr} {ox : Obj} {od : Option Obj} {b : Value} {Q : Fin → Shared → Prop} (X : K.In s.heap) (I : PySem.W.InstAt s.heap x ox C od)
    (hs : PySem.W.findIn K (.ref C) "__eq__" = some (some (.ref f))) (hf : PySem.W.isFn K (.ref f) = true) (hu : A.units < cLine)
    (hcall : wpAny (model prog w) A (call (.ref f) [.ref x, b]) (fun v s' => ∃ c, v = .bool c ∧ Q (.done (.ret (.bool (!c)))) s') E s) :
    wpAny (model prog w) A (Builtin.«object.__ne__» ⟨[.ref x, b], []⟩) Q E s := by
  obtain ⟨h, g, d, t, os⟩ := s
  unfold Builtin.«object.__ne__»
  repeat (first
    | with_reducible refine wpAny_cRoomFor hu ?_
    | (refine wpAny_bind (m := callSpecialIfBound? (.ref x) (Str.ofString "__eq__") [b])
        (PySem.W.ifBound_K X I hs hf (wpAny_mono hcall (fun r s' hr => by
          obtain ⟨c, rfl, hq⟩ := hr
          repeat (first | exact hq | exact wpAny_pure hq | exact wpAny_truthy_bool hq | (refine wpAny_bind (m := truthy (.bool _)) (wpAny_truthy_bool ?_)) | wp_step)) fun _ _ e => e)))
    | wp_step)
theorem op_eqO {n : Nat} {C f : Addr} {fd : FuncData} {ps : List Str} {sp : Sp} (F : FnOk X.prog X.w X.K X.mg X.base CX0 n f fd ps sp) (hs : PySem.W.findIn X.K (.ref C) "__eq__" = some (some (.ref f))) (hf : PySem.W.isFn X.K (.ref f) = true) (hb : Binds X.K fd ps []) (hr : Room n X.A) :
    OpR X (compareOp .Eq) (fun x y H Q => ∃ a dx fs tb, x = .ref a ∧ H a = some (.ins C dx fs) ∧ TyOf X.K H y tb ∧ PySem.W.notFirst X.K C tb = true ∧ sp [x, y] H (fun v H' => ∃ c, v = .bl c ∧ Q v H') E0) := by
  intro pins s σ H x y u v Q I rx ry h
  obtain ⟨a, dx, fs, tb, rfl, ha, ty, nf, q⟩ := h
  cases rx
  obtain ⟨mA, J, _⟩ := ins_get I.hok ha
  obtain ⟨od, J, _⟩ := J.look
  obtain ⟨m, hF⟩ := I.fr
  show wpAny (model X.prog X.w) X.A (richCompare .Eq (.ref a) v) (EP X pins σ Q) X.xe s
  refine PySem.W.cmp_K (op := .Eq) (tb := tb) hr.units0 hF I.ok.mod.kin J (ty_looks I ry ty) nf hs hf ?_
  refine wpAny_mono (call_own F hb ⟨hr, rfl⟩ I (.cons (show RelV (V.ref a) (Value.ref a) from rfl) (.cons ry .nil)) q) (fun r s' z => ?_) fun _ _ x => x
  obtain ⟨z, H', I', rz, c, ez, q'⟩ := z
  subst ez
  cases rz
  exact ⟨.bl c, H', I', rfl, q'⟩
theorem op_neO {n : Nat} {C f : Addr} {fd : FuncData} {ps : List Str} {sp : Sp} (F : FnOk X.prog X.w X.K X.mg X.base CX0 n f fd ps sp) (hs : PySem.W.findIn X.K (.ref C) "__eq__" = some (some (.ref f))) (hn : PySem.W.findIn X.K (.ref C) "__ne__" = some (some (.builtin "object.__ne__")))
    (ho : PySem.W.mroIn X.K C (.type "object") = some true) (hf : PySem.W.isFn X.K (.ref f) = true) (hb : Binds X.K fd ps []) (hr : Room (n + 1) X.A) :
    OpR X (compareOp .NotEq) (fun x y H Q => ∃ a dx fs tb, x = .ref a ∧ H a = some (.ins C dx fs) ∧ TyOf X.K H y tb ∧ PySem.W.notFirst X.K C tb = true ∧ sp [x, y] H (fun v H' => ∃ c, v = .bl c ∧ Q (.bl (!c)) H') E0) := by
  intro pins s σ H x y u v Q I rx ry h
  obtain ⟨a, dx, fs, tb, rfl, ha, ty, nf, q⟩ := h
  cases rx
  obtain ⟨mA, J, _⟩ := ins_get I.hok ha
  obtain ⟨od, J, _⟩ := J.look
  have hb' := ty_looks I ry ty
  have sb : Sub X (n + 1) X.A := ⟨hr, rfl⟩
  show wpAny (model X.prog X.w) X.A (richCompare .NotEq (.ref a) v) (EP X pins σ Q) X.xe s
  have one : wpAny (model X.prog X.w) X.A (tryCompare (.ref a) "__ne__" v) (fun r s' => ∃ w, r = some w ∧ EP X pins σ Q w s') X.xe s := by
    unfold tryCompare
    refine wpAny_bind (ifBound_B I.kIn J hn bind_ne (wpAny_call (codeAny_call_builtin PySem.F.slot_tuple_iterator_ne.plain PySem.F.cmpEntry_ne
      (PySem.W.check_slot PySem.F.cmpKind_ne PySem.F.cmpSplit_ne (J.type.andThen (PySem.W.looks_mroIn I.kIn ho)) (PySem.F.cmpArgs_ne _ _)
        (ne_body I.kIn J hs hf sb.in1.room.units0 (wpAny_mono (call_own F hb sb.in1 I (.cons (show RelV (V.ref a) (Value.ref a) from rfl) (.cons ry .nil)) q) (fun r s' z => ?_) fun _ _ x => x))))))
    obtain ⟨z, H', I', rz, c, ez, q'⟩ := z
    subst ez
    cases rz
    have fin : EP X pins σ Q (.bool (!c)) s' := ⟨.bl (!c), H', I', rfl, q'⟩
    first | exact ⟨c, rfl, wpAny_pure ⟨_, rfl, fin⟩⟩ | exact ⟨c, rfl, wpAny_pure (wpAny_pure ⟨_, rfl, fin⟩)⟩ | exact ⟨c, rfl, ⟨_, rfl, fin⟩⟩
  unfold richCompare
  simp only [oneThing_ref]
  refine wpAny_holding (wpAny_bind (wpAny_cRoomFor hr.units0 ?_))
  refine wpAny_bind (J.type.here (wpAny_bind (hb'.here ?_)))
  split
  · rename_i q'
    have e : PySem.W.subIn X.K tb (.ref C) = some false := by
      rcases Bool.or_eq_true_iff.mp nf with e | e
      · rw [beq_iff_eq.mp e] at q'; simp at q'
      · exact beq_iff_eq.mp e
    refine wpAny_bind ((PySem.W.looks_subIn I.kIn e).here ?_)
    simp only [Bool.false_eq_true, if_false]
    refine wpAny_bind (wpAny_mono one (fun r s' z => ?_) fun _ _ e => e)
    obtain ⟨v, rfl, hq⟩ := z
    exact wpAny_pure hq
  · refine wpAny_bind (wpAny_pure ?_)
    simp only [Bool.false_eq_true, if_false]
    refine wpAny_bind (wpAny_mono one (fun r s' z => ?_) fun _ _ e => e)
    obtain ⟨v, rfl, hq⟩ := z
    exact wpAny_pure hq
end
end Lag

set_option maxRecDepth 100000
set_option maxHeartbeats 4000000
namespace Lag
open PySem PySem.Spec PyProof.Rows L2
/-! ### nets as data that is compared -/
def gateD (g : Gt) : PyData := .tuple [.str g.1, .int g.2]
def gatesD (gs : List Gt) : PyData := .list (gs.map gateD)
def wireD (x : Wr) : PyData := .tuple [.int (x.1 : Nat), .int (x.2.1 : Nat), .tuple (x.2.2.map PyData.int)]
def wiresD (ws : List Wr) : PyData := .list (ws.map wireD)
def intsD (l : List Nat) : PyData := .list (l.map fun i => .int (i : Nat))
theorem eqvAll_map {α : Type} [DecidableEq α] {f : α → PyData} (h : ∀ x y, PyData.eqv (f x) (f y) = decide (x = y)) : ∀ xs ys : List α, PyData.eqvAll (xs.map f) (ys.map f) = decide (xs = ys)
  | [], [] => rfl
  | [], _ :: _ => rfl
  | _ :: _, [] => rfl
  | x :: xs, y :: ys => by
    show (PyData.eqv (f x) (f y) && PyData.eqvAll (xs.map f) (ys.map f)) = _
    rw [h, eqvAll_map h xs ys, Bool.eq_iff_iff]
    simp
theorem gateD_eq (a b : Gt) : PyData.eqv (gateD a) (gateD b) = decide (a = b) := by
  show ((a.1 == b.1) && ((a.2 == b.2) && true)) = _
  rw [Bool.eq_iff_iff]
  simp [Prod.ext_iff]
theorem gatesD_eq (a b : List Gt) : PyData.eqv (gatesD a) (gatesD b) = decide (a = b) := eqvAll_map gateD_eq a b
theorem intD_eq (a b : Int) : PyData.eqv (.int a) (.int b) = decide (a = b) := rfl
theorem wireD_eq (a b : Wr) : PyData.eqv (wireD a) (wireD b) = decide (a = b) := by
  show ((((a.1 : Nat) : Int) == ((b.1 : Nat) : Int)) && ((((a.2.1 : Nat) : Int) == ((b.2.1 : Nat) : Int)) && (PyData.eqvAll (a.2.2.map PyData.int) (b.2.2.map PyData.int) && true))) = _
  rw [eqvAll_map intD_eq, Bool.eq_iff_iff]
  simp only [Bool.and_eq_true, beq_iff_eq, decide_eq_true_eq, and_true]
  constructor
  · rintro ⟨h1, h2, h3⟩
    exact Prod.ext (by omega) (Prod.ext (by show a.2.1 = b.2.1; omega) h3)
  · rintro rfl
    exact ⟨rfl, rfl, rfl⟩
theorem wiresD_eq (a b : List Wr) : PyData.eqv (wiresD a) (wiresD b) = decide (a = b) := eqvAll_map wireD_eq a b
theorem natD_eq (a b : Nat) : PyData.eqv (.int (a : Nat)) (.int (b : Nat)) = decide (a = b) := by
  show (((a : Nat) : Int) == ((b : Nat) : Int)) = _
  rw [Bool.eq_iff_iff]
  simp
  omega
theorem intsD_eq (a b : List Nat) : PyData.eqv (intsD a) (intsD b) = decide (a = b) := eqvAll_map natD_eq a b
theorem lay_all {ds : List PyData} : (∀ d ∈ ds, PyData.canLay0 d = true) → PyData.canLayAll0 ds = true := by
  induction ds with
  | nil => intro _; rfl
  | cons d ds ih =>
    intro h
    show (PyData.canLay0 d && PyData.canLayAll0 ds) = true
    rw [h d (List.mem_cons_self ..), ih fun x hx => h x (List.mem_cons_of_mem _ hx)]
    rfl
theorem depth_all {ds : List PyData} {k : Nat} : (∀ d ∈ ds, PyData.depth d ≤ k) → PyData.depthAll ds ≤ k := by
  induction ds with
  | nil => intro _; exact Nat.zero_le _
  | cons d ds ih =>
    intro h
    show max (PyData.depth d) (PyData.depthAll ds) ≤ k
    have h1 := h d (List.mem_cons_self ..)
    have h2 := ih fun x hx => h x (List.mem_cons_of_mem _ hx)
    omega
/-- such data may be compared, to the depth k -/
def Sh (k : Nat) (d : PyData) : Prop := PyData.canLay0 d = true ∧ PyData.depth d ≤ k
theorem Sh.ok {k : Nat} {d : PyData} (h : Sh k d) (hk : k ≤ 64) : SeqAt.shaped d = true := by
  show (PyData.canLay0 d && decide (PyData.depth d ≤ 64)) = true
  rw [h.1, decide_eq_true (Nat.le_trans h.2 hk)]
  rfl
theorem sh_list {k : Nat} {ds : List PyData} (h : ∀ d ∈ ds, Sh k d) : Sh (k + 1) (.list ds) := ⟨lay_all fun d hd => (h d hd).1, Nat.succ_le_succ (depth_all fun d hd => (h d hd).2)⟩
theorem sh_tuple {k : Nat} {ds : List PyData} (h : ∀ d ∈ ds, Sh k d) : Sh (k + 1) (.tuple ds) := ⟨lay_all fun d hd => (h d hd).1, Nat.succ_le_succ (depth_all fun d hd => (h d hd).2)⟩
theorem sh_int {k : Nat} (i : Int) : Sh k (.int i) := ⟨rfl, Nat.zero_le _⟩
theorem kinds_str : ∀ k ∈ kinds, PyData.canLay0 (.str k) = true := by decide +kernel
theorem sh_kind {k : Nat} {z : Str} (h : z ∈ kinds) : Sh k (.str z) := ⟨kinds_str z h, Nat.zero_le _⟩
theorem sh_gates {gs : List Gt} (h : ∀ g ∈ gs, GOk g) : Sh 2 (gatesD gs) := by
  refine sh_list fun d hd => ?_
  obtain ⟨g, hg, rfl⟩ := List.mem_map.mp hd
  refine sh_tuple fun d hd => ?_
  simp only [List.mem_cons, List.not_mem_nil, or_false] at hd
  rcases hd with rfl | rfl
  · exact sh_kind (h g hg).1
  · exact sh_int _
theorem sh_wires (ws : List Wr) : Sh 3 (wiresD ws) := by
  refine sh_list fun d hd => ?_
  obtain ⟨g, hg, rfl⟩ := List.mem_map.mp hd
  refine sh_tuple fun d hd => ?_
  simp only [List.mem_cons, List.not_mem_nil, or_false] at hd
  rcases hd with rfl | rfl | rfl
  · exact sh_int _
  · exact sh_int _
  · refine sh_tuple fun d hd => ?_
    obtain ⟨i, _, rfl⟩ := List.mem_map.mp hd
    exact sh_int _
theorem sh_ints (l : List Nat) : Sh 1 (intsD l) := by
  refine sh_list fun d hd => ?_
  obtain ⟨i, _, rfl⟩ := List.mem_map.mp hd
  exact sh_int _
section
variable {K : PySem.W.Frag} {H : Hp}
theorem dp_all {α : Type} {R : V → α → Prop} {f : α → PyData} (h : ∀ v x, R v x → Dp K H v (f x)) : ∀ {vs : List V} {xs : List α}, All2 R vs xs → DpAll K H vs (xs.map f)
  | [], [], _ => .nil
  | [], _ :: _, a => by have := a.1; simp at this
  | _ :: _, [], a => by have := a.1; simp at this
  | _ :: _, _ :: _, a => .cons (h _ _ a.head) (dp_all h a.tail)
theorem GateV.dp {v : V} {g : Gt} (h : GateV K H v g) : Dp K H v (gateD g) := by
  obtain ⟨a, rfl, s⟩ := h
  exact .tup s (.cons (.str _) (.cons (.int _) .nil))
theorem ints_dp : ∀ l : List Int, DpAll K H (l.map V.int) (l.map PyData.int)
  | [] => .nil
  | i :: l => .cons (.int i) (ints_dp l)
theorem nats_dp : ∀ l : List Nat, DpAll K H (l.map fun i => V.int (i : Nat)) (l.map fun i => PyData.int (i : Nat))
  | [] => .nil
  | i :: l => .cons (.int _) (nats_dp l)
theorem WireV.dp {v : V} {x : Wr} (h : WireV K H v x) : Dp K H v (wireD x) := by
  obtain ⟨a, b, rfl, s1, s2⟩ := h
  exact .tup s1 (.cons (.int _) (.cons (.int _) (.cons (.tup s2 (ints_dp _)) .nil)))
theorem RG.dp {l : Addr} {gs : List Gt} (h : RG K H l gs) : Dp K H (.ref l) (gatesD gs) := by
  obtain ⟨vs, s, a⟩ := h
  exact .lst s (dp_all (fun _ _ r => GateV.dp r) a)
theorem RW.dp {l : Addr} {ws : List Wr} (h : RW K H l ws) : Dp K H (.ref l) (wiresD ws) := by
  obtain ⟨vs, s, a⟩ := h
  exact .lst s (dp_all (fun _ _ r => WireV.dp r) a)
theorem dp_ints {l : Addr} {xs : List Nat} (h : SqL K H l (xs.map fun i => V.int (i : Nat))) : Dp K H (.ref l) (intsD xs) := .lst h (nats_dp xs)
end
/-! ### Net.__eq__ -/
structure NTy (K : PySem.W.Frag) (C : Addr) : Prop where
  ha : PySem.W.findIn K (.ref C) "__class__" = some (some (.builtin "object.__class__"))
  hn : PySem.W.specialIn K (.builtin "object.__class__") "__get__" = some (some (.builtin "getset_descriptor.__get__"))
  htk : PySem.W.takesIn K (.builtin "object.__class__") = some true
  hm : PySem.W.mroIn K C (.type "object") = some true
theorem ty_net {K : PySem.W.Frag} {mg : Str → Option Value} {C : Addr} {H : Hp} {p dx : Addr} {fs : List (Str × V)} (T : NT K mg C) (Y : NTy K C) (h : H p = some (.ins C dx fs)) : TyOf K H (.ref p) (.ref C) := .ins h T.cl Y.ha Y.hn Y.htk Y.hm
def spEqN (K : PySem.W.Frag) (C : Addr) : Sp := fun vs H Q _ => ∃ (p lg lw : Addr) (gs : List Gt) (ws : List Wr) (y : V), vs = [.ref p, y] ∧ NetAt K C H p lg lw gs ws ∧
  ((∃ (q lg' lw' : Addr) (gs' : List Gt) (ws' : List Wr), y = .ref q ∧ NetAt K C H q lg' lw' gs' ws' ∧ (∀ g ∈ gs, GOk g) ∧ (∀ g ∈ gs', GOk g) ∧ Q (.bl (decide (gs = gs') && decide (ws = ws'))) H) ∨
    (∃ t, TyX K H y t ∧ PySem.W.kitOne K t (.ref C) = some false ∧ Q (.bl false) H))
section
variable {P : Program} {w : World} {K : PySem.W.Frag} {mg : Str → Option Value} {base : Heap}
theorem scEq : FnScope ["self", "other"] ["self", "other"] (defScope sEq) := ⟨rfl, rfl, rfl, by decide +kernel, rfl, by decide +kernel, by decide +kernel⟩
theorem kit_self {K : PySem.W.Frag} (C : Addr) : PySem.W.kitOne K (.ref C) (.ref C) = some true := by
  unfold PySem.W.kitOne
  rw [if_pos (beq_self_eq_true _)]
theorem ok_eqN {f C : Addr} {fd : FuncData} (F : Fun K "__eq__" "Net.__eq__" sEq f fd) (T : NT K mg C) (Y : NTy K C) (B : Bt mg) : FnOk P w K mg base CX0 1 f fd ["self", "other"] (spEqN K C) := by
  refine F.ok scEq (fun vs H Q E h => ?_) (fun cdv A outer s H vs Q E hr h => ?_)
  · obtain ⟨p, lg, lw, gs, ws, y, rfl, _⟩ := h
    rfl
  · obtain ⟨p, lg, lw, gs, ws, y, rfl, N, h⟩ := h
    refine ⟨_, pss_one <| ps_ret <| pe_and (pe_callB call_isi (by rfl) B.isi (by decide +kernel) (pa_cons (pv 1) (pa_cons (pe_glob (v := .ref C) (by rfl) T.mg rfl) pa_nil))) <|
      pe_and (pe_cmpR (op_eqD hr.units) (pe_fld (pv 0) rfl) (pe_fld (pv 1) rfl) (nomark _)) <| pe_one <| pe_cmpR (op_eqD hr.units) (pe_fld (pv 0) rfl) (pe_fld (pv 1) rfl) (nomark _), ?_⟩
    obtain ⟨dx, hp⟩ := N.ob
    rcases h with ⟨q, lg', lw', gs', ws', rfl, N', gok, gok', k⟩ | ⟨t, ty, kt, k⟩
    · obtain ⟨dx', hq⟩ := N'.ob
      refine ⟨_, rfl, _, _, _, _, true, rfl, .own C, .base (ty_net T Y hq), kit_self C, true, rfl, iteT ?_⟩
      refine ⟨_, rfl, p, C, dx, _, _, rfl, hp, T.cl, T.nG, nf_gates _ _, _, rfl, q, C, dx', _, _, rfl, hq, T.cl, T.nG, nf_gates _ _, _, _, N.g.rg.dp, N'.g.rg.dp, (sh_gates gok).ok (by decide), (sh_gates gok').ok (by decide), _, rfl, ?_⟩
      rw [gatesD_eq]
      cases e : decide (gs = gs') with
      | false =>
        rw [e] at k
        exact iteF k
      | true =>
        rw [e] at k
        refine iteT ⟨_, rfl, p, C, dx, _, _, rfl, hp, T.cl, T.nW, nf_wires _ _, _, rfl, q, C, dx', _, _, rfl, hq, T.cl, T.nW, nf_wires _ _, _, _, N.w.rw.dp, N'.w.rw.dp, (sh_wires _).ok (by decide), (sh_wires _).ok (by decide), ?_⟩
        rw [wiresD_eq]
        exact k
    · exact ⟨_, rfl, _, _, _, _, false, rfl, .own C, ty, kt, false, rfl, iteF k⟩
end
end Lag

set_option maxRecDepth 100000
set_option maxHeartbeats 4000000
namespace Lag
open PySem PySem.Spec PyProof.Rows L2
/-! ### what keeps a net a net -/
theorem kindAt_set {gs : List Gt} {i j : Nat} {g : Gt} (h : i < gs.length) : kindAt (gs.set i g) j = if j = i then g.1 else kindAt gs j := by
  unfold kindAt
  rw [List.getD_eq_getElem?_getD, List.getD_eq_getElem?_getD, List.getElem?_set]
  by_cases e : i = j
  · subst e
    rw [if_pos rfl, if_pos h, if_pos rfl]
    rfl
  · rw [if_neg e, if_neg (fun z => e z.symm)]
/-- another gate at a place whose gate is no port: no port, and no first where it was none -/
theorem NetOk.setG {gs : List Gt} {ws : List Wr} (N : NetOk gs ws) {i : Nat} {g : Gt} (hi : i < gs.length) (hg : GOk g) (h1 : g.1 ≠ "out") (h2 : g.1 ≠ "in") (h3 : g.1 = "first" → kindAt gs i = "first") : NetOk (gs.set i g) ws := by
  have kk := @kindAt_set gs i
  refine ⟨?_, by rw [List.length_set]; exact N.gl, N.wl, ?_, fun x hx => ?_, fun e he hk => ?_, fun e he hk => ?_, N.rank⟩
  · intro z
    have := congrArg List.length z
    rw [List.length_set] at this
    exact N.ne (List.length_eq_zero_iff.mp this)
  · intro y hy
    rcases List.mem_or_eq_of_mem_set hy with hy | hy
    · exact N.gok y hy
    · rw [hy]
      exact hg
  · have W := N.wok x hx
    refine ⟨by rw [List.length_set]; exact W.s, by rw [List.length_set]; exact W.e, ?_, ?_, W.r, W.rl⟩
    · rw [kk hi]
      split
      · exact h1
      · exact W.ks
    · rw [kk hi]
      split
      · exact h2
      · exact W.ke
  · rw [List.length_set] at he
    rw [kk hi] at hk
    split at hk
    · exact absurd hk h1
    · exact N.one e he hk
  · rw [List.length_set] at he
    rw [kk hi] at hk
    split at hk
    · rename_i hei
      subst hei
      exact N.some _ he (h3 hk)
    · exact N.some e he hk
theorem kindAt_app {gs : List Gt} {g : Gt} {j : Nat} (h : j < gs.length) : kindAt (gs ++ [g]) j = kindAt gs j := by
  unfold kindAt
  rw [List.getD_eq_getElem?_getD, List.getD_eq_getElem?_getD, List.getElem?_append_left h]
theorem NetOk.addIn {gs : List Gt} {ws : List Wr} (N : NetOk gs ws) (hl : gs.length < 100) : NetOk (gs ++ [(("in" : Str), (0 : Int))]) ws := by
  have kl : kindAt (gs ++ [(("in" : Str), (0 : Int))]) gs.length = "in" := by
    unfold kindAt
    rw [List.getD_eq_getElem?_getD, List.getElem?_append_right (Nat.le_refl _), Nat.sub_self]
    rfl
  refine ⟨by simp, by simp; omega, N.wl, ?_, fun x hx => ?_, fun e he hk => ?_, fun e he hk => ?_, N.rank⟩
  · intro y hy
    rcases List.mem_append.mp hy with hy | hy
    · exact N.gok y hy
    · simp at hy
      subst hy
      exact ⟨by show ("in" : Str) ∈ kinds; decide +kernel, Int.le_refl 0, (by show (0 : Int) ≤ 100; decide), fun _ => rfl⟩
  · have W := N.wok x hx
    exact ⟨by have := W.s; simp; omega, by have := W.e; simp; omega, by rw [kindAt_app W.s]; exact W.ks, by rw [kindAt_app W.e]; exact W.ke, W.r, W.rl⟩
  · by_cases h : e < gs.length
    · rw [kindAt_app h] at hk
      exact N.one e h hk
    · have : e = gs.length := by simp at he; omega
      subst this
      rw [kl] at hk
      exact absurd hk (by decide +kernel)
  · by_cases h : e < gs.length
    · rw [kindAt_app h] at hk
      exact N.some e h hk
    · have : e = gs.length := by simp at he; omega
      subst this
      rw [kl] at hk
      exact absurd hk (by decide +kernel)
theorem cnt_set {ws : List Wr} {i : Nat} {x y : Wr} (h : ws[i]? = some x) (he : y.2.1 = x.2.1) (e : Nat) : cnt (ws.set i y) e = cnt ws e := by
  obtain ⟨hi, rfl⟩ := List.getElem?_eq_some_iff.mp h
  have h1 : ws.set i y = ws.take i ++ y :: ws.drop (i + 1) := List.set_eq_take_append_cons_drop .. |>.trans (by rw [if_pos hi])
  have h2 : ws = ws.take i ++ ws[i] :: ws.drop (i + 1) := by rw [List.getElem_cons_drop, List.take_append_drop]
  unfold cnt
  conv => rhs; rw [h2]
  rw [h1, List.countP_append, List.countP_append, List.countP_cons, List.countP_cons, he]
/-- a wire with other registers, one at least -/
theorem NetOk.setW {gs : List Gt} {ws : List Wr} (N : NetOk gs ws) {i : Nat} {x : Wr} {r : List Int} (h : ws[i]? = Option.some x) (hr : ROk r) (hl : r.length ≤ 100) (hne : r ≠ []) : NetOk gs (ws.set i (x.1, x.2.1, r)) := by
  have W := N.wok x (List.mem_of_getElem? h)
  obtain ⟨ρ, hρ⟩ := N.rank
  refine ⟨N.ne, N.gl, by rw [List.length_set]; exact N.wl, N.gok, fun y hy => ?_, fun e he hk => ?_, fun e he hk => ?_, ρ, fun y hy hyr => ?_⟩
  · rcases List.mem_or_eq_of_mem_set hy with hy | hy
    · exact N.wok y hy
    · rw [hy]
      exact ⟨W.s, W.e, W.ks, W.ke, hr, hl⟩
  · rw [cnt_set (y := (x.1, x.2.1, r)) h rfl]
    exact N.one e he hk
  · rw [cnt_set (y := (x.1, x.2.1, r)) h rfl]
    exact N.some e he hk
  · rcases List.mem_or_eq_of_mem_set hy with hy | hy
    · exact hρ y hy hyr
    · rw [hy] at hyr
      exact absurd hyr hne
theorem NetOk.perm {gs : List Gt} {ws ws' : List Wr} (N : NetOk gs ws) (p : ws'.Perm ws) : NetOk gs ws' := by
  obtain ⟨ρ, hρ⟩ := N.rank
  have c : ∀ e, cnt ws' e = cnt ws e := fun e => p.countP_eq _
  exact ⟨N.ne, N.gl, by rw [p.length_eq]; exact N.wl, N.gok, fun x hx => N.wok x (p.mem_iff.mp hx), fun e he hk => by rw [c]; exact N.one e he hk, fun e he hk => by rw [c]; exact N.some e he hk, ρ, fun x hx h => hρ x (p.mem_iff.mp hx) h⟩
/-! ### slices -/
theorem take_min {α : Type} (l : List α) (k : Nat) : l.take (min k l.length) = l.take k := by
  by_cases h : k ≤ l.length
  · rw [Nat.min_eq_left h]
  · rw [Nat.min_eq_right (by omega), List.take_length, List.take_of_length_le (by omega)]
theorem drop_min {α : Type} (l : List α) (k : Nat) : l.drop (min k l.length) = l.drop k := by
  by_cases h : k ≤ l.length
  · rw [Nat.min_eq_left h]
  · rw [Nat.min_eq_right (by omega), List.drop_length, List.drop_of_length_le (by omega)]
theorem cut_to {xs : List V} (k : Nat) : cutV xs none (some (k : Int)) = xs.take k := by
  unfold cutV
  rw [HT.sIx_none, HT.sIx_nat, List.drop_zero, Nat.sub_zero, take_min]
theorem cut_from {xs : List V} (k : Nat) : cutV xs (some (k : Int)) none = xs.drop k := by
  unfold cutV
  rw [HT.sIx_none, HT.sIx_nat, drop_min]
  exact List.take_of_length_le (by rw [List.length_drop]; omega)
theorem cut_mid {xs : List V} (j k : Nat) : cutV xs (some (j : Int)) (some (k : Int)) = (xs.take k).drop j := by
  unfold cutV
  rw [HT.sIx_nat, HT.sIx_nat, List.drop_take, drop_min]
  by_cases h : j ≤ xs.length
  · by_cases h2 : k ≤ xs.length
    · rw [Nat.min_eq_left h, Nat.min_eq_left h2]
    · rw [List.take_of_length_le (by rw [List.length_drop]; omega), List.take_of_length_le (by rw [List.length_drop]; omega)]
  · rw [List.drop_of_length_le (by omega)]
    simp
section
variable {α β : Type} {R : α → β → Prop} {xs xs' : List α} {ys ys' : List β}
theorem All2.take (h : All2 R xs ys) (k : Nat) : All2 R (xs.take k) (ys.take k) := by
  refine ⟨by rw [List.length_take, List.length_take, h.1], fun i x y hx hy => ?_⟩
  have hi : i < k := by
    have := (List.getElem?_eq_some_iff.mp hx).1
    rw [List.length_take] at this
    omega
  rw [List.getElem?_take_of_lt hi] at hx hy
  exact h.2 i x y hx hy
theorem All2.drop (h : All2 R xs ys) (k : Nat) : All2 R (xs.drop k) (ys.drop k) := by
  refine ⟨by rw [List.length_drop, List.length_drop, h.1], fun i x y hx hy => ?_⟩
  rw [List.getElem?_drop] at hx hy
  exact h.2 _ x y hx hy
theorem All2.append (h : All2 R xs ys) (h' : All2 R xs' ys') : All2 R (xs ++ xs') (ys ++ ys') := by
  induction xs generalizing ys with
  | nil =>
    cases ys with
    | nil => exact h'
    | cons _ _ => have := h.1; simp at this
  | cons x xs ih =>
    cases ys with
    | nil => have := h.1; simp at this
    | cons y ys => exact All2.cons h.head (ih h.tail)
theorem All2.reverse (h : All2 R xs ys) : All2 R xs.reverse ys.reverse := by
  induction xs generalizing ys with
  | nil =>
    cases ys with
    | nil => exact h
    | cons _ _ => have := h.1; simp at this
  | cons x xs ih =>
    cases ys with
    | nil => have := h.1; simp at this
    | cons y ys =>
      rw [List.reverse_cons, List.reverse_cons]
      exact (ih h.tail).snoc h.head
theorem All2.one {x : α} {y : β} (r : R x y) : All2 R [x] [y] := All2.cons r All2.nil
end
theorem set_cut {α : Type} {l : List α} {i : Nat} {y : α} (h : i < l.length) : l.take i ++ [y] ++ l.drop (i + 1) = l.set i y := by
  rw [List.set_eq_take_append_cons_drop, if_pos h, List.append_assoc]
  rfl
theorem swap_perm {α : Type} (l : List α) (i : Nat) : (l.take i ++ ((l.take (i + 2)).drop i).reverse ++ l.drop (i + 2)).Perm l := by
  have e : l = l.take i ++ (l.take (i + 2)).drop i ++ l.drop (i + 2) := by
    have h1 : l.take i = (l.take (i + 2)).take i := by rw [List.take_take, Nat.min_eq_left (by omega)]
    rw [h1, List.take_append_drop, List.take_append_drop]
  conv => rhs; rw [e]
  exact ((List.Perm.refl _).append (List.reverse_perm _)).append (List.Perm.refl _)
end Lag

set_option maxRecDepth 100000
set_option maxHeartbeats 4000000
namespace Lag
open PySem PySem.Spec PyProof.Rows L2
theorem ints_get : ∀ {its : List Value} {ns : List Int}, IntsAre its ns → ∀ {i : Nat} {v : Value}, its[i]? = some v → ∃ (z : Int) (t : Tok), v = .int z t ∧ ns[i]? = some z := by
  intro its ns h
  induction h with
  | nil => intro i v e; simp at e
  | cons n t _ ih =>
    intro i v e
    cases i with
    | zero =>
      simp at e
      exact ⟨n, t, e.symm, rfl⟩
    | succ i => exact ih (by simpa using e)
/-! ### max(xs, default=d) of whole numbers -/
section
variable {prog : Program} {w : World} {A : Around} {E : Value → Shared → Prop}
theorem dargs_max (a d : Value) : argsOk "max" ⟨[a], [(Str.ofString "default", d)]⟩ := by
  unfold argsOk
  kernel_rfl
/-- what is held while it goes on: nothing as yet, or the best of those that came -/
def Held_max (ns : List Int) (j : Nat) (its : Array Value) : Prop := (j = 0 ∧ its = #[]) ∨ (0 < j ∧ ∃ (m : Int) (t : Tok), its = #[.int m t, .int m t] ∧ m ∈ ns.take j ∧ ∀ y ∈ ns.take j, y ≤ m)
theorem dloop_max {R : Result → Shared → Prop} {I S : Addr} {fp wr : List Addr} {n : Nat} {Pv : Nat → Value → Prop} {St : Nat → Heap → Prop} {ns : List Int} {d : Value} (W : Walks prog w A.in1 I fp wr n Pv St) (hSf : S ∉ fp) (hn : ns.length = n)
    (hP : ∀ i v, Pv i v → ∃ (z : Int) (t : Tok), v = .int z t ∧ ns[i]? = some z) :
    ∀ (k j : Nat) (s : Shared) (its : Array Value) (c : Nat), n - j = k → j ≤ n → St j s.heap → s.heap.get? S = some { cls := .type "list", data := .seq its c } → Held_max ns j its →
    (∀ h' tk, (∀ b o, b ∉ wr → b ≠ S → s.heap.get? b = some o → h'.get? b = some o) → (ns = [] → R (.ok (.ret d)) { s with heap := h', toks := tk }) ∧ ∀ m t, m ∈ ns → (∀ y ∈ ns, y ≤ m) → R (.ok (.ret (.int m t))) { s with heap := h', toks := tk }) →
    codeAny (model prog w) A (.builtin "max.loop" ⟨[.ref I, .none, .ref S], [(Str.ofString "default", d)]⟩) R s := by
  have nSw : S ∉ wr := fun z => hSf (W.sub S z)
  have hnm : (toString "max" ++ toString ".loop" : String) = "max.loop" := by decide
  intro k
  induction k with
  | zero =>
    intro j s its c hk hj st hS hh hR
    have ej : j = n := by omega
    subst ej
    refine codeAny_builtin PySem.F.entry_max_loop ?_
    rw [Around.under_plainId PySem.F.plain_max_loop _]
    show wpAny _ A.in1 (seqItems? (.ref S) >>= _) _ _ s
    refine wpAny_bind (wpAny_seqItems hS rfl ?_)
    show wpAny _ A.in1 (tryCatch (pyNext (.ref I)) _ >>= _) _ _ s
    refine wpAny_bind (wpAny_tryCatch (W.done s _ _ st fun h' tk kp => ?_))
    have hS' := kp S _ nSw hS
    rcases hh with ⟨h0, rfl⟩ | ⟨h0, m, t, rfl, hm, hb⟩
    · refine wpAny_bind (wpAny_rule (wpAny_pure ?_))
      exact (hR h' tk fun b o nb _ e => kp b o nb e).1 (List.length_eq_zero_iff.mp (by omega))
    · show wpAny _ A.in1 (updateSeq S (fun _ => #[]) >>= _) _ _ _
      refine wpAny_bind ?_
      refine wpAny_updateSeq hS' rfl (wpAny_bind (wpAny_letGo (wpAny_pure ?_)))
      rw [List.take_of_length_le (by omega)] at hm hb
      exact (hR _ tk fun b o nb nS e => (Heap.get?_update_other _ _ (Ne.symm nS)).trans (kp b o nb e)).2 m t hm hb
  | succ k ih =>
    intro j s its c hk hj st hS hh hR
    have lt : j < n := by omega
    refine codeAny_builtin PySem.F.entry_max_loop ?_
    rw [Around.under_plainId PySem.F.plain_max_loop _]
    show wpAny _ A.in1 (seqItems? (.ref S) >>= _) _ _ s
    refine wpAny_bind (wpAny_seqItems hS rfl ?_)
    show wpAny _ A.in1 (tryCatch (pyNext (.ref I)) _ >>= _) _ _ s
    refine wpAny_bind (wpAny_tryCatch (W.item j s _ _ lt st fun v h' tk pv st' kp => ?_))
    have hS' := kp S _ nSw hS
    obtain ⟨z, tz, rfl, hz⟩ := hP j v pv
    have et : ns.take (j + 1) = ns.take j ++ [z] := by rw [List.take_add_one, hz]; rfl
    rcases hh with ⟨h0, rfl⟩ | ⟨h0, m, t, rfl, hm, hb⟩
    · show wpAny _ A.in1 (updateSeq S (fun _ => #[.int z tz, .int z tz]) >>= _) _ _ _
      refine wpAny_bind ?_
      refine wpAny_updateSeq hS' rfl ?_
      rw [hnm]
      refine wpAny_pure ⟨plainId_quiet PySem.F.plain_max_loop _, ih (j + 1) _ _ _ (by omega) lt (W.frame _ _ _ st' fun b hbf o e => (Heap.get?_update_other _ _ (fun q : S = b => hSf (by rw [q]; exact hbf))).trans e) (Heap.get?_update_self _ hS' rfl) (.inr ⟨by omega, z, tz, rfl, ?_, ?_⟩) fun h'' tk'' kp'' => ?_⟩
      · rw [et]; simp
      · subst h0
        rw [et]
        intro y hy
        simp at hy
        subst hy
        exact Int.le_refl _
      · exact hR h'' tk'' fun b o nb nS e => kp'' b o nb nS ((Heap.get?_update_other _ _ (Ne.symm nS)).trans (kp b o nb e))
    · show wpAny _ A.in1 (tryCatch (holding [.int z tz, .int z tz] (richCompare .Gt (.int z tz) (.int m t) >>= _)) _ >>= _) _ _ _
      refine wpAny_bind (wpAny_tryCatch (wpAny_holding (wpAny_bind (CmpOf.ints_gt (P := fun i v => ∃ t, v = Value.int (if i = 0 then z else m) t) (fun i => if i = 0 then z else m) (fun _ _ h => h) 0 1 _ _ _ _ _ ⟨tz, rfl⟩ ⟨t, rfl⟩ ?_))))
      refine wpAny_bind (wpAny_holding (wpAny_truthy_bool ?_))
      refine wpAny_bind (wpAny_letGo (wpAny_pure ?_))
      show wpAny _ A.in1 (if decide (z > m) = true then _ else _) _ _ _
      by_cases hzm : z > m
      · rw [if_pos (decide_eq_true hzm)]
        refine wpAny_bind ?_
        refine wpAny_updateSeq hS' rfl (wpAny_bind (wpAny_letGo ?_))
        rw [hnm]
        refine wpAny_pure ⟨plainId_quiet PySem.F.plain_max_loop _, ih (j + 1) _ _ _ (by omega) lt (W.frame _ _ _ st' fun b hbf o e => (Heap.get?_update_other _ _ (fun q : S = b => hSf (by rw [q]; exact hbf))).trans e) (Heap.get?_update_self _ hS' rfl) (.inr ⟨by omega, z, tz, rfl, ?_, ?_⟩) fun h'' tk'' kp'' => ?_⟩
        · rw [et]; simp
        · rw [et]
          intro y hy
          rcases List.mem_append.mp hy with hy | hy
          · have := hb y hy
            omega
          · simp at hy
            omega
        · exact hR h'' tk'' fun b o nb nS e => kp'' b o nb nS ((Heap.get?_update_other _ _ (Ne.symm nS)).trans (kp b o nb e))
      · rw [if_neg (by rw [decide_eq_false hzm]; decide)]
        refine wpAny_bind (wpAny_letGo ?_)
        rw [hnm]
        refine wpAny_pure ⟨plainId_quiet PySem.F.plain_max_loop _, ih (j + 1) _ _ c (by omega) lt st' hS' (.inr ⟨by omega, m, t, rfl, ?_, ?_⟩) fun h'' tk'' kp'' => ?_⟩
        · rw [et]; exact List.mem_append_left _ hm
        · rw [et]
          intro y hy
          rcases List.mem_append.mp hy with hy | hy
          · exact hb y hy
          · simp at hy
            omega
        · exact hR h'' tk'' fun b o nb nS e => kp'' b o nb nS (kp b o nb e)
theorem dcall_max {s : Shared} {l : Addr} {items : Array Value} {ns : List Int} {d : Value} {Q : Value → Shared → Prop} (hh : A.handled = none) (hl : s.heap.IsList l items) (hi : IntsAre items.toList ns)
    (h : ∀ h' tk, (∀ b o, s.heap.get? b = some o → h'.get? b = some o) → (ns = [] → Q d { s with heap := h', toks := tk }) ∧ ∀ m t, m ∈ ns → (∀ y ∈ ns, y ≤ m) → Q (.int m t) { s with heap := h', toks := tk }) :
    wpAny (model prog w) A (call (.builtin "max") [.ref l] [(Str.ofString "default", d)]) Q E s := by
  have hnm : (toString "max" ++ toString ".loop" : String) = "max.loop" := by decide
  have hlt : l < s.heap.objs.size := by obtain ⟨_, e, _⟩ := hl; exact Heap.lt_size e
  refine PyProof.Rows.kmk_tree PySem.F.kind_max PySem.F.plain_max PySem.F.entry_max (dargs_max _ _) ?_
  show wpAny _ A.in1 (Builtin.Builtins.bindParams "max" ["key", "default"] 0 ⟨[], [(Str.ofString "default", d)]⟩ >>= _) _ _ s
  refine wpAny_bind (wpAny_of_eq (show Builtin.Builtins.bindParams "max" ["key", "default"] 0 ⟨[], [(Str.ofString "default", d)]⟩ = pure [none, some d] from rfl) ?_)
  refine wpAny_bind (wpAny_pure ?_)
  refine wpAny_bind (wpAny_pyIter_list hl ?_)
  refine wpAny_bind (wpAny_newList ?_ (Nat.zero_le _))
  rw [hnm]
  have W := Walks.list (prog := prog) (w := w) (A := A.in1) hh s.heap.objs.size l (Nat.ne_of_lt hlt) items
  have e1 : (s.heap.push { cls := .type "list_iterator", data := .fields #[.ref l, .int 0 0] }).objs.size = s.heap.objs.size + 1 := Heap.size_push ..
  refine wpAny_pure ⟨plainId_quiet PySem.F.plain_max_loop _, dloop_max (ns := ns) W (fun q => ?_) ?_ (fun i v hv => ?_) items.size 0 _ #[] _ (by omega) (Nat.zero_le _) ?_ (Heap.get?_push_size _ rfl) (.inl ⟨rfl, rfl⟩) fun h' tk kp => ?_⟩
  · rw [e1] at q
    rcases List.mem_cons.mp q with q | q
    · exact Nat.succ_ne_self _ q
    · have q := List.mem_singleton.mp q
      rw [← q] at hlt
      exact Nat.not_lt.mpr (Nat.le_succ _) hlt
  · rw [← hi.length]
    simp
  · obtain ⟨z, t, e2, e3⟩ := ints_get hi (show items.toList[i]? = some v by simpa using hv)
    exact ⟨z, t, e2, e3⟩
  · exact ⟨⟨_, Heap.get?_push_of_some _ (Heap.get?_push_size _ rfl), rfl, rfl⟩, (hl.push _).push _⟩
  · refine h h' tk fun b o e => ?_
    have hb := Heap.lt_size e
    refine kp b o (fun q => ?_) (fun q => ?_) (Heap.get?_push_of_some _ (Heap.get?_push_of_some _ e))
    · rw [List.mem_singleton.mp q] at hb
      exact Nat.lt_irrefl _ hb
    · rw [q, e1] at hb
      exact Nat.not_lt.mpr (Nat.le_succ _) hb
end
/-! ### min(xs, default=d) of whole numbers -/
section
variable {prog : Program} {w : World} {A : Around} {E : Value → Shared → Prop}
theorem dargs_min (a d : Value) : argsOk "min" ⟨[a], [(Str.ofString "default", d)]⟩ := by
  unfold argsOk
  kernel_rfl
/-- what is held while it goes on: nothing as yet, or the best of those that came -/
def Held_min (ns : List Int) (j : Nat) (its : Array Value) : Prop := (j = 0 ∧ its = #[]) ∨ (0 < j ∧ ∃ (m : Int) (t : Tok), its = #[.int m t, .int m t] ∧ m ∈ ns.take j ∧ ∀ y ∈ ns.take j, m ≤ y)
theorem dloop_min {R : Result → Shared → Prop} {I S : Addr} {fp wr : List Addr} {n : Nat} {Pv : Nat → Value → Prop} {St : Nat → Heap → Prop} {ns : List Int} {d : Value} (W : Walks prog w A.in1 I fp wr n Pv St) (hSf : S ∉ fp) (hn : ns.length = n)
    (hP : ∀ i v, Pv i v → ∃ (z : Int) (t : Tok), v = .int z t ∧ ns[i]? = some z) :
    ∀ (k j : Nat) (s : Shared) (its : Array Value) (c : Nat), n - j = k → j ≤ n → St j s.heap → s.heap.get? S = some { cls := .type "list", data := .seq its c } → Held_min ns j its →
    (∀ h' tk, (∀ b o, b ∉ wr → b ≠ S → s.heap.get? b = some o → h'.get? b = some o) → (ns = [] → R (.ok (.ret d)) { s with heap := h', toks := tk }) ∧ ∀ m t, m ∈ ns → (∀ y ∈ ns, m ≤ y) → R (.ok (.ret (.int m t))) { s with heap := h', toks := tk }) →
    codeAny (model prog w) A (.builtin "min.loop" ⟨[.ref I, .none, .ref S], [(Str.ofString "default", d)]⟩) R s := by
  have nSw : S ∉ wr := fun z => hSf (W.sub S z)
  have hnm : (toString "min" ++ toString ".loop" : String) = "min.loop" := by decide
  intro k
  induction k with
  | zero =>
    intro j s its c hk hj st hS hh hR
    have ej : j = n := by omega
    subst ej
    refine codeAny_builtin PySem.F.entry_min_loop ?_
    rw [Around.under_plainId PySem.F.plain_min_loop _]
    show wpAny _ A.in1 (seqItems? (.ref S) >>= _) _ _ s
    refine wpAny_bind (wpAny_seqItems hS rfl ?_)
    show wpAny _ A.in1 (tryCatch (pyNext (.ref I)) _ >>= _) _ _ s
    refine wpAny_bind (wpAny_tryCatch (W.done s _ _ st fun h' tk kp => ?_))
    have hS' := kp S _ nSw hS
    rcases hh with ⟨h0, rfl⟩ | ⟨h0, m, t, rfl, hm, hb⟩
    · refine wpAny_bind (wpAny_rule (wpAny_pure ?_))
      exact (hR h' tk fun b o nb _ e => kp b o nb e).1 (List.length_eq_zero_iff.mp (by omega))
    · show wpAny _ A.in1 (updateSeq S (fun _ => #[]) >>= _) _ _ _
      refine wpAny_bind ?_
      refine wpAny_updateSeq hS' rfl (wpAny_bind (wpAny_letGo (wpAny_pure ?_)))
      rw [List.take_of_length_le (by omega)] at hm hb
      exact (hR _ tk fun b o nb nS e => (Heap.get?_update_other _ _ (Ne.symm nS)).trans (kp b o nb e)).2 m t hm hb
  | succ k ih =>
    intro j s its c hk hj st hS hh hR
    have lt : j < n := by omega
    refine codeAny_builtin PySem.F.entry_min_loop ?_
    rw [Around.under_plainId PySem.F.plain_min_loop _]
    show wpAny _ A.in1 (seqItems? (.ref S) >>= _) _ _ s
    refine wpAny_bind (wpAny_seqItems hS rfl ?_)
    show wpAny _ A.in1 (tryCatch (pyNext (.ref I)) _ >>= _) _ _ s
    refine wpAny_bind (wpAny_tryCatch (W.item j s _ _ lt st fun v h' tk pv st' kp => ?_))
    have hS' := kp S _ nSw hS
    obtain ⟨z, tz, rfl, hz⟩ := hP j v pv
    have et : ns.take (j + 1) = ns.take j ++ [z] := by rw [List.take_add_one, hz]; rfl
    rcases hh with ⟨h0, rfl⟩ | ⟨h0, m, t, rfl, hm, hb⟩
    · show wpAny _ A.in1 (updateSeq S (fun _ => #[.int z tz, .int z tz]) >>= _) _ _ _
      refine wpAny_bind ?_
      refine wpAny_updateSeq hS' rfl ?_
      rw [hnm]
      refine wpAny_pure ⟨plainId_quiet PySem.F.plain_min_loop _, ih (j + 1) _ _ _ (by omega) lt (W.frame _ _ _ st' fun b hbf o e => (Heap.get?_update_other _ _ (fun q : S = b => hSf (by rw [q]; exact hbf))).trans e) (Heap.get?_update_self _ hS' rfl) (.inr ⟨by omega, z, tz, rfl, ?_, ?_⟩) fun h'' tk'' kp'' => ?_⟩
      · rw [et]; simp
      · subst h0
        rw [et]
        intro y hy
        simp at hy
        subst hy
        exact Int.le_refl _
      · exact hR h'' tk'' fun b o nb nS e => kp'' b o nb nS ((Heap.get?_update_other _ _ (Ne.symm nS)).trans (kp b o nb e))
    · show wpAny _ A.in1 (tryCatch (holding [.int z tz, .int z tz] (richCompare .Lt (.int z tz) (.int m t) >>= _)) _ >>= _) _ _ _
      refine wpAny_bind (wpAny_tryCatch (wpAny_holding (wpAny_bind (CmpOf.ints_lt (P := fun i v => ∃ t, v = Value.int (if i = 0 then z else m) t) (fun i => if i = 0 then z else m) (fun _ _ h => h) 0 1 _ _ _ _ _ ⟨tz, rfl⟩ ⟨t, rfl⟩ ?_))))
      refine wpAny_bind (wpAny_holding (wpAny_truthy_bool ?_))
      refine wpAny_bind (wpAny_letGo (wpAny_pure ?_))
      show wpAny _ A.in1 (if decide (z < m) = true then _ else _) _ _ _
      by_cases hzm : z < m
      · rw [if_pos (decide_eq_true hzm)]
        refine wpAny_bind ?_
        refine wpAny_updateSeq hS' rfl (wpAny_bind (wpAny_letGo ?_))
        rw [hnm]
        refine wpAny_pure ⟨plainId_quiet PySem.F.plain_min_loop _, ih (j + 1) _ _ _ (by omega) lt (W.frame _ _ _ st' fun b hbf o e => (Heap.get?_update_other _ _ (fun q : S = b => hSf (by rw [q]; exact hbf))).trans e) (Heap.get?_update_self _ hS' rfl) (.inr ⟨by omega, z, tz, rfl, ?_, ?_⟩) fun h'' tk'' kp'' => ?_⟩
        · rw [et]; simp
        · rw [et]
          intro y hy
          rcases List.mem_append.mp hy with hy | hy
          · have := hb y hy
            omega
          · simp at hy
            omega
        · exact hR h'' tk'' fun b o nb nS e => kp'' b o nb nS ((Heap.get?_update_other _ _ (Ne.symm nS)).trans (kp b o nb e))
      · rw [if_neg (by rw [decide_eq_false hzm]; decide)]
        refine wpAny_bind (wpAny_letGo ?_)
        rw [hnm]
        refine wpAny_pure ⟨plainId_quiet PySem.F.plain_min_loop _, ih (j + 1) _ _ c (by omega) lt st' hS' (.inr ⟨by omega, m, t, rfl, ?_, ?_⟩) fun h'' tk'' kp'' => ?_⟩
        · rw [et]; exact List.mem_append_left _ hm
        · rw [et]
          intro y hy
          rcases List.mem_append.mp hy with hy | hy
          · exact hb y hy
          · simp at hy
            omega
        · exact hR h'' tk'' fun b o nb nS e => kp'' b o nb nS (kp b o nb e)
theorem dcall_min {s : Shared} {l : Addr} {items : Array Value} {ns : List Int} {d : Value} {Q : Value → Shared → Prop} (hh : A.handled = none) (hl : s.heap.IsList l items) (hi : IntsAre items.toList ns)
    (h : ∀ h' tk, (∀ b o, s.heap.get? b = some o → h'.get? b = some o) → (ns = [] → Q d { s with heap := h', toks := tk }) ∧ ∀ m t, m ∈ ns → (∀ y ∈ ns, m ≤ y) → Q (.int m t) { s with heap := h', toks := tk }) :
    wpAny (model prog w) A (call (.builtin "min") [.ref l] [(Str.ofString "default", d)]) Q E s := by
  have hnm : (toString "min" ++ toString ".loop" : String) = "min.loop" := by decide
  have hlt : l < s.heap.objs.size := by obtain ⟨_, e, _⟩ := hl; exact Heap.lt_size e
  refine PyProof.Rows.kmk_tree PySem.F.kind_min PySem.F.plain_min PySem.F.entry_min (dargs_min _ _) ?_
  show wpAny _ A.in1 (Builtin.Builtins.bindParams "min" ["key", "default"] 0 ⟨[], [(Str.ofString "default", d)]⟩ >>= _) _ _ s
  refine wpAny_bind (wpAny_of_eq (show Builtin.Builtins.bindParams "min" ["key", "default"] 0 ⟨[], [(Str.ofString "default", d)]⟩ = pure [none, some d] from rfl) ?_)
  refine wpAny_bind (wpAny_pure ?_)
  refine wpAny_bind (wpAny_pyIter_list hl ?_)
  refine wpAny_bind (wpAny_newList ?_ (Nat.zero_le _))
  rw [hnm]
  have W := Walks.list (prog := prog) (w := w) (A := A.in1) hh s.heap.objs.size l (Nat.ne_of_lt hlt) items
  have e1 : (s.heap.push { cls := .type "list_iterator", data := .fields #[.ref l, .int 0 0] }).objs.size = s.heap.objs.size + 1 := Heap.size_push ..
  refine wpAny_pure ⟨plainId_quiet PySem.F.plain_min_loop _, dloop_min (ns := ns) W (fun q => ?_) ?_ (fun i v hv => ?_) items.size 0 _ #[] _ (by omega) (Nat.zero_le _) ?_ (Heap.get?_push_size _ rfl) (.inl ⟨rfl, rfl⟩) fun h' tk kp => ?_⟩
  · rw [e1] at q
    rcases List.mem_cons.mp q with q | q
    · exact Nat.succ_ne_self _ q
    · have q := List.mem_singleton.mp q
      rw [← q] at hlt
      exact Nat.not_lt.mpr (Nat.le_succ _) hlt
  · rw [← hi.length]
    simp
  · obtain ⟨z, t, e2, e3⟩ := ints_get hi (show items.toList[i]? = some v by simpa using hv)
    exact ⟨z, t, e2, e3⟩
  · exact ⟨⟨_, Heap.get?_push_of_some _ (Heap.get?_push_size _ rfl), rfl, rfl⟩, (hl.push _).push _⟩
  · refine h h' tk fun b o e => ?_
    have hb := Heap.lt_size e
    refine kp b o (fun q => ?_) (fun q => ?_) (Heap.get?_push_of_some _ (Heap.get?_push_of_some _ e))
    · rw [List.mem_singleton.mp q] at hb
      exact Nat.lt_irrefl _ hb
    · rw [q, e1] at hb
      exact Nat.not_lt.mpr (Nat.le_succ _) hb
end
/-! ### as rules -/
theorem fold_max : ∀ (ns : List Int) (d : Int), ns ≠ [] → (∀ y ∈ ns, d ≤ y) → ns.foldl max d ∈ ns ∧ ∀ y ∈ ns, y ≤ ns.foldl max d
  | [], _, h, _ => absurd rfl h
  | x :: r, d, _, hd => by
    rw [List.foldl_cons, Int.max_eq_right (hd x (List.mem_cons_self ..))]
    exact go r x
where
  go : ∀ (r : List Int) (x : Int), r.foldl max x ∈ x :: r ∧ ∀ y ∈ x :: r, y ≤ r.foldl max x
    | [], x => ⟨by simp, by simp⟩
    | z :: r, x => by
      obtain ⟨h1, h2⟩ := go r (max x z)
      rw [List.foldl_cons]
      constructor
      · rcases List.mem_cons.mp h1 with e | e
        · rw [e]
          by_cases hx : x ≤ z
          · rw [Int.max_eq_right hx]; simp
          · rw [Int.max_eq_left (by omega)]; simp
        · exact List.mem_cons_of_mem _ (List.mem_cons_of_mem _ e)
      · intro y hy
        have hm := h2 (max x z) (List.mem_cons_self ..)
        rcases List.mem_cons.mp hy with rfl | hy
        · omega
        · rcases List.mem_cons.mp hy with rfl | hy
          · omega
          · exact h2 y (List.mem_cons_of_mem _ hy)
theorem fold_min : ∀ (ns : List Int) (d : Int), ns ≠ [] → (∀ y ∈ ns, y ≤ d) → ns.foldl min d ∈ ns ∧ ∀ y ∈ ns, ns.foldl min d ≤ y
  | [], _, h, _ => absurd rfl h
  | x :: r, d, _, hd => by
    rw [List.foldl_cons, Int.min_eq_right (hd x (List.mem_cons_self ..))]
    exact go r x
where
  go : ∀ (r : List Int) (x : Int), r.foldl min x ∈ x :: r ∧ ∀ y ∈ x :: r, r.foldl min x ≤ y
    | [], x => ⟨by simp, by simp⟩
    | z :: r, x => by
      obtain ⟨h1, h2⟩ := go r (min x z)
      rw [List.foldl_cons]
      constructor
      · rcases List.mem_cons.mp h1 with e | e
        · rw [e]
          by_cases hx : x ≤ z
          · rw [Int.min_eq_left hx]; simp
          · rw [Int.min_eq_right (by omega)]; simp
        · exact List.mem_cons_of_mem _ (List.mem_cons_of_mem _ e)
      · intro y hy
        have hm := h2 (min x z) (List.mem_cons_self ..)
        rcases List.mem_cons.mp hy with rfl | hy
        · omega
        · rcases List.mem_cons.mp hy with rfl | hy
          · omega
          · exact h2 y (List.mem_cons_of_mem _ hy)
/-- max(xs, default=d), d no greater than any of xs -/
def rMaxW (K : PySem.W.Frag) : List V → List V → Hp → VK → Prop := fun vs zs H Q => ∃ (a : Addr) (ns : List Int) (d : Int), vs = [.ref a] ∧ zs = [.int d] ∧ SqL K H a (ns.map V.int) ∧ (∀ y ∈ ns, d ≤ y) ∧ Q (.int (ns.foldl max d)) H
def rMinW (K : PySem.W.Frag) : List V → List V → Hp → VK → Prop := fun vs zs H Q => ∃ (a : Addr) (ns : List Int) (d : Int), vs = [.ref a] ∧ zs = [.int d] ∧ SqL K H a (ns.map V.int) ∧ (∀ y ∈ ns, y ≤ d) ∧ Q (.int (ns.foldl min d)) H
theorem cr_maxW {X : Cx} (hc : X.calm = true) : CallRK X (.builtin "max") ["default"] (rMaxW X.K) := by
  intro pins s σ H vs zs us ws Q I r rz h
  obtain ⟨a, ns, d, rfl, rfl, hs, hd, q⟩ := h
  obtain ⟨its, rv, hl, _⟩ := I.list hs
  obtain ⟨u, rfl, ru⟩ := Vals.one rz
  obtain ⟨td, rfl⟩ := ru
  rw [Vals.ref1 r]
  refine dcall_max (I.ok.hd hc) hl.isList (by simpa using rv.ints) fun h' tk hk => ⟨fun e => ?_, fun m t hm hb => ?_⟩
  · subst e
    exact ⟨.int d, H, I.kept hk, ⟨_, rfl⟩, q⟩
  · have hne : ns ≠ [] := fun e => by rw [e] at hm; simp at hm
    obtain ⟨h1, h2⟩ := fold_max ns d hne hd
    have e : m = ns.foldl max d := Int.le_antisymm (h2 m hm) (hb _ h1)
    exact ⟨.int m, H, I.kept hk, ⟨_, rfl⟩, by rw [e]; exact q⟩
theorem cr_minW {X : Cx} (hc : X.calm = true) : CallRK X (.builtin "min") ["default"] (rMinW X.K) := by
  intro pins s σ H vs zs us ws Q I r rz h
  obtain ⟨a, ns, d, rfl, rfl, hs, hd, q⟩ := h
  obtain ⟨its, rv, hl, _⟩ := I.list hs
  obtain ⟨u, rfl, ru⟩ := Vals.one rz
  obtain ⟨td, rfl⟩ := ru
  rw [Vals.ref1 r]
  refine dcall_min (I.ok.hd hc) hl.isList (by simpa using rv.ints) fun h' tk hk => ⟨fun e => ?_, fun m t hm hb => ?_⟩
  · subst e
    exact ⟨.int d, H, I.kept hk, ⟨_, rfl⟩, q⟩
  · have hne : ns ≠ [] := fun e => by rw [e] at hm; simp at hm
    obtain ⟨h1, h2⟩ := fold_min ns d hne hd
    have e : m = ns.foldl min d := Int.le_antisymm (hb _ h1) (h2 m hm)
    exact ⟨.int m, H, I.kept hk, ⟨_, rfl⟩, by rw [e]; exact q⟩
end Lag

set_option maxRecDepth 100000
set_option maxHeartbeats 4000000
namespace Lag
open PySem PySem.Spec PyProof.Rows L2
abbrev sSumOf : Stmt := topS 31
abbrev sProdOf : Stmt := topS 32
abbrev sMostOf : Stmt := topS 33
abbrev sLeastOf : Stmt := topS 34
abbrev sFirstOf : Stmt := topS 35
abbrev sOneOf : Stmt := topS 36
/-! ### a gate's worth, of the worths that come -/
def kindVal (k : Str) (l : List Int) : Int :=
  if k = "sum" then l.sum % 97 else if k = "times" then l.foldl (fun a b => a * b % 97) 1 else if k = "most" then l.foldl max 0 else if k = "least" then l.foldl min 96
  else if k = "one" then (if l.foldl max 0 > 0 then 1 else 0) else l.headD 0
def WOk1 (l : List Int) : Prop := ∀ y ∈ l, 0 ≤ y ∧ y ≤ 96
theorem kv_sum (l : List Int) : kindVal "sum" l = l.sum % 97 := by unfold kindVal; rw [if_pos rfl]
theorem kv_times (l : List Int) : kindVal "times" l = l.foldl (fun a b => a * b % 97) 1 := by
  unfold kindVal
  rw [if_neg (by decide +kernel), if_pos rfl]
theorem kv_most (l : List Int) : kindVal "most" l = l.foldl max 0 := by
  unfold kindVal
  rw [if_neg (by decide +kernel), if_neg (by decide +kernel), if_pos rfl]
theorem kv_least (l : List Int) : kindVal "least" l = l.foldl min 96 := by
  unfold kindVal
  rw [if_neg (by decide +kernel), if_neg (by decide +kernel), if_neg (by decide +kernel), if_pos rfl]
theorem kv_one (l : List Int) : kindVal "one" l = if l.foldl max 0 > 0 then 1 else 0 := by
  unfold kindVal
  rw [if_neg (by decide +kernel), if_neg (by decide +kernel), if_neg (by decide +kernel), if_neg (by decide +kernel), if_pos rfl]
theorem kv_first (l : List Int) : kindVal "first" l = l.headD 0 := by
  unfold kindVal
  rw [if_neg (by decide +kernel), if_neg (by decide +kernel), if_neg (by decide +kernel), if_neg (by decide +kernel), if_neg (by decide +kernel)]
theorem kv_out (l : List Int) : kindVal "out" l = l.headD 0 := by
  unfold kindVal
  rw [if_neg (by decide +kernel), if_neg (by decide +kernel), if_neg (by decide +kernel), if_neg (by decide +kernel), if_neg (by decide +kernel)]
theorem prod_bound : ∀ (l : List Int) (a : Int), 0 ≤ a ∧ a ≤ 96 → 0 ≤ l.foldl (fun a b => a * b % 97) a ∧ l.foldl (fun a b => a * b % 97) a ≤ 96
  | [], a, h => h
  | x :: l, a, h => by
    rw [List.foldl_cons]
    refine prod_bound l _ ⟨Int.emod_nonneg _ (by decide), ?_⟩
    have := Int.emod_lt_of_pos (a * x) (show (0 : Int) < 97 by decide)
    omega
theorem max_bound : ∀ (l : List Int) (a : Int), WOk1 l → 0 ≤ a ∧ a ≤ 96 → 0 ≤ l.foldl max a ∧ l.foldl max a ≤ 96
  | [], a, _, h => h
  | x :: l, a, hl, h => by
    rw [List.foldl_cons]
    have hx := hl x (List.mem_cons_self ..)
    exact max_bound l _ (fun y hy => hl y (List.mem_cons_of_mem _ hy)) ⟨by omega, by omega⟩
theorem min_bound : ∀ (l : List Int) (a : Int), WOk1 l → 0 ≤ a ∧ a ≤ 96 → 0 ≤ l.foldl min a ∧ l.foldl min a ≤ 96
  | [], a, _, h => h
  | x :: l, a, hl, h => by
    rw [List.foldl_cons]
    have hx := hl x (List.mem_cons_self ..)
    exact min_bound l _ (fun y hy => hl y (List.mem_cons_of_mem _ hy)) ⟨by omega, by omega⟩
theorem kv_bound (k : Str) {l : List Int} (h : WOk1 l) : 0 ≤ kindVal k l ∧ kindVal k l ≤ 96 := by
  unfold kindVal
  split
  · have h1 := Int.emod_nonneg l.sum (show (97 : Int) ≠ 0 by decide)
    have h2 := Int.emod_lt_of_pos l.sum (show (0 : Int) < 97 by decide)
    omega
  split
  · exact prod_bound l 1 (by decide)
  split
  · exact max_bound l 0 h (by decide)
  split
  · exact min_bound l 96 h (by decide)
  split
  · split <;> decide
  · cases l with
    | nil => decide
    | cons x l => exact h x (List.mem_cons_self ..)
def spR (K : PySem.W.Frag) (k : Str) : Sp := fun vs H Q _ => ∃ (a : Addr) (ns : List Int), vs = [.ref a] ∧ SqL K H a (ns.map V.int) ∧ WOk1 ns ∧ (k = "out" ∨ k = "first" → ns ≠ []) ∧ Q (.int (kindVal k ns)) H
section
variable {P : Program} {w : World} {K : PySem.W.Frag} {mg : Str → Option Value} {base : Heap}
theorem int_at {l : List Int} {i : Nat} {x : V} (h : (l.map V.int)[i]? = some x) : ∃ z, l[i]? = some z ∧ x = V.int z := by
  rw [List.getElem?_map] at h
  cases e : l[i]? with
  | none =>
    rw [e] at h
    cases h
  | some z =>
    rw [e] at h
    exact ⟨z, rfl, (Option.some.inj h).symm⟩
theorem scSumOf : FnScope ["coming"] ["coming"] (defScope sSumOf) := ⟨rfl, rfl, rfl, by decide +kernel, rfl, by decide +kernel, by decide +kernel⟩
theorem ok_sumOf {f : Addr} {fd : FuncData} (F : Fun K "sum_of" "sum_of" sSumOf f fd) (ms : mg "sum" = none) (md : ∃ t, mg "DIVISOR" = some (.int 97 t)) : FnOk P w K mg base CX0 1 f fd ["coming"] (spR K "sum") := by
  obtain ⟨td, hd⟩ := md
  refine F.ok scSumOf (fun vs H Q E h => ?_) (fun cdv A outer s H vs Q E hr h => ?_)
  · obtain ⟨a, ns, rfl, _⟩ := h
    rfl
  · obtain ⟨a, ns, rfl, sq, _, _, q⟩ := h
    refine ⟨_, pss_one <| ps_ret <| pe_op op_mod (pe_callB (cr_sum rfl) (by rfl) ms (by decide +kernel) (pa_cons (pv 0) pa_nil)) (pe_glob (v := .int 97) (by rfl) hd ⟨_, rfl⟩), ?_⟩
    refine ⟨_, rfl, a, ns, rfl, sq, _, _, rfl, rfl, (by show (0 : Int) < 97; decide), ?_⟩
    rw [kv_sum] at q
    exact q
theorem scProdOf : FnScope ["coming", "told", "worth"] ["coming"] (defScope sProdOf) := ⟨rfl, rfl, rfl, by decide +kernel, rfl, by decide +kernel, by decide +kernel⟩
theorem ok_prodOf {f : Addr} {fd : FuncData} (F : Fun K "product_of" "product_of" sProdOf f fd) (md : ∃ t, mg "DIVISOR" = some (.int 97 t)) : FnOk P w K mg base CX0 1 f fd ["coming"] (spR K "times") := by
  obtain ⟨td, hd⟩ := md
  refine F.ok scProdOf (fun vs H Q E h => ?_) (fun cdv A outer s H vs Q E hr h => ?_)
  · obtain ⟨a, ns, rfl, _⟩ := h
    rfl
  · obtain ⟨a, ns, rfl, sq, hw, _, q⟩ := h
    have nd := scProdOf.nd
    refine ⟨_, pss_cons (ps_set (i := 1) nd rfl (.inl rfl) pe_int) <| pss_cons (ps_for PassesOwn.never rfl (pi_list (pv 0)) (pg_name (i := 2) nd rfl (.inl rfl)) <|
      pss_one <| ps_set (i := 1) nd rfl (.inl rfl) <| pe_op op_mod (pe_op op_mul (pv 1) (pv 2)) (pe_glob (v := .int 97) (by rfl) hd ⟨_, rfl⟩)) <| pss_one <| ps_ret (pv 1), ?_⟩
    refine ⟨_, rfl, a, rfl, ⟨_, sq⟩, for_list (K := K) (a := a) (xs := ns.map V.int) (fun i σ H' => ∃ y, σ = [some (.ref a), some (.int ((ns.take i).foldl (fun a b => a * b % 97) 1)), y] ∧ H' = H) ⟨_, rfl, rfl⟩ (fun i σ H' _ ⟨_, _, e⟩ => by rw [e]; exact sq) ?_ ?_⟩
    · rintro i x σ H' hx ⟨y, rfl, rfl⟩
      obtain ⟨z, hz, rfl⟩ := int_at hx
      have hb := prod_bound (ns.take i) 1 (by decide)
      refine ⟨_, rfl, _, rfl, _, _, rfl, rfl, .inl ⟨by omega, by omega⟩, _, _, rfl, rfl, (by show (0 : Int) < 97; decide), some (.int z), ?_, rfl⟩
      rw [List.take_add_one, hz, List.foldl_append]
      rfl
    · rintro σ H' ⟨y, rfl, rfl⟩
      rw [List.length_map, List.take_length]
      rw [kv_times] at q
      exact ⟨_, rfl, q⟩
theorem scMostOf : FnScope ["coming"] ["coming"] (defScope sMostOf) := ⟨rfl, rfl, rfl, by decide +kernel, rfl, by decide +kernel, by decide +kernel⟩
theorem ok_mostOf {f : Addr} {fd : FuncData} (F : Fun K "most_of" "most_of" sMostOf f fd) (mm : mg "max" = none) : FnOk P w K mg base CX0 1 f fd ["coming"] (spR K "most") := by
  refine F.ok scMostOf (fun vs H Q E h => ?_) (fun cdv A outer s H vs Q E hr h => ?_)
  · obtain ⟨a, ns, rfl, _⟩ := h
    rfl
  · obtain ⟨a, ns, rfl, sq, hw, _, q⟩ := h
    refine ⟨_, pss_one <| ps_ret <| pe_callBK (cr_maxW rfl) (by rfl) mm (by decide +kernel) (pa_cons (pv 0) pa_nil) (pk_cons pe_int pk_nil), ?_⟩
    rw [kv_most] at q
    exact ⟨_, rfl, a, ns, 0, rfl, rfl, sq, fun y hy => (hw y hy).1, q⟩
theorem scLeastOf : FnScope ["coming"] ["coming"] (defScope sLeastOf) := ⟨rfl, rfl, rfl, by decide +kernel, rfl, by decide +kernel, by decide +kernel⟩
theorem ok_leastOf {f : Addr} {fd : FuncData} (F : Fun K "least_of" "least_of" sLeastOf f fd) (mm : mg "min" = none) (mw : ∃ t, mg "GREATEST_WORTH" = some (.int 96 t)) : FnOk P w K mg base CX0 1 f fd ["coming"] (spR K "least") := by
  obtain ⟨td, hd⟩ := mw
  refine F.ok scLeastOf (fun vs H Q E h => ?_) (fun cdv A outer s H vs Q E hr h => ?_)
  · obtain ⟨a, ns, rfl, _⟩ := h
    rfl
  · obtain ⟨a, ns, rfl, sq, hw, _, q⟩ := h
    refine ⟨_, pss_one <| ps_ret <| pe_callBK (cr_minW rfl) (by rfl) mm (by decide +kernel) (pa_cons (pv 0) pa_nil) (pk_cons (pe_glob (v := .int 96) (by rfl) hd ⟨_, rfl⟩) pk_nil), ?_⟩
    rw [kv_least] at q
    exact ⟨_, rfl, a, ns, 96, rfl, rfl, sq, fun y hy => (hw y hy).2, q⟩
theorem scFirstOf : FnScope ["coming"] ["coming"] (defScope sFirstOf) := ⟨rfl, rfl, rfl, by decide +kernel, rfl, by decide +kernel, by decide +kernel⟩
theorem ok_firstOf {f : Addr} {fd : FuncData} {k : Str} (hk : k = "out" ∨ k = "first") (F : Fun K "first_of" "first_of" sFirstOf f fd) : FnOk P w K mg base CX0 1 f fd ["coming"] (spR K k) := by
  refine F.ok scFirstOf (fun vs H Q E h => ?_) (fun cdv A outer s H vs Q E hr h => ?_)
  · obtain ⟨a, ns, rfl, _⟩ := h
    rfl
  · obtain ⟨a, ns, rfl, sq, hw, hne, q⟩ := h
    refine ⟨_, pss_one <| ps_ret <| pe_ix ix_list (pv 0) pe_int (fun _ _ => rfl), ?_⟩
    have e : kindVal k ns = ns.headD 0 := by
      rcases hk with rfl | rfl
      · exact kv_out ns
      · exact kv_first ns
    cases ns with
    | nil => exact absurd rfl (hne hk)
    | cons x r =>
      rw [e] at q
      exact ⟨_, rfl, a, _, 0, .int x, rfl, rfl, sq, atI_nat (j := 0) rfl, q⟩
theorem scOneOf : FnScope ["coming"] ["coming"] (defScope sOneOf) := ⟨rfl, rfl, rfl, by decide +kernel, rfl, by decide +kernel, by decide +kernel⟩
theorem ok_oneOf {f : Addr} {fd : FuncData} (F : Fun K "one_of" "one_of" sOneOf f fd) (mm : mg "max" = none) : FnOk P w K mg base CX0 1 f fd ["coming"] (spR K "one") := by
  refine F.ok scOneOf (fun vs H Q E h => ?_) (fun cdv A outer s H vs Q E hr h => ?_)
  · obtain ⟨a, ns, rfl, _⟩ := h
    rfl
  · obtain ⟨a, ns, rfl, sq, hw, _, q⟩ := h
    refine ⟨_, pss_one <| ps_ret <| pe_ifExp (pt_cmpR op_gt (pe_callBK (cr_maxW rfl) (by rfl) mm (by decide +kernel) (pa_cons (pv 0) pa_nil) (pk_cons pe_int pk_nil)) pe_int (nomark _)) pe_int pe_int, ?_⟩
    rw [kv_one] at q
    refine ⟨_, rfl, a, ns, 0, rfl, rfl, sq, fun y hy => (hw y hy).1, _, _, rfl, rfl, _, rfl, ite2 (fun e => ?_) (fun e => ?_)⟩
    · rw [if_pos (of_decide_eq_true e)] at q
      exact q
    · rw [if_neg (fun z => e (decide_eq_true z))] at q
      exact q
end
end Lag

set_option maxRecDepth 100000
set_option maxHeartbeats 8000000
namespace Lag
open PySem PySem.Spec PyProof.Rows L2
abbrev sWorths : Stmt := topS 38
abbrev sComing : Stmt := topS 39
abbrev sWireWorth : Stmt := topS 40
abbrev sChkRow : Stmt := topS 41
/-! ### worths in a beat: the mathematics -/
/-- a wire's worth, of the gates' worths ts -/
def wv (ts : List Int) (x : Wr) : Int := match x.2.2 with
  | r :: _ => r
  | [] => ts.getD x.1 0
def cmg (ws : List Wr) (ts : List Int) (g : Nat) : List Int := (ws.filter fun x => x.2.1 == g).map (wv ts)
/-- ts are the gates' worths where rs is put in -/
structure IsW (gs : List Gt) (ws : List Wr) (rs ts : List Int) : Prop where
  len : ts.length = gs.length
  put : ∀ (i g : Nat) (r : Int), (plc gs "in" gs.length)[i]? = some g → rs[i]? = some r → ts.getD g 0 = r
  eq : ∀ g, g < gs.length → kindAt gs g ≠ "in" → ts.getD g 0 = kindVal (kindAt gs g) (cmg ws ts g)
theorem mem_plc {gs : List Gt} {k : Str} {n g : Nat} : g ∈ plc gs k n ↔ g < n ∧ kindAt gs g = k := by
  unfold plc
  rw [List.mem_filter, List.mem_range]
  simp
theorem wv_congr {ts ts' : List Int} {x : Wr} (h : x.2.2 = [] → ts.getD x.1 0 = ts'.getD x.1 0) : wv ts x = wv ts' x := by
  unfold wv
  cases e : x.2.2 with
  | nil => exact h e
  | cons r l => rfl
theorem IsW.unique {gs : List Gt} {ws : List Wr} {rs ts ts' : List Int} (N : NetOk gs ws) (hr : rs.length = (plc gs "in" gs.length).length) (h : IsW gs ws rs ts) (h' : IsW gs ws rs ts') : ts = ts' := by
  obtain ⟨ρ, hρ⟩ := N.rank
  have all : ∀ r g, g < gs.length → ρ g = r → ts.getD g 0 = ts'.getD g 0 := by
    intro r
    induction r using Nat.strongRecOn with
    | ind r ih =>
      intro g hg hrg
      by_cases hk : kindAt gs g = "in"
      · have hm : g ∈ plc gs "in" gs.length := mem_plc.mpr ⟨hg, hk⟩
        obtain ⟨i, hi⟩ := List.getElem?_of_mem hm
        have hil : i < rs.length := by
          rw [hr]
          exact (List.getElem?_eq_some_iff.mp hi).1
        rw [h.put i g _ hi (List.getElem?_eq_getElem hil), h'.put i g _ hi (List.getElem?_eq_getElem hil)]
      · rw [h.eq g hg hk, h'.eq g hg hk]
        have e : cmg ws ts g = cmg ws ts' g := by
          unfold cmg
          refine List.map_congr_left fun x hx => ?_
          rw [List.mem_filter] at hx
          have hxg : x.2.1 = g := by simpa using hx.2
          refine wv_congr fun hb => ?_
          have := hρ x hx.1 hb
          exact ih (ρ x.1) (by rw [← hrg, ← hxg]; exact this) x.1 (N.wok x hx.1).s rfl
        rw [e]
  refine List.ext_getElem? fun i => ?_
  by_cases hi : i < gs.length
  · have h1 : i < ts.length := by rw [h.len]; exact hi
    have h2 : i < ts'.length := by rw [h'.len]; exact hi
    have e := all _ i hi rfl
    rw [List.getD_eq_getElem?_getD, List.getD_eq_getElem?_getD, List.getElem?_eq_getElem h1, List.getElem?_eq_getElem h2] at e
    rw [List.getElem?_eq_getElem h1, List.getElem?_eq_getElem h2]
    exact congrArg some e
  · rw [List.getElem?_eq_none (by rw [h.len]; omega), List.getElem?_eq_none (by rw [h'.len]; omega)]
theorem getD_set {ts : List Int} {g i : Nat} {z : Int} (hg : g < ts.length) : (ts.set g z).getD i 0 = if i = g then z else ts.getD i 0 := by
  rw [List.getD_eq_getElem?_getD, List.getD_eq_getElem?_getD, List.getElem?_set]
  by_cases e : g = i
  · subst e
    rw [if_pos rfl, if_pos rfl, if_pos hg]
    rfl
  · rw [if_neg e, if_neg (fun z => e z.symm)]
theorem wok_getD {ts : List Int} (h : WOk1 ts) (i : Nat) : 0 ≤ ts.getD i 0 ∧ ts.getD i 0 ≤ 96 := by
  rw [List.getD_eq_getElem?_getD]
  cases e : ts[i]? with
  | none => decide
  | some z => exact h z (List.mem_of_getElem? e)
theorem wv_bound {gs : List Gt} {ws : List Wr} {ts : List Int} (N : NetOk gs ws) (h : WOk1 ts) {x : Wr} (hx : x ∈ ws) : 0 ≤ wv ts x ∧ wv ts x ≤ 96 := by
  have W := N.wok x hx
  unfold wv
  cases e : x.2.2 with
  | nil => exact wok_getD h x.1
  | cons r l => exact W.r r (by rw [e]; exact List.mem_cons_self ..)
theorem cmg_bound {gs : List Gt} {ws : List Wr} {ts : List Int} (N : NetOk gs ws) (h : WOk1 ts) (g : Nat) : WOk1 (cmg ws ts g) := by
  intro y hy
  obtain ⟨x, hx, rfl⟩ := List.mem_map.mp hy
  exact wv_bound N h (List.mem_filter.mp hx).1
theorem cmg_ne {gs : List Gt} {ws : List Wr} {ts : List Int} (N : NetOk gs ws) {g : Nat} (hg : g < gs.length) (hk : kindAt gs g = "out" ∨ kindAt gs g = "first") : cmg ws ts g ≠ [] := by
  have hp : 1 ≤ cnt ws g := by
    rcases hk with hk | hk
    · have := N.one g hg hk
      omega
    · exact N.some g hg hk
  intro z
  have hl := congrArg List.length z
  unfold cmg at hl
  rw [List.length_map, List.length_nil] at hl
  unfold cnt at hp
  rw [List.countP_eq_length_filter, hl] at hp
  omega
/-! ### promises -/
def spWireWorth (K : PySem.W.Frag) : Sp := fun vs H Q _ => ∃ (v : V) (x : Wr) (lt : Addr) (ts : List Int), vs = [v, .ref lt] ∧ WireV K H v x ∧ SqL K H lt (ts.map V.int) ∧ x.1 < ts.length ∧ Q (.int (wv ts x)) H
def spComing (K : PySem.W.Frag) : Sp := fun vs H Q _ => ∃ (g : Nat) (lw lt : Addr) (ws : List Wr) (ts : List Int), vs = [.int (g : Nat), .ref lw, .ref lt] ∧ RW K H lw ws ∧ SqL K H lt (ts.map V.int) ∧ (∀ x ∈ ws, x.1 < ts.length) ∧ ws.length ≤ 1000 ∧
  ∀ p H', H p = none → Same H H' → H' p = some (.lst ((cmg ws ts g).map V.int)) → Q (.ref p) H'
def spChkRow (K : PySem.W.Frag) (C : Addr) : Sp := fun vs H Q _ => ∃ (p ng nw lr : Addr) (gs : List Gt) (ws : List Wr) (rs : List Int), vs = [.ref p, .ref lr] ∧ NetAt K C H p ng nw gs ws ∧ gs.length ≤ 1000 ∧ SqL K H lr (rs.map V.int) ∧ rs.length = (plc gs "in" gs.length).length ∧ WOk1 rs ∧ ∀ H', Same H H' → Q .non H'
def spWorths (K : PySem.W.Frag) (C : Addr) : Sp := fun vs H Q _ => ∃ (p ng nw lr : Addr) (gs : List Gt) (ws : List Wr) (rs : List Int), vs = [.ref p, .ref lr] ∧ NetAt K C H p ng nw gs ws ∧ NetOk gs ws ∧ SqL K H lr (rs.map V.int) ∧ rs.length = (plc gs "in" gs.length).length ∧ WOk1 rs ∧
  ∀ l H' ts, H l = none → Same H H' → IsW gs ws rs ts → WOk1 ts → H' l = some (.lst (ts.map V.int)) → Q (.ref l) H'
section
variable {P : Program} {w : World} {K : PySem.W.Frag} {mg : Str → Option Value} {base : Heap}
theorem scWireWorth : FnScope ["wire", "told", "start", "end", "held"] ["wire", "told"] (defScope sWireWorth) := ⟨rfl, rfl, rfl, by decide +kernel, rfl, by decide +kernel, by decide +kernel⟩
abbrev DWireWorth (P : Program) (w : World) (K : PySem.W.Frag) (mg : Str → Option Value) (base : Heap) := Df P w K mg base 1 "wire_worth" ["wire", "told"] (spWireWorth K)
theorem ok_wireWorth {f : Addr} {fd : FuncData} (F : Fun K "wire_worth" "wire_worth" sWireWorth f fd) (hm : mg "wire_worth" = some (.ref f)) (B : Bt mg) : DWireWorth P w K mg base f fd := by
  refine ⟨?_, hm, F.kp, F.binds fun _ _ _ _ _ _ us hl => match us, hl with | [_, _], _ => rfl⟩
  refine F.ok scWireWorth (fun vs H Q E h => ?_) (fun cdv A outer s H vs Q E hr h => ?_)
  · obtain ⟨v, x, lt, ts, rfl, _⟩ := h
    rfl
  · obtain ⟨v, x, lt, ts, rfl, ⟨a, b, rfl, sq1, sq2⟩, st, hx, q⟩ := h
    have nd := scWireWorth.nd
    refine ⟨_, pss_cons (ps_asg (pv 0) (pg_tup (by rfl) (pgs_cons (pg_name (i := 2) nd rfl (.inl rfl)) (pgs_cons (pg_name (i := 3) nd rfl (.inl rfl)) (pgs_cons (pg_name (i := 4) nd rfl (.inl rfl)) pgs_nil))))) <|
      pss_one <| ps_ret <| pe_ifExp (pt_cmpR op_gt (pe_callB call_len_seq (by rfl) B.len PySem.boot_len (pa_cons (pv 4) pa_nil)) pe_int (nomark _)) (pe_ix ix_tup (pv 4) pe_int (fun _ _ => rfl)) (pe_ix ix_list (pv 1) (pv 2) (fun _ _ => rfl)), ?_⟩
    refine ⟨_, rfl, a, _, rfl, sq1, rfl, _, _, rfl, _, _, rfl, _, _, rfl, rfl, ?_⟩
    refine ⟨_, rfl, b, _, rfl, .inr sq2, _, _, rfl, rfl, _, rfl, ite2 (fun e => ?_) (fun e => ?_)⟩
    · cases er : x.2.2 with
      | nil =>
        rw [er] at e
        exact absurd (of_decide_eq_true e) (by decide)
      | cons r l =>
        rw [er] at sq2
        have ew : wv ts x = r := by unfold wv; rw [er]
        rw [ew] at q
        exact ⟨_, rfl, b, _, 0, .int r, rfl, rfl, sq2, atI_nat (j := 0) rfl, q⟩
    · have er : x.2.2 = [] := by
        cases er : x.2.2 with
        | nil => rfl
        | cons r l =>
          rw [er] at e
          exfalso
          apply e
          refine decide_eq_true ?_
          rw [List.length_map, List.length_cons]
          omega
      have ew : wv ts x = ts.getD x.1 0 := by unfold wv; rw [er]
      rw [ew, List.getD_eq_getElem?_getD, List.getElem?_eq_getElem hx] at q
      exact ⟨_, rfl, _, rfl, lt, _, _, .int (ts[x.1]'hx), rfl, rfl, st, atI_nat (by rw [List.getElem?_map, List.getElem?_eq_getElem hx]; rfl), q⟩
abbrev nComing : List Str := ["gate", "wires", "told", "wire"]
theorem scComing : FnScope nComing ["gate", "wires", "told"] (defScope sComing) := ⟨rfl, rfl, rfl, by decide +kernel, rfl, by decide +kernel, by decide +kernel⟩
abbrev DComing (P : Program) (w : World) (K : PySem.W.Frag) (mg : Str → Option Value) (base : Heap) := Df P w K mg base 2 "coming_to" ["gate", "wires", "told"] (spComing K)
theorem cmg_take {ws : List Wr} {ts : List Int} {g i : Nat} {x : Wr} (h : ws[i]? = some x) : cmg (ws.take (i + 1)) ts g = if x.2.1 = g then cmg (ws.take i) ts g ++ [wv ts x] else cmg (ws.take i) ts g := by
  unfold cmg
  rw [List.take_add_one, h]
  show ((ws.take i ++ [x]).filter _).map _ = _
  rw [List.filter_append, List.filter_cons]
  by_cases e : x.2.1 = g
  · rw [if_pos e, if_pos (by simpa using e), List.map_append]
    rfl
  · rw [if_neg e, if_neg (by simpa using e), List.filter_nil, List.append_nil]
theorem cmg_len (ws : List Wr) (ts : List Int) (g : Nat) : (cmg ws ts g).length ≤ ws.length := by
  unfold cmg
  rw [List.length_map]
  exact List.length_filter_le _ _
theorem ok_coming {f fW : Addr} {fd fdW : FuncData} (F : Fun K "coming_to" "coming_to" sComing f fd) (hm : mg "coming_to" = some (.ref f)) (DW : DWireWorth P w K mg base fW fdW) : DComing P w K mg base f fd := by
  refine ⟨?_, hm, F.kp, F.binds fun _ _ _ _ _ _ us hl => match us, hl with | [_, _, _], _ => rfl⟩
  refine F.ok scComing (fun vs H Q E h => ?_) (fun cdv A outer s H vs Q E hr h => ?_)
  · obtain ⟨g, lw, lt, ws, ts, rfl, _⟩ := h
    rfl
  · obtain ⟨g, lw, lt, ws, ts, rfl, ⟨vw, sw, wa⟩, st, hx, hl, q⟩ := h
    have nd := scComing.nd
    refine ⟨_, pss_one <| ps_ret <| pe_lc (own := [("wire", 3)]) (g := gName 3) (tt := tTest (tOp rEq (tOp (rIxT K) (tVar 3) (tC (.int 1))) (tVar 0))) (te := tCall (spWireWorth K) [] E0 (tCons (tVar 3) (tCons (tVar 2) tNil))) rfl nd
      (pi_list (pv 1)) (blkOk_by (N := nComing) (sc := defScope sComing) (own := [("wire", 3)]) (by decide +kernel)) (fun _ _ _ _ _ => pg_name (i := 3) nd rfl (.inl rfl))
      (fun _ _ _ _ _ => pts_one (pt_cmpR op_eq (pe_ix ix_tup (pv 3) pe_int (fun _ _ => rfl)) (pv 0) (nomark _))) (fun _ _ _ _ _ => pe_call DW.ok hr (by rfl) DW.mg DW.kp DW.bd .nil pass0 (pa_cons (pv 3) (pa_cons (pv 2) pa_nil))), ?_⟩
    have hlw : vw.length = ws.length := wa.1
    refine ⟨_, rfl, lw, rfl, ⟨_, sw⟩, fun D hD => ?_⟩
    refine lc_list (K := K) (a := lw) (xs := vw) (fun i Hc => Hc D = some (.lst ((cmg (ws.take i) ts g).map V.int)) ∧ Same H Hc) ⟨upd_same, same_new hD⟩ (fun i Hc _ ⟨_, sm⟩ => sm.seq sw) ?_ ?_
    · rintro i v Hc hv ⟨hc, sm⟩
      obtain ⟨x, hxi, wx⟩ := wa.get hv
      have hwx := wx
      obtain ⟨a, b, rfl, sq1, sq2⟩ := wx
      have hlen : ((cmg (ws.take i) ts g).map V.int).length ≤ 1000 := by
        rw [List.length_map]
        have := cmg_len (ws.take i) ts g
        rw [List.length_take] at this
        omega
      refine ⟨rfl, ?_⟩
      refine ⟨_, rfl, a, _, 1, _, rfl, rfl, (TK.same sm).seq sq1, atI_nat (j := 1) rfl, _, rfl, rfl, _, rfl, ite2 (fun e => ?_) (fun e => ?_)⟩
      · have hg : x.2.1 = g := by
          have := V.int.inj (of_decide_eq_true e)
          omega
        refine ⟨_, rfl, _, rfl, _, x, lt, ts, rfl, hwx.tk (TK.same sm), sm.seq st, hx x (List.mem_of_getElem? hxi), _, hc, Nat.lt_of_le_of_lt hlen (small1000 (Nat.le_refl _)), ?_, same_mut sm hD⟩
        rw [upd_same, cmg_take hxi, if_pos hg, List.map_append]
        rfl
      · have hg : ¬ x.2.1 = g := fun z => e (decide_eq_true (by rw [z]))
        refine ⟨?_, sm⟩
        rw [cmg_take hxi, if_neg hg]
        exact hc
    · rintro Hc ⟨hc, sm⟩
      rw [hlw, List.take_length] at hc
      exact q D Hc hD sm hc
end
end Lag

set_option maxRecDepth 100000
set_option maxHeartbeats 8000000
namespace Lag
open PySem PySem.Spec PyProof.Rows L2
/-- a call of the def that a slot holds, told with it -/
theorem pe_callD {X : Cx} {k i : Nat} {x : Str} {p pos : Pos} {e : Expr} {es : List Expr} {t : TA} (hr : Room k X.A) (hN : X.N[i]? = some x) (hv : Vis X.env.scope x) (ha : PA X (e :: es) t)
    (hdb : (x == ("__debug__" : Str)) = false := by decide) (hcd : (x == ("__classdict__" : Str)) = false := by decide)
    (he : starEach (e :: es) X.env = (false, eval e X.env) :: starEach es X.env := by rfl) (hpl : (backTo pos (starEach es X.env)).any (·.1) = false := by rfl) :
    PE X (.Call (.Name x p) (e :: es) [] pos) (fun σ H Q => ∃ f fd ps sp, FnOk X.prog X.w X.K X.mg X.base CX0 k f fd ps sp ∧ PySem.W.keepIn X.K (.ref f) = true ∧ Binds X.K fd ps [] ∧ tCallL i f sp [] E0 t σ H Q) := by
  refine ⟨fun pins s σ H Q I h => ?_⟩
  obtain ⟨f, fd, ps, sp, F, hk, hb, h⟩ := h
  exact (pe_callL F hr hN hv hk hb .nil pass0 ha hdb hcd he hpl).run pins s σ H Q I h
/-- the rules by their kinds -/
structure Rl (P : Program) (w : World) (K : PySem.W.Frag) (mg : Str → Option Value) (base : Heap) (aR : Addr) : Prop where
  mR : mg "RULES" = some (.ref aR)
  kd : ∀ k ∈ kinds, k ≠ "in" → ∃ f fd, KDct K w aR k (.ref f) ∧ FnOk P w K mg base CX0 1 f fd ["coming"] (spR K k) ∧ PySem.W.keepIn K (.ref f) = true ∧ Binds K fd ["coming"] []
theorem rs_all {K : PySem.W.Frag} {H : Hp} (b : Bool) : True := trivial
section
variable {P : Program} {w : World} {K : PySem.W.Frag} {mg : Str → Option Value} {base : Heap}
/-! ### check_row -/
abbrev nChkRow : List Str := ["net", "row", "worth"]
theorem scChkRow : FnScope nChkRow ["net", "row"] (defScope sChkRow) := ⟨rfl, rfl, rfl, by decide +kernel, rfl, by decide +kernel, by decide +kernel⟩
abbrev DChkRow (P : Program) (w : World) (K : PySem.W.Frag) (mg : Str → Option Value) (base : Heap) (C : Addr) := Df P w K mg base 4 "check_row" ["net", "row"] (spChkRow K C)
theorem ok_chkRow {f fW fN C : Addr} {fd fdW fdN : FuncData} (F : Fun K "check_row" "check_row" sChkRow f fd) (hm : mg "check_row" = some (.ref f)) (B : Bt mg) (T : NT K mg C) (DW : DWorth P w K mg base fW fdW) (ins : FnOk P w K mg base CX0 2 fN fdN ["self"] (spPorts K C "in")) (mN : Meth K C "ins" fN) (bN : Binds K fdN ["self"] []) : DChkRow P w K mg base C f fd := by
  refine ⟨?_, hm, F.kp, F.binds fun _ _ _ _ _ _ us hl => match us, hl with | [_, _], _ => rfl⟩
  refine F.ok scChkRow (fun vs H Q E h => ?_) (fun cdv A outer s H vs Q E hr h => ?_)
  · obtain ⟨p, ng, nw, lr, gs, ws, rs, rfl, _⟩ := h
    rfl
  · obtain ⟨p, ng, nw, lr, gs, ws, rs, rfl, N, hgl, sr, hl, hw, q⟩ := h
    have nd := scChkRow.nd
    have hr2 : Room 2 _ := hr.mono (by decide)
    refine ⟨_, pss_cons (ps_if (PW.pt (pw_or (pt_not (pt_val (pe_callB call_isi (by rfl) B.isi (by decide +kernel) (pa_cons (pv 1) (pa_cons (pe_bltn (v := .ty "list") (by rfl) B.list (by decide +kernel) rfl) pa_nil)))))
          (pw_or1 (pt_cmpR op_ne (pe_callB call_len_seq (by rfl) B.len PySem.boot_len (pa_cons (pv 1) pa_nil)) (pe_callB call_len_seq (by rfl) B.len PySem.boot_len (pa_cons (pe_meth0 (pv 0) T.cl mN ins hr2 bN .nil pass0) pa_nil)) (nomark _))))) (pss_one ps_never) pss_nil) <|
      pss_one <| ps_if (pt_not (pt_val (pe_callB (cr_all rfl) (by rfl) B.all (by decide +kernel) <| (pa_cons · pa_nil) <| pe_lc (own := [("worth", 2)]) (g := gName 2) (tt := tYes) (te := tCall spWorth [] E0 (tCons (tVar 2) tNil)) rfl nd (pi_list (pv 1)) (blkOk_by (N := nChkRow) (sc := defScope sChkRow) (own := [("worth", 2)]) (by decide +kernel))
          (fun _ _ _ _ _ => pg_name (i := 2) nd rfl (.inl rfl)) (fun _ _ _ _ _ => pts_nil) (fun _ _ _ _ _ => pe_call DW.ok hr (by rfl) DW.mg DW.kp DW.bd .nil pass0 (pa_cons (pv 2) pa_nil))))) (pss_one ps_never) pss_nil, ?_⟩
    obtain ⟨dx, ob⟩ := N.ob
    have hpl := plc_len gs "in" gs.length
    refine ⟨_, rfl, _, _, _, _, true, rfl, .ty "list", ty_lst sr, kit_ty (by decide +kernel), true, rfl, iteF ?_⟩
    refine ⟨_, rfl, lr, _, rfl, .inl sr, _, rfl, p, dx, _, rfl, ob, nf_no _ _ (by decide +kernel) (by decide +kernel), p, ng, nw, gs, ws, rfl, N, hgl, fun l1 H1 hl1 sm1 el1 => ?_⟩
    refine ⟨l1, _, rfl, .inl (SqL.of el1), rfl, false, ?_, iteF ?_⟩
    · show V.bl (!decide (V.int (((rs.map V.int).length : Nat) : Int) = V.int ((((plc gs "in" gs.length).map fun i => V.int (i : Nat)).length : Nat) : Int))) = V.bl false
      rw [List.length_map, List.length_map, hl, decide_eq_true rfl]
      rfl
    refine ⟨_, rfl, lr, rfl, ⟨_, sm1.seq sr⟩, fun D hD => ?_⟩
    refine lc_list (K := K) (a := lr) (xs := rs.map V.int) (fun i Hc => Hc D = some (.lst ((List.replicate i true).map V.bl)) ∧ Same H1 Hc) ⟨upd_same, same_new hD⟩ (fun i Hc _ ⟨_, sm⟩ => (sm1.trans sm).seq sr) ?_ ?_
    · rintro i y Hc hy ⟨hc, sm⟩
      obtain ⟨z, ez, rfl⟩ := int_at hy
      have hz := hw z (List.mem_of_getElem? ez)
      have hi : i < rs.length := (List.getElem?_eq_some_iff.mp ez).1
      refine ⟨rfl, tyes ?_⟩
      refine ⟨_, rfl, z, rfl, _, hc, by rw [List.length_map, List.length_replicate]; exact small1000 (by omega), ?_, same_mut sm hD⟩
      rw [upd_same, decide_eq_true hz.1, decide_eq_true hz.2, List.replicate_succ', List.map_append]
      rfl
    · rintro Hc ⟨hc, sm⟩
      refine ⟨D, _, rfl, SqL.of hc, true, ?_, iteF (q Hc (sm1.trans sm))⟩
      have e : (List.replicate (rs.map V.int).length true).all id = true := by
        rw [List.all_eq_true]
        intro y hy
        rw [List.mem_replicate] at hy
        rw [hy.2]
        rfl
      rw [e]
/-! ### worths -/
theorem scWorths : FnScope ["net", "row", "told", "gate", "put", "kind", "rule"] ["net", "row"] (defScope sWorths) := ⟨rfl, rfl, rfl, by decide +kernel, rfl, by decide +kernel, by decide +kernel⟩
abbrev DWorths (P : Program) (w : World) (K : PySem.W.Frag) (mg : Str → Option Value) (base : Heap) (C : Addr) := Df P w K mg base 5 "worths" ["net", "row"] (spWorths K C)
theorem set_int {ts : List Int} {g : Nat} {z : Int} : (ts.map V.int).set g (V.int z) = (ts.set g z).map V.int := by simp [List.map_set]
theorem wok_set {ts : List Int} {g : Nat} {z : Int} (h : WOk1 ts) (hz : 0 ≤ z ∧ z ≤ 96) : WOk1 (ts.set g z) := by
  intro y hy
  rcases List.mem_or_eq_of_mem_set hy with hy | hy
  · exact h y hy
  · rw [hy]
    exact hz
theorem zeros (n : Nat) : (List.replicate n [V.int 0]).flatten = (List.replicate n (0 : Int)).map V.int := by
  induction n with
  | zero => rfl
  | succ n ih =>
    rw [List.replicate_succ, List.flatten_cons, ih, List.replicate_succ]
    rfl
theorem plc_nodup (gs : List Gt) (k : Str) (n : Nat) : (plc gs k n).Nodup := List.nodup_range.sublist List.filter_sublist

/-- the list at l may be changed -/
theorem But.put {l : Addr} {H H' : Hp} {o : HO} (b : But l H H') : But l H (L2.upd H' l o) := fun c u n e => by
  rw [upd_ne n]
  exact b c u n e
theorem But.net {K : PySem.W.Frag} {C l p ng nw : Addr} {H H' : Hp} {gs : List Gt} {ws : List Wr} {xs : List V} (b : But l H H') (hl : H l = some (.lst xs)) (n : NetAt K C H p ng nw gs ws) (h1 : ng ≠ l) (h2 : nw ≠ l) : NetAt K C H' p ng nw gs ws := by
  obtain ⟨dx, ob⟩ := n.ob
  obtain ⟨gv, hg, ga⟩ := n.g
  obtain ⟨wv, hw, wa⟩ := n.w
  have t : TK H H' := fun c u t e => b c u (fun z => by
    rw [z, hl] at e
    cases e
    exact t) e
  exact ⟨⟨dx, b _ _ (ne_of ob hl (by intro z; cases z)) ob⟩, ⟨gv, b _ _ h1 hg, ga.imp fun _ _ r => r.tk t⟩, ⟨wv, b _ _ h2 hw, wa.imp fun _ _ r => r.tk t⟩, n.ne⟩
theorem ok_worths {f fR fO fC fN C aR : Addr} {fd fdR fdO fdC fdN : FuncData} (F : Fun K "worths" "worths" sWorths f fd) (hm : mg "worths" = some (.ref f)) (B : Bt mg) (T : NT K mg C) (RL : Rl P w K mg base aR) (DR : DChkRow P w K mg base C fR fdR) (DO : DOrder P w K mg base fO fdO) (DC : DComing P w K mg base fC fdC)
    (ins : FnOk P w K mg base CX0 2 fN fdN ["self"] (spPorts K C "in")) (mN : Meth K C "ins" fN) (bN : Binds K fdN ["self"] []) : DWorths P w K mg base C f fd := by
  refine ⟨?_, hm, F.kp, F.binds fun _ _ _ _ _ _ us hl => match us, hl with | [_, _], _ => rfl⟩
  refine F.ok scWorths (fun vs H Q E h => ?_) (fun cdv A outer s H vs Q E hr h => ?_)
  · obtain ⟨p, ng, nw, lr, gs, ws, rs, rfl, _⟩ := h
    rfl
  · obtain ⟨p, ng, nw, lr, gs, ws, rs, rfl, NA, N, sr, hl, hw, q⟩ := h
    have nd := scWorths.nd
    have hr1 : Room 1 _ := hr.mono (by decide)
    have hr2 : Room 2 _ := hr.mono (by decide)
    refine ⟨_, pss_cons (ps_expr (pe_call DR.ok hr (by rfl) DR.mg DR.kp DR.bd .nil pass0 (pa_cons (pv 0) (pa_cons (pv 1) pa_nil)))) <|
      pss_cons (ps_set (i := 2) nd rfl (.inl rfl) (pe_op op_rep (pe_lst (pa_cons pe_int pa_nil)) (pe_callB call_len_seq (by rfl) B.len PySem.boot_len (pa_cons (pe_fld (pv 0) rfl) pa_nil)))) <|
      pss_cons (ps_for PassesOwn.never rfl (pi_zip (by rfl) B.zip (pa_cons (pe_meth0 (pv 0) T.cl mN ins hr2 bN .nil pass0) (pa_cons (pv 1) pa_nil))) (pg_tup rfl (pgs_cons (pg_name (i := 3) nd rfl (.inl rfl)) (pgs_cons (pg_name (i := 4) nd rfl (.inl rfl)) pgs_nil))) <|
        pss_one <| ps_asg (pv 4) (pg_sub (pv 2) (pv 3) set_list)) <|
      pss_cons (ps_for PassesOwn.never rfl (pi_list (pe_call DO.ok hr2 (by rfl) DO.mg DO.kp DO.bd .nil pass0 (pa_cons (pe_callB call_len_seq (by rfl) B.len PySem.boot_len (pa_cons (pe_fld (pv 0) rfl) pa_nil)) (pa_cons (pe_fld (pv 0) rfl) pa_nil)))) (pg_name (i := 3) nd rfl (.inl rfl)) <|
        pss_cons (ps_set (i := 5) nd rfl (.inl rfl) (pe_ix ix_tup (pe_ix ix_list (pe_fld (pv 0) rfl) (pv 3) (fun _ _ => rfl)) pe_int (fun _ _ => rfl))) <|
        pss_one <| ps_if (pt_cmpR op_ne (pv 5) pe_str (nomark _))
          (pss_cons (ps_set (i := 6) nd rfl (.inl rfl) (pe_ix ix_kdict (pe_glob (v := .ref aR) (by rfl) RL.mR rfl) (pv 5) (fun _ _ => rfl))) <|
            pss_one <| ps_asg (pe_callD (i := 6) hr1 rfl (.inl rfl) (pa_cons (pe_call DC.ok hr2 (by rfl) DC.mg DC.kp DC.bd .nil pass0 (pa_cons (pv 3) (pa_cons (pe_fld (pv 0) rfl) (pa_cons (pv 2) pa_nil)))) pa_nil)) (pg_sub (pv 2) (pv 3) set_list)) pss_nil) <|
      pss_one <| ps_ret (pv 2), ?_⟩
    obtain ⟨dx, ob⟩ := NA.ob
    have hgl := N.gl
    obtain ⟨gv, hgv, ga⟩ := id NA.g
    have hlg : gv.length = gs.length := ga.1
    have hgl' : gs.length ≤ 1000 := by omega
    refine ⟨_, rfl, _, rfl, p, ng, nw, lr, gs, ws, rs, rfl, NA, hgl', sr, hl, hw, fun H1 sm1 => ?_⟩
    -- told = [0] * len(net.gates)
    refine ⟨(by show 1 ≤ sizeLine; decide), fun l0 hl0 => ?_⟩
    have sm2 := sm1.trans (same_new (o := .lst [.int 0]) hl0)
    refine ⟨_, rfl, p, C, dx, _, _, rfl, sm2 _ _ ob, T.cl, T.nG, nf_gates _ _, ng, gv, rfl, .inl (SqL.of (sm2 _ _ hgv)), l0, _, _, rfl, rfl, upd_same, by omega, by omega, ?_, fun lt hlt => ?_⟩
    · show 1 * _ ≤ sizeLine
      have : 1 * ((gv.length : Int)).toNat ≤ 1000 := by omega
      exact Nat.le_of_lt (small1000 this)
    rw [Int.toNat_natCast, zeros, hlg]
    have hltH : H lt = none := sm2.free hlt
    have sm3 := sm2.trans (same_new (o := .lst ((List.replicate gs.length (0 : Int)).map V.int)) hlt)
    have elt : (upd (upd H1 l0 (.lst [.int 0])) lt (.lst ((List.replicate gs.length (0 : Int)).map V.int))) lt = some (.lst ((List.replicate gs.length (0 : Int)).map V.int)) := upd_same
    generalize upd (upd H1 l0 (.lst [.int 0])) lt (.lst ((List.replicate gs.length (0 : Int)).map V.int)) = H3 at sm3 elt
    have nglt : ng ≠ lt := ne_of_none hgv hltH
    have nwlt : nw ≠ lt := by
      obtain ⟨wv0, hwv0, _⟩ := NA.w
      exact ne_of_none hwv0 hltH
    have nlr : ∀ {H' : Hp}, But lt H H' → SqL K H' lr (rs.map V.int) := fun {H'} b => by
      refine Same.seq (fun c o e => b c o (ne_of_none e hltH) e) sr
    -- for gate, put in zip(net.ins(), row)
    refine ⟨_, rfl, p, dx, _, rfl, sm3 _ _ ob, nf_no _ _ (by decide +kernel) (by decide +kernel), p, ng, nw, gs, ws, rfl, NA.same sm3, hgl', fun li H4 hli sm4 eli => ?_⟩
    have sm14 := sm3.trans sm4
    have elt4 := sm4 _ _ elt
    have nlilt : li ≠ lt := fun z => by
      rw [z, elt] at hli
      cases hli
    have hpl := plc_len gs "in" gs.length
    refine ⟨_, rfl, li, lr, _, _, rfl, SqL.of eli, sm14.seq sr, RZ.for_zipL (K := K) (a := li) (b := lr) (xs := (plc gs "in" gs.length).map fun i => V.int (i : Nat)) (ys := rs.map V.int) (by rw [List.length_map, List.length_map, hl])
      (fun i σ H' => ∃ (s3 s4 : Option V) (ts : List Int), σ = [some (.ref p), some (.ref lr), some (.ref lt), s3, s4, none, none] ∧ H' lt = some (.lst (ts.map V.int)) ∧ But lt H4 H' ∧ ts.length = gs.length ∧ WOk1 ts ∧ ∀ (j g : Nat) (r : Int), j < i → (plc gs "in" gs.length)[j]? = some g → rs[j]? = some r → ts.getD g 0 = r)
      ⟨_, _, List.replicate gs.length 0, rfl, elt4, But.refl _ _, List.length_replicate, ?_, fun j g r h => by omega⟩ (fun i σ H' ⟨_, _, _, _, _, b, _⟩ => ⟨SqL.of (b _ _ nlilt eli), nlr ((But.same sm14).trans b)⟩) ?_ ?_⟩
    · intro y hy
      rw [List.mem_replicate] at hy
      rw [hy.2]
      decide
    · rintro i x y T' σ H' hx hy ⟨s3', s4', ts, rfl, et, bt, htl, hwt, hput⟩ hT
      rw [List.getElem?_map] at hx
      cases eg : (plc gs "in" gs.length)[i]? with
      | none =>
        rw [eg] at hx
        cases hx
      | some g =>
      rw [eg] at hx
      cases hx
      obtain ⟨r, er, rfl⟩ := int_at hy
      have hg := mem_plc.mp (List.mem_of_getElem? eg)
      have hr0 := hw r (List.mem_of_getElem? er)
      have sT : Same H' (upd H' T' (.tup [.int (g : Nat), .int r])) := same_new hT
      refine ⟨T', _, rfl, .inl (.inl upd_same), rfl, _, _, rfl, _, _, rfl, rfl, ?_⟩
      refine ⟨_, rfl, _, rfl, _, rfl, lt, _, _, g, rfl, rfl, sT _ _ et, Evl.ixN_nat (by rw [List.length_map, htl]; exact hg.1), ?_⟩
      rw [set_int]
      refine ⟨_, _, ts.set g r, rfl, upd_same, (bt.trans (But.same sT)).put, by rw [List.length_set]; exact htl, wok_set hwt hr0, fun j g' r' hj e1 e2 => ?_⟩
      rw [getD_set (by rw [htl]; exact hg.1)]
      by_cases hji : j = i
      · subst hji
        rw [eg] at e1
        cases e1
        rw [er] at e2
        cases e2
        rw [if_pos rfl]
      · rw [if_neg (fun z => hji (nd_ix (plc_nodup gs "in" gs.length) e1 (by rw [z]; exact eg)))]
        exact hput j g' r' (by omega) e1 e2
    · rintro σ H' ⟨s3', s4', ts0, rfl, et0, bt0, htl0, hwt0, hput0⟩
      have hpl2 : ((plc gs "in" gs.length).map fun i => V.int (i : Nat)).length = (plc gs "in" gs.length).length := List.length_map ..
      rw [hpl2] at hput0
      have b5 : But lt H H' := (But.same sm14).trans bt0
      have NA5 : NetAt K C H' p ng nw gs ws := bt0.net elt4 (NA.same sm14) nglt nwlt
      obtain ⟨dx5, ob5⟩ := NA5.ob
      obtain ⟨gv5, hgv5, ga5⟩ := NA5.g
      have hlg5 : gv5.length = gs.length := ga5.1
      -- for gate in bare_order(..)
      refine ⟨_, rfl, p, C, dx5, _, _, rfl, ob5, T.cl, T.nG, nf_gates _ _, ng, gv5, rfl, .inl (SqL.of hgv5), _, rfl, p, C, dx5, _, _, rfl, ob5, T.cl, T.nW, nf_wires _ _, gv5.length, nw, ws, rfl, NA5.w.rw, fun x hx => ?_, by omega, N.wl, fun ord lo H6 ho sm6 hlo elo => ?_⟩
      · rw [hlg5]
        exact ⟨(N.wok x hx).s, (N.wok x hx).e⟩
      rw [hlg5] at ho
      have et6 := sm6 _ _ et0
      have nlolt : lo ≠ lt := fun z => by
        rw [z, et0] at hlo
        cases hlo
      have NA6 := NA5.same sm6
      have hperm := ho.full (fun x hx => ⟨(N.wok x hx).s, (N.wok x hx).e⟩) N.rank
      refine ⟨lo, rfl, ⟨_, SqL.of elo⟩, for_list (K := K) (a := lo) (xs := ord.map fun i => V.int (i : Nat)) (fun i σ H' => ∃ (s3 s4 s5 s6 : Option V) (ts : List Int), σ = [some (.ref p), some (.ref lr), some (.ref lt), s3, s4, s5, s6] ∧ H' lt = some (.lst (ts.map V.int)) ∧ But lt H6 H' ∧ ts.length = gs.length ∧ WOk1 ts ∧
          (∀ (j g : Nat) (r : Int), (plc gs "in" gs.length)[j]? = some g → rs[j]? = some r → ts.getD g 0 = r) ∧ ∀ g, g ∈ ord.take i → kindAt gs g ≠ "in" → ts.getD g 0 = kindVal (kindAt gs g) (cmg ws ts g))
        ⟨_, _, _, _, ts0, rfl, et6, But.refl _ _, htl0, hwt0, fun j g r e1 e2 => hput0 j g r (List.getElem?_eq_some_iff.mp e1).1 e1 e2, by simp⟩ (fun i σ H' _ ⟨_, _, _, _, _, _, _, b, _⟩ => SqL.of (b _ _ nlolt elo)) ?_ ?_⟩
      · rintro i x σ H7 hx ⟨t3, t4, t5, t6, ts, rfl, et, bt, htl, hwt, hput, heq⟩
        rw [List.getElem?_map] at hx
        cases eg : ord[i]? with
        | none =>
          rw [eg] at hx
          cases hx
        | some g =>
        rw [eg] at hx
        cases hx
        have hg : g < gs.length := ho.lt g (List.mem_of_getElem? eg)
        have NA7 : NetAt K C H7 p ng nw gs ws := bt.net et6 NA6 nglt nwlt
        obtain ⟨dx7, ob7⟩ := NA7.ob
        obtain ⟨gv7, hgv7, ga7⟩ := NA7.g
        have hggs : gs[g]? = some gs[g] := List.getElem?_eq_getElem hg
        obtain ⟨y, hy, a, rfl, sq⟩ := ga7.getR hggs
        have hk : kindAt gs g = gs[g].1 := kindAt_get hggs
        have etk : ord.take (i + 1) = ord.take i ++ [g] := take_add eg
        have ngt : g ∉ ord.take i := nodup_take ho.nd eg
        refine ⟨_, rfl, p, C, dx7, _, _, rfl, ob7, T.cl, T.nG, nf_gates _ _, _, rfl, ng, gv7, _, _, rfl, rfl, SqL.of hgv7, atI_nat hy, a, _, 0, _, rfl, rfl, sq, atI_nat (j := 0) rfl, ?_⟩
        refine ⟨_, rfl, rfl, _, rfl, ite2 (fun e => ?_) (fun e => ?_)⟩
        · have hkn : kindAt gs g ≠ "in" := fun z => by
            rw [hk] at z
            rw [z] at e
            simp at e
          obtain ⟨fk, fdk, kd, Fk, kpk, bk⟩ := RL.kd gs[g].1 (N.gok _ (List.getElem_mem hg)).1 (by rw [← hk]; exact hkn)
          refine ⟨_, rfl, aR, gs[g].1, .ref fk, rfl, rfl, kd, ?_⟩
          refine ⟨fk, fdk, ["coming"], spR K gs[g].1, Fk, kpk, bk, rfl, _, rfl, _, rfl, p, C, dx7, _, _, rfl, ob7, T.cl, T.nW, nf_wires _ _, _, rfl, g, nw, lt, ws, ts, rfl, NA7.w.rw, SqL.of et, fun x hx => by rw [htl]; exact (N.wok x hx).s, N.wl, fun lc H8 hlc sm8 elc => ?_⟩
          refine ⟨lc, _, rfl, SqL.of elc, cmg_bound N hwt g, fun z => cmg_ne N hg (by rw [hk]; exact z), ?_⟩
          refine ⟨_, rfl, _, rfl, lt, _, _, g, rfl, rfl, sm8 _ _ et, Evl.ixN_nat (by rw [List.length_map, htl]; exact hg), ?_⟩
          rw [set_int]
          have hcg : ∀ e', (∀ x ∈ ws, x.2.1 = e' → x.2.2 = [] → x.1 ≠ g) → cmg ws (ts.set g (kindVal gs[g].1 (cmg ws ts g))) e' = cmg ws ts e' := fun e' he' => by
            unfold cmg
            refine List.map_congr_left fun x hx => ?_
            rw [List.mem_filter] at hx
            refine wv_congr fun hb => ?_
            rw [getD_set (by rw [htl]; exact hg), if_neg (he' x hx.1 (by simpa using hx.2) hb)]
          have hbare : ∀ j e', ord[j]? = some e' → j ≤ i → ∀ x ∈ ws, x.2.1 = e' → x.2.2 = [] → x.1 ≠ g := fun j e' hj hji x hx hxe hxr z => by
            have hb : (x.1, x.2.1) ∈ bare ws := List.mem_map.mpr ⟨x, List.mem_filter.mpr ⟨hx, by rw [hxr]; rfl⟩, rfl⟩
            have := ho.top j e' hj _ hb hxe
            rw [show ((x.1, x.2.1) : Nat × Nat).1 = x.1 from rfl, z] at this
            exact ngt (List.take_subset_take_left ord hji this)
          refine ⟨_, _, _, _, _, rfl, upd_same, (bt.trans (But.same sm8)).put, by rw [List.length_set]; exact htl, wok_set hwt (kv_bound _ (cmg_bound N hwt g)), fun j g' r' e1 e2 => ?_, fun g' hg' hk' => ?_⟩
          · rw [getD_set (by rw [htl]; exact hg), if_neg (fun z => hkn (by rw [← z]; exact (mem_plc.mp (List.mem_of_getElem? e1)).2))]
            exact hput j g' r' e1 e2
          · rw [etk] at hg'
            rcases List.mem_append.mp hg' with hg' | hg'
            · obtain ⟨j, hj⟩ := List.getElem?_of_mem hg'
              have hji : j < i := by
                have := (List.getElem?_eq_some_iff.mp hj).1
                rw [List.length_take] at this
                omega
              rw [List.getElem?_take_of_lt hji] at hj
              rw [getD_set (by rw [htl]; exact hg), if_neg (fun z => ngt (by rw [← z]; exact hg')), hcg g' (hbare j g' hj (by omega))]
              exact heq g' hg' hk'
            · simp at hg'
              subst hg'
              rw [getD_set (by rw [htl]; exact hg), if_pos rfl, hcg _ (hbare i _ eg (Nat.le_refl _)), hk]
        · have hki : kindAt gs g = "in" := by
            rw [hk]
            refine Classical.byContradiction fun z => e ?_
            show (!decide (V.str gs[g].1 = V.str "in")) = true
            rw [decide_eq_false (fun y => z (V.str.inj y))]
            rfl
          refine ⟨_, _, _, _, ts, rfl, et, bt, htl, hwt, hput, fun g' hg' hk' => ?_⟩
          rw [etk] at hg'
          rcases List.mem_append.mp hg' with hg' | hg'
          · exact heq g' hg' hk'
          · simp at hg'
            subst hg'
            exact absurd hki hk'
      · rintro σ H7 ⟨t3, t4, t5, t6, ts, rfl, et, bt, htl, hwt, hput, heq⟩
        rw [List.length_map, List.take_length] at heq
        refine ⟨_, rfl, q lt H7 ts hltH (fun b o e => (b5.trans ((But.same sm6).trans bt)) b o (ne_of_none e hltH) e) ⟨htl, hput, fun g hg hk => heq g (hperm.mem_iff.mpr (List.mem_range.mpr hg)) hk⟩ hwt et⟩
end
end Lag

set_option maxRecDepth 100000
set_option maxHeartbeats 8000000
namespace Lag
open PySem PySem.Spec PyProof.Rows L2
abbrev sNetBehind : Stmt := topS 43 -- @net_behind
abbrev sBeat : Stmt := topS 42
abbrev sBehind : Stmt := topS 44
section
variable {K : PySem.W.Frag} {C : Addr} {H : Hp}
/-- Net(gates, wires), behind its arguments -/
theorem net_in {Q : Addr → Hp → Prop} {lg lw : Addr} {gs : List Gt} {ws : List Wr} (R : RG K H lg gs) (R2 : RW K H lw ws) (N : NetOk gs ws)
    (q : ∀ p ng nw H', NetAt K C H' p ng nw gs ws → Same H H' → H p = none → H ng = none → H nw = none → Q p H') :
    ∀ x dx, H x = none → H dx = none → dx ≠ x → spInit K C (.ref x :: ([.ref lg, .ref lw] ++ [])) (upd (upd H dx (.own x)) x (.ins C dx [])) (fun v H' => v = .non ∧ Q x H') E0 := by
  intro x dx hx hdx ne
  have s0 : Same H (upd (upd H dx (.own x)) x (.ins C dx [])) := fun b o e => by
    rw [upd_ne (ne_of_none e hx), upd_ne (ne_of_none e hdx)]
    exact e
  refine ⟨x, dx, lg, lw, gs, ws, rfl, upd_same, R.same s0, R2.same s0, N, fun H' ng nw A h1 h2 k => ⟨rfl, ?_⟩⟩
  exact q x ng nw H' A (Same.made hx hdx k) hx (s0.free h1) (s0.free h2)
end
/-! ### a wire behind a beat -/
def bh (ts : List Int) (x : Wr) : Wr := match x.2.2 with
  | [] => x
  | _ :: l => (x.1, x.2.1, l ++ [ts.getD x.1 0])
theorem bh_ends (ts : List Int) (x : Wr) : (bh ts x).1 = x.1 ∧ (bh ts x).2.1 = x.2.1 ∧ (bh ts x).2.2.length = x.2.2.length := by
  unfold bh
  cases e : x.2.2 with
  | nil => simp [e]
  | cons r l => simp
theorem bh_bare {ts : List Int} {x : Wr} (h : (bh ts x).2.2 = []) : x.2.2 = [] := by
  have := (bh_ends ts x).2.2
  rw [h] at this
  exact List.length_eq_zero_iff.mp this.symm
theorem NetOk.behind {gs : List Gt} {ws : List Wr} {ts : List Int} (N : NetOk gs ws) (ht : WOk1 ts) : NetOk gs (ws.map (bh ts)) := by
  obtain ⟨ρ, hρ⟩ := N.rank
  have c : ∀ e, cnt (ws.map (bh ts)) e = cnt ws e := fun e => by
    unfold cnt
    rw [List.countP_map]
    refine List.countP_congr fun x _ => ?_
    simp only [Function.comp, (bh_ends ts x).2.1]
  refine ⟨N.ne, N.gl, by rw [List.length_map]; exact N.wl, N.gok, fun y hy => ?_, fun e he hk => by rw [c]; exact N.one e he hk, fun e he hk => by rw [c]; exact N.some e he hk, ρ, fun y hy h => ?_⟩
  · obtain ⟨x, hx, rfl⟩ := List.mem_map.mp hy
    have W := N.wok x hx
    obtain ⟨e1, e2, e3⟩ := bh_ends ts x
    refine ⟨by rw [e1]; exact W.s, by rw [e2]; exact W.e, by rw [e1]; exact W.ks, by rw [e2]; exact W.ke, ?_, by rw [e3]; exact W.rl⟩
    unfold bh
    cases e : x.2.2 with
    | nil =>
      show ROk x.2.2
      exact W.r
    | cons r l =>
      intro y hy
      rcases List.mem_append.mp hy with hy | hy
      · exact W.r y (by rw [e]; exact List.mem_cons_of_mem _ hy)
      · simp only [List.mem_singleton] at hy
        rw [hy]
        exact wok_getD ht x.1
  · obtain ⟨x, hx, rfl⟩ := List.mem_map.mp hy
    obtain ⟨e1, e2, _⟩ := bh_ends ts x
    rw [e1, e2]
    exact hρ x hx (bh_bare h)
def spBehind (K : PySem.W.Frag) : Sp := fun vs H Q _ => ∃ (v : V) (x : Wr) (lt : Addr) (ts : List Int), vs = [v, .ref lt] ∧ WireV K H v x ∧ SqL K H lt (ts.map V.int) ∧ x.1 < ts.length ∧ x.2.2.length ≤ 100 ∧ ∀ v' H', Same H H' → WireV K H' v' (bh ts x) → Q v' H'
def spBeat (K : PySem.W.Frag) (C : Addr) : Sp := fun vs H Q _ => ∃ (p ng nw lr : Addr) (gs : List Gt) (ws : List Wr) (rs : List Int), vs = [.ref p, .ref lr] ∧ NetAt K C H p ng nw gs ws ∧ NetOk gs ws ∧ SqL K H lr (rs.map V.int) ∧ rs.length = (plc gs "in" gs.length).length ∧ WOk1 rs ∧
  ∀ t p' ng' nw' lo H' ts, Same H H' → IsW gs ws rs ts → WOk1 ts → NetAt K C H' p' ng' nw' gs (ws.map (bh ts)) → H' lo = some (.lst ((plc gs "out" gs.length).map fun g => V.int (ts.getD g 0))) → H' t = some (.tup [.ref p', .ref lo]) → H p' = none → H ng' = none → H nw' = none → H lo = none → Q (.ref t) H'
section
variable {P : Program} {w : World} {K : PySem.W.Frag} {mg : Str → Option Value} {base : Heap}
theorem scBehind : FnScope ["wire", "told", "start", "end", "held"] ["wire", "told"] (defScope sBehind) := ⟨rfl, rfl, rfl, by decide +kernel, rfl, by decide +kernel, by decide +kernel⟩
abbrev DBehind (P : Program) (w : World) (K : PySem.W.Frag) (mg : Str → Option Value) (base : Heap) := Df P w K mg base 1 "wire_behind" ["wire", "told"] (spBehind K)
theorem ok_behind {f : Addr} {fd : FuncData} (F : Fun K "wire_behind" "wire_behind" sBehind f fd) (hm : mg "wire_behind" = some (.ref f)) (B : Bt mg) : DBehind P w K mg base f fd := by
  refine ⟨?_, hm, F.kp, F.binds fun _ _ _ _ _ _ us hl => match us, hl with | [_, _], _ => rfl⟩
  refine F.ok scBehind (fun vs H Q E h => ?_) (fun cdv A outer s H vs Q E hr h => ?_)
  · obtain ⟨v, x, lt, ts, rfl, _⟩ := h
    rfl
  · obtain ⟨v, x, lt, ts, rfl, hwv, st, hx, hxl, q⟩ := h
    have hwv0 := hwv
    obtain ⟨a, b, rfl, sq1, sq2⟩ := hwv
    have nd := scBehind.nd
    refine ⟨_, pss_cons (ps_asg (pv 0) (pg_tup (by rfl) (pgs_cons (pg_name (i := 2) nd rfl (.inl rfl)) (pgs_cons (pg_name (i := 3) nd rfl (.inl rfl)) (pgs_cons (pg_name (i := 4) nd rfl (.inl rfl)) pgs_nil))))) <|
      pss_one <| ps_ret <| pe_ifExp (pt_cmpR op_gt (pe_callB call_len_seq (by rfl) B.len PySem.boot_len (pa_cons (pv 4) pa_nil)) pe_int (nomark _))
        (pe_tup (pa_cons (pv 2) (pa_cons (pv 3) (pa_cons (pe_op op_catA (pe_slice sl_tupA (pv 4) (po_some pe_int) po_none) (pe_tup (pa_cons (pe_ix ix_list (pv 1) (pv 2) (fun _ _ => rfl)) pa_nil))) pa_nil)))) (pv 0), ?_⟩
    refine ⟨_, rfl, a, _, rfl, sq1, rfl, _, _, rfl, _, _, rfl, _, _, rfl, rfl, ?_⟩
    refine ⟨_, rfl, b, _, rfl, .inr sq2, _, _, rfl, rfl, _, rfl, ite2 (fun e => ?_) (fun e => ?_)⟩
    · obtain ⟨x1, x2, xr⟩ := x
      cases xr with
      | nil => exact absurd (of_decide_eq_true e) (by simp)
      | cons r l =>
      have eb : bh ts (x1, x2, r :: l) = (x1, x2, l ++ [ts.getD x1 0]) := rfl
      have hll : l.length ≤ 100 := by
        have h2 : l.length + 1 ≤ 100 := hxl
        omega
      have ef : cutV ((r :: l).map V.int) (some 1) none = l.map V.int := (cut_from (xs := (r :: l).map V.int) 1).trans rfl
      refine ⟨_, rfl, _, rfl, _, rfl, 1, rfl, b, _, rfl, sq2, fun z => ?_, fun _ s1 hs1 => ?_⟩
      · exfalso
        have z1 : min 1 ((r :: l).map V.int).length = 0 := (HT.sIx_nat _ 0 1).symm.trans z.1
        rw [List.map_cons, List.length_cons] at z1
        omega
      rw [ef]
      have sm1 : Same H (upd H s1 (.tup (l.map V.int))) := same_new hs1
      have egd : ts.getD x1 0 = ts[x1]'hx := by
        rw [List.getD_eq_getElem?_getD, List.getElem?_eq_getElem hx]
        rfl
      refine ⟨_, rfl, _, rfl, lt, _, _, .int (ts.getD x1 0), rfl, rfl, sm1.seq st, atI_nat (by rw [List.getElem?_map, List.getElem?_eq_getElem hx, egd]; rfl), (by show 1 ≤ sizeLine; decide), fun t1 ht1 => ?_⟩
      have sm2 := sm1.trans (same_new (o := .tup [.int (ts.getD x1 0)]) ht1)
      have es1 : SqT K (upd (upd H s1 (.tup (l.map V.int))) t1 (.tup [.int (ts.getD x1 0)])) s1 (l.map V.int) := (TK.new ht1).seq (.inl (.inl upd_same))
      refine ⟨s1, t1, l.map V.int, [.int (ts.getD x1 0)], rfl, rfl, es1, .inl (.inl upd_same), ?_, fun z => ?_, (fun _ z => by cases z), fun _ _ c hc => ?_⟩
      · rw [List.length_map]
        show _ + 1 ≤ sizeLine
        exact Nat.le_of_lt (small1000 (by omega))
      · refine ⟨(by show 3 ≤ sizeLine; decide), fun t2 ht2 => ?_⟩
        have ez : l = [] := List.map_eq_nil_iff.mp z
        refine q _ _ (sm2.trans (same_new ht2)) ?_
        rw [eb]
        have e5 : (l ++ [ts.getD x1 0]).map V.int = [.int (ts.getD x1 0)] := by
          rw [ez]
          rfl
        refine ⟨t2, t1, rfl, .inl (.inl upd_same), (TK.new ht2).seq ?_⟩
        show SqT K _ t1 ((l ++ [ts.getD x1 0]).map V.int)
        rw [e5]
        exact .inl (.inl upd_same)
      · refine ⟨(by show 3 ≤ sizeLine; decide), fun t2 ht2 => ?_⟩
        have sm3 := sm2.trans (same_new (o := .tup (l.map V.int ++ [.int (ts.getD x1 0)])) hc)
        refine q _ _ (sm3.trans (same_new ht2)) ?_
        rw [eb]
        refine ⟨t2, c, rfl, .inl (.inl upd_same), (TK.new ht2).seq ?_⟩
        rw [List.map_append]
        exact .inl (.inl upd_same)
    · have er : x.2.2 = [] := by
        cases er : x.2.2 with
        | nil => rfl
        | cons r l =>
          rw [er] at e
          exfalso
          apply e
          refine decide_eq_true ?_
          rw [List.length_map, List.length_cons]
          omega
      have eb : bh ts x = x := by unfold bh; rw [er]
      rw [eb] at q
      exact ⟨_, rfl, q _ H (Same.refl H) hwv0⟩
def spNetBehind (K : PySem.W.Frag) (C : Addr) : Sp := fun vs H Q _ => ∃ (p ng nw lt : Addr) (gs : List Gt) (ws : List Wr) (ts : List Int), vs = [.ref p, .ref lt] ∧ NetAt K C H p ng nw gs ws ∧ NetOk gs ws ∧ H lt = some (.lst (ts.map V.int)) ∧ ts.length = gs.length ∧ WOk1 ts ∧
  ∀ p' ng' nw' H', Same H H' → NetAt K C H' p' ng' nw' gs (ws.map (bh ts)) → H p' = none → H ng' = none → H nw' = none → Q (.ref p') H'
abbrev nNetB : List Str := ["net", "told", "wire"]
theorem scNetB : FnScope nNetB ["net", "told"] (defScope sNetBehind) := ⟨rfl, rfl, rfl, by decide +kernel, rfl, by decide +kernel, by decide +kernel⟩
abbrev DNetB (P : Program) (w : World) (K : PySem.W.Frag) (mg : Str → Option Value) (base : Heap) (C : Addr) := Df P w K mg base 8 "net_behind" ["net", "told"] (spNetBehind K C)
theorem ok_netBehind {f fB fI C : Addr} {fd fdB fdI : FuncData} (F : Fun K "net_behind" "net_behind" sNetBehind f fd) (hm : mg "net_behind" = some (.ref f)) (T : NT K mg C) (DB : DBehind P w K mg base fB fdB)
    (MK : Mk K C fI) (init : FnOk P w K mg base CX0 6 fI fdI ["self", "gates", "wires"] (spInit K C)) (bI : Binds K fdI ["self", "gates", "wires"] []) : DNetB P w K mg base C f fd := by
  refine ⟨?_, hm, F.kp, F.binds fun _ _ _ _ _ _ us hl => match us, hl with | [_, _], _ => rfl⟩
  refine F.ok scNetB (fun vs H Q E h => ?_) (fun cdv A outer s H vs Q E hr h => ?_)
  · obtain ⟨p, ng, nw, lt, gs, ws, ts, rfl, _⟩ := h
    rfl
  · obtain ⟨p, ng, nw, lt, gs, ws, ts, rfl, NA1, N, elt, hlt, wt, q⟩ := h
    have nd := scNetB.nd
    have hr1 : Room 1 _ := hr.mono (by decide)
    refine ⟨_, pss_one <| ps_ret (pe_make MK init hr (by rfl) T.mg bI .nil pass0 (pa_cons (pe_fld (pv 0) rfl) (pa_cons
        (pe_lc (own := [("wire", 2)]) (g := gName 2) (tt := tYes) (te := tCall (spBehind K) [] E0 (tCons (tVar 2) (tCons (tVar 1) tNil))) rfl nd (pi_list (pe_fld (pv 0) rfl)) (blkOk_by (N := nNetB) (sc := defScope sNetBehind) (own := [("wire", 2)]) (by decide +kernel)) (fun _ _ _ _ _ => pg_name (i := 2) nd rfl (.inl rfl)) (fun _ _ _ _ _ => pts_nil)
          (fun _ _ _ _ _ => pe_call DB.ok hr1 (by rfl) DB.mg DB.kp DB.bd .nil pass0 (pa_cons (pv 2) (pa_cons (pv 1) pa_nil)))) pa_nil))), ?_⟩
    have hgl := N.gl
    have hwl := N.wl
    obtain ⟨dx, ob⟩ := NA1.ob
    obtain ⟨vw, hvw, wa⟩ := NA1.w
    have hlw : vw.length = ws.length := wa.1
    refine ⟨_, rfl, p, C, dx, _, _, rfl, ob, T.cl, T.nG, nf_gates _ _, _, rfl, p, C, dx, _, _, rfl, ob, T.cl, T.nW, nf_wires _ _, nw, rfl, ⟨_, SqL.of hvw⟩, fun D hD => ?_⟩
    refine lc_list (K := K) (a := nw) (xs := vw) (fun i Hc => ∃ acc, Hc D = some (.lst acc) ∧ acc.length = i ∧ All2 (WireV K Hc) acc ((ws.take i).map (bh ts)) ∧ Same H Hc) ⟨[], upd_same, rfl, by simpa using All2.nil, same_new hD⟩ (fun i Hc _ ⟨_, _, _, _, sm⟩ => SqL.of (sm _ _ hvw)) ?_ ?_
    · rintro i v Hc hv ⟨acc, hacc, hal, haa, sm⟩
      obtain ⟨x, hx, wx⟩ := wa.get hv
      have hi : i < ws.length := (List.getElem?_eq_some_iff.mp hx).1
      have W := N.wok x (List.mem_of_getElem? hx)
      refine ⟨rfl, tyes ?_⟩
      refine ⟨_, rfl, _, rfl, v, x, lt, ts, rfl, wx.tk (TK.same sm), SqL.of (sm _ _ elt), by rw [hlt]; exact W.s, W.rl, fun v' H2 sm2 wx' => ?_⟩
      have hacc2 := sm2 _ _ hacc
      refine ⟨acc, hacc2, small1000 (by omega), acc ++ [v'], upd_same, by simp [hal], ?_, same_mut (sm.trans sm2) hD⟩
      have t2 : TK Hc (upd H2 D (.lst (acc ++ [v']))) := (TK.same sm2).trans (TK.lst hacc2)
      rw [List.take_add_one, hx, List.map_append]
      exact (haa.imp fun _ _ r => r.tk t2).snoc (wx'.tk (TK.lst hacc2))
    · rintro H2 ⟨acc, hacc, hal, haa, sm2⟩
      rw [hlw, List.take_length] at haa
      exact net_in (NA1.g.same sm2).rg ⟨acc, SqL.of hacc, haa⟩ (N.behind wt) fun p' ng' nw' H3 NA3 s3 hp' hng' hnw' => q p' ng' nw' H3 (sm2.trans s3) NA3 (sm2.free hp') (sm2.free hng') (sm2.free hnw')
abbrev nBeat : List Str := ["net", "row", "told", "gate"]
theorem scBeat : FnScope nBeat ["net", "row"] (defScope sBeat) := ⟨rfl, rfl, rfl, by decide +kernel, rfl, by decide +kernel, by decide +kernel⟩
abbrev DBeat (P : Program) (w : World) (K : PySem.W.Frag) (mg : Str → Option Value) (base : Heap) (C : Addr) := Df P w K mg base 9 "beat" ["net", "row"] (spBeat K C)
theorem ok_beat {f fW fB fO C : Addr} {fd fdW fdB fdO : FuncData} (F : Fun K "beat" "beat" sBeat f fd) (hm : mg "beat" = some (.ref f)) (T : NT K mg C) (DW : DWorths P w K mg base C fW fdW) (DB : DNetB P w K mg base C fB fdB) (outs : FnOk P w K mg base CX0 2 fO fdO ["self"] (spPorts K C "out")) (mO : Meth K C "outs" fO) (bO : Binds K fdO ["self"] []) : DBeat P w K mg base C f fd := by
  refine ⟨?_, hm, F.kp, F.binds fun _ _ _ _ _ _ us hl => match us, hl with | [_, _], _ => rfl⟩
  refine F.ok scBeat (fun vs H Q E h => ?_) (fun cdv A outer s H vs Q E hr h => ?_)
  · obtain ⟨p, ng, nw, lr, gs, ws, rs, rfl, _⟩ := h
    rfl
  · obtain ⟨p, ng, nw, lr, gs, ws, rs, rfl, NA, N, sr, hl, hw, q⟩ := h
    have nd := scBeat.nd
    have hr5 : Room 5 _ := hr.mono (by decide)
    have hr2 : Room 2 _ := hr.mono (by decide)
    refine ⟨_, pss_cons (ps_set (i := 2) nd rfl (Or.inr rfl) (pe_call DW.ok hr5 (by rfl) DW.mg DW.kp DW.bd .nil pass0 (pa_cons (pv 0) (pa_cons (pv 1) pa_nil)))) <|
      pss_one <| ps_ret <| pe_tup <| pa_cons (pe_call DB.ok hr (by rfl) DB.mg DB.kp DB.bd .nil pass0 (pa_cons (pv 0) (pa_cons (pv 2) pa_nil))) <| (pa_cons · pa_nil) <| pe_lc (own := [("gate", 3)]) (g := gName 3) (tt := tYes) (te := tOp (rIxL K) (tVar 2) (tVar 3)) rfl nd (pi_list (pe_meth0 (pv 0) T.cl mO outs hr2 bO .nil pass0)) (blkOk_by (N := nBeat) (sc := defScope sBeat) (own := [("gate", 3)]) (by decide +kernel)) (fun _ _ _ _ _ => pg_name (i := 3) nd rfl (.inl rfl)) (fun _ _ _ _ _ => pts_nil)
          (fun _ _ _ _ _ => pe_ix ix_list (pv 2) (pv 3) (fun _ _ => rfl)), ?_⟩
    have hgl := N.gl
    have hwl := N.wl
    refine ⟨_, rfl, _, rfl, p, ng, nw, lr, gs, ws, rs, rfl, NA, N, sr, hl, hw, fun lt H1 ts hlt sm1 iw wt elt => ?_⟩
    have NA1 := NA.same sm1
    refine ⟨_, rfl, _, rfl, p, ng, nw, lt, gs, ws, ts, rfl, NA1, N, elt, iw.len, wt, fun p' ng' nw' H3 s3 NA3 hp' hng' hnw' => ?_⟩
    · have s13 := sm1.trans s3
      have NAo := NA.same s13
      obtain ⟨dx3, ob3⟩ := NAo.ob
      have elt3 := s3 _ _ elt
      refine ⟨_, rfl, p, dx3, _, rfl, ob3, nf_no _ _ (by decide +kernel) (by decide +kernel), p, ng, nw, gs, ws, rfl, NAo, by omega, fun lo0 H4 hlo0 s4 elo0 => ?_⟩
      refine ⟨lo0, rfl, ⟨_, SqL.of elo0⟩, fun D2 hD2 => ?_⟩
      have hpl := plc_len gs "out" gs.length
      refine lc_list (K := K) (a := lo0) (xs := (plc gs "out" gs.length).map fun i => V.int (i : Nat)) (fun i Hc => Hc D2 = some (.lst (((plc gs "out" gs.length).take i).map fun g => V.int (ts.getD g 0))) ∧ Same H4 Hc) ⟨upd_same, same_new hD2⟩ (fun i Hc _ ⟨_, sm⟩ => SqL.of (sm _ _ elo0)) ?_ ?_
      · rintro i v Hc hv ⟨hc, sm⟩
        rw [List.getElem?_map] at hv
        cases eg : (plc gs "out" gs.length)[i]? with
        | none =>
          rw [eg] at hv
          cases hv
        | some g =>
        rw [eg] at hv
        cases hv
        have hg := (mem_plc.mp (List.mem_of_getElem? eg)).1
        have hgt : g < ts.length := by rw [iw.len]; exact hg
        have egd : ts.getD g 0 = ts[g]'hgt := by
          rw [List.getD_eq_getElem?_getD, List.getElem?_eq_getElem hgt]
          rfl
        have hi : i < (plc gs "out" gs.length).length := (List.getElem?_eq_some_iff.mp eg).1
        refine ⟨rfl, tyes ?_⟩
        refine ⟨_, rfl, _, rfl, lt, _, _, .int (ts.getD g 0), rfl, rfl, SqL.of (sm _ _ (s4 _ _ elt3)), atI_nat (by rw [List.getElem?_map, List.getElem?_eq_getElem hgt, egd]; rfl), _, hc, ?_, ?_, same_mut sm hD2⟩
        · rw [List.length_map, List.length_take]
          exact small1000 (by omega)
        · rw [upd_same, List.take_add_one, eg, List.map_append]
          rfl
      · rintro H5 ⟨hc, sm5⟩
        rw [List.length_map, List.take_length] at hc
        refine ⟨(by show 2 ≤ sizeLine; decide), fun t ht => ?_⟩
        have s6 : Same H5 (upd H5 t (.tup [.ref p', .ref D2])) := same_new ht
        have s36 := (s4.trans sm5).trans s6
        exact q t p' ng' nw' D2 _ ts (s13.trans s36) iw wt (NA3.same s36) (s6 _ _ hc) upd_same (sm1.free hp') (sm1.free hng') (sm1.free hnw') (s13.free (s4.free hD2))
end
end Lag

set_option maxRecDepth 100000
set_option maxHeartbeats 8000000
namespace Lag
open PySem PySem.Spec PyProof.Rows L2
abbrev sRun : Stmt := topS 45
/-! ### several beats: the mathematics -/
def outsOf (gs : List Gt) (ts : List Int) : List Int := (plc gs "out" gs.length).map fun g => ts.getD g 0
/-- the gates' worths tss, beat by beat, and the wires behind all of them -/
def Run (gs : List Gt) : List Wr → List (List Int) → List (List Int) → List Wr → Prop
  | ws, [], tss, we => tss = [] ∧ we = ws
  | ws, rs :: rss, tss, we => ∃ ts tl, tss = ts :: tl ∧ IsW gs ws rs ts ∧ WOk1 ts ∧ Run gs (ws.map (bh ts)) rss tl we
/-- a row of this net -/
def RowOk (gs : List Gt) (rs : List Int) : Prop := rs.length = (plc gs "in" gs.length).length ∧ WOk1 rs
theorem Run.snoc {gs : List Gt} : ∀ {rss : List (List Int)} {ws wm : List Wr} {tss : List (List Int)} {rs ts : List Int}, Run gs ws rss tss wm → IsW gs wm rs ts → WOk1 ts → Run gs ws (rss ++ [rs]) (tss ++ [ts]) (wm.map (bh ts))
  | [], ws, wm, tss, rs, ts, h, i, w => by
    obtain ⟨h1, h2⟩ := h
    subst h1 h2
    exact ⟨ts, [], rfl, i, w, rfl, rfl⟩
  | r :: rss, ws, wm, tss, rs, ts, h, i, w => by
    obtain ⟨t, tl, h1, h2, h3, h4⟩ := h
    subst h1
    exact ⟨t, tl ++ [ts], rfl, h2, h3, Run.snoc h4 i w⟩
theorem Run.len {gs : List Gt} : ∀ {rss : List (List Int)} {ws we : List Wr} {tss : List (List Int)}, Run gs ws rss tss we → tss.length = rss.length
  | [], _, _, _, h => by rw [h.1]
  | r :: rss, _, _, _, h => by
    obtain ⟨t, tl, h1, _, _, h4⟩ := h
    rw [h1, List.length_cons, List.length_cons, Run.len h4]
theorem Run.ok {gs : List Gt} : ∀ {rss : List (List Int)} {ws we : List Wr} {tss : List (List Int)}, NetOk gs ws → Run gs ws rss tss we → NetOk gs we
  | [], _, _, _, N, h => by rw [h.2]; exact N
  | r :: rss, _, _, _, N, h => by
    obtain ⟨t, tl, _, _, h3, h4⟩ := h
    exact Run.ok (N.behind h3) h4
theorem Run.unique {gs : List Gt} : ∀ {rss : List (List Int)} {ws we we' : List Wr} {tss tss' : List (List Int)}, NetOk gs ws → (∀ rs ∈ rss, RowOk gs rs) → Run gs ws rss tss we → Run gs ws rss tss' we' → tss = tss' ∧ we = we'
  | [], _, _, _, _, _, N, _, h, h' => by rw [h.1, h.2, h'.1, h'.2]; exact ⟨rfl, rfl⟩
  | r :: rss, ws, we, we', tss, tss', N, hr, h, h' => by
    obtain ⟨t, tl, h1, h2, h3, h4⟩ := h
    obtain ⟨t', tl', h1', h2', h3', h4'⟩ := h'
    have e := h2.unique N (hr r (List.mem_cons_self ..)).1 h2'
    subst e
    obtain ⟨e1, e2⟩ := Run.unique (N.behind h3) (fun rs h => hr rs (List.mem_cons_of_mem _ h)) h4 h4'
    rw [h1, h1', e1, e2]
    exact ⟨rfl, rfl⟩
/-- cut in two -/
theorem Run.cut {gs : List Gt} : ∀ {r1 r2 : List (List Int)} {ws we : List Wr} {tss : List (List Int)}, Run gs ws (r1 ++ r2) tss we → ∃ t1 t2 wm, tss = t1 ++ t2 ∧ Run gs ws r1 t1 wm ∧ Run gs wm r2 t2 we
  | [], r2, ws, we, tss, h => ⟨[], tss, ws, rfl, ⟨rfl, rfl⟩, h⟩
  | r :: r1, r2, ws, we, tss, h => by
    obtain ⟨t, tl, h1, h2, h3, h4⟩ := h
    obtain ⟨t1, t2, wm, e, a, b⟩ := Run.cut h4
    exact ⟨t :: t1, t2, wm, by rw [h1, e]; rfl, ⟨t, t1, rfl, h2, h3, a⟩, b⟩
theorem LG.dr {K : PySem.W.Frag} {wl l : Addr} {H H' : Hp} {gs : List Gt} (h : LG K H l gs) (n : l ≠ wl) (W : WellAt wl H) (d : Dr wl H H') : LG K H' l gs := by
  obtain ⟨vs, q, a⟩ := h
  exact ⟨vs, d.but _ _ n q, a.imp fun _ _ r => r.tk (TK.dr W d.but)⟩
theorem LW.dr {K : PySem.W.Frag} {wl l : Addr} {H H' : Hp} {ws : List Wr} (h : LW K H l ws) (n : l ≠ wl) (W : WellAt wl H) (d : Dr wl H H') : LW K H' l ws := by
  obtain ⟨vs, q, a⟩ := h
  exact ⟨vs, d.but _ _ n q, a.imp fun _ _ r => r.tk (TK.dr W d.but)⟩
/-- what stands while a net is asked -/
structure RS (K : PySem.W.Frag) (C wl : Addr) (H : Hp) (lg lw p ng nw : Addr) (gs : List Gt) (ws : List Wr) : Prop where
  W : WellAt wl H
  g : LG K H lg gs
  w : LW K H lw ws
  n : NetAt K C H p ng nw gs ws
  n1 : lg ≠ wl
  n2 : lw ≠ wl
  n3 : p ≠ wl
  n4 : ng ≠ wl
  n5 : nw ≠ wl
theorem NetAt.dr {K : PySem.W.Frag} {C wl p ng nw : Addr} {H H' : Hp} {gs : List Gt} {ws : List Wr} (n : NetAt K C H p ng nw gs ws) (W : WellAt wl H) (n3 : p ≠ wl) (n4 : ng ≠ wl) (n5 : nw ≠ wl) (d : Dr wl H H') : NetAt K C H' p ng nw gs ws := by
  obtain ⟨dx, h⟩ := n.ob
  exact ⟨⟨dx, d.but _ _ n3 h⟩, n.g.dr n4 W d, n.w.dr n5 W d, n.ne⟩
theorem RS.dr {K : PySem.W.Frag} {C wl lg lw p ng nw : Addr} {H H' : Hp} {gs : List Gt} {ws : List Wr} (r : RS K C wl H lg lw p ng nw gs ws) (d : Dr wl H H') : RS K C wl H' lg lw p ng nw gs ws :=
  ⟨d.well, r.g.dr r.n1 r.W d, r.w.dr r.n2 r.W d, r.n.dr r.W r.n3 r.n4 r.n5 d, r.n1, r.n2, r.n3, r.n4, r.n5⟩
theorem RS.same {K : PySem.W.Frag} {C wl lg lw p ng nw : Addr} {H H' : Hp} {gs : List Gt} {ws : List Wr} (r : RS K C wl H lg lw p ng nw gs ws) (s : Same H H') : RS K C wl H' lg lw p ng nw gs ws := r.dr ⟨But.same s, r.W.same s⟩
theorem LG.mut {K : PySem.W.Frag} {l a : Addr} {H : Hp} {gs : List Gt} {xs : List V} {o : HO} (h : LG K H l gs) (e : H a = some (.lst xs)) (n : l ≠ a) : LG K (upd H a o) l gs := by
  obtain ⟨vs, q, al⟩ := h
  exact ⟨vs, by rw [upd_ne n]; exact q, al.imp fun _ _ r => r.tk (TK.lst e)⟩
theorem LW.mut {K : PySem.W.Frag} {l a : Addr} {H : Hp} {ws : List Wr} {xs : List V} {o : HO} (h : LW K H l ws) (e : H a = some (.lst xs)) (n : l ≠ a) : LW K (upd H a o) l ws := by
  obtain ⟨vs, q, al⟩ := h
  exact ⟨vs, by rw [upd_ne n]; exact q, al.imp fun _ _ r => r.tk (TK.lst e)⟩
theorem NetAt.mut {K : PySem.W.Frag} {C p ng nw a : Addr} {H : Hp} {gs : List Gt} {ws : List Wr} {xs : List V} {o : HO} (n : NetAt K C H p ng nw gs ws) (e : H a = some (.lst xs)) (h1 : ng ≠ a) (h2 : nw ≠ a) : NetAt K C (upd H a o) p ng nw gs ws := by
  obtain ⟨dx, h⟩ := n.ob
  exact ⟨⟨dx, by rw [upd_ne (ne_of h e (by intro z; cases z))]; exact h⟩, n.g.mut e h1, n.w.mut e h2, n.ne⟩
theorem RS.mut {K : PySem.W.Frag} {C wl lg lw p ng nw a : Addr} {H : Hp} {gs : List Gt} {ws : List Wr} {xs : List V} {o : HO} (r : RS K C wl H lg lw p ng nw gs ws) (e : H a = some (.lst xs)) (h0 : a ≠ wl) (h1 : lg ≠ a) (h2 : lw ≠ a) (h3 : ng ≠ a) (h4 : nw ≠ a) : RS K C wl (upd H a o) lg lw p ng nw gs ws := by
  obtain ⟨x, y, z, hw⟩ := r.W
  exact ⟨⟨x, y, z, by rw [upd_ne h0.symm]; exact hw⟩, r.g.mut e h1, r.w.mut e h2, r.n.mut e h3 h4, r.n1, r.n2, r.n3, r.n4, r.n5⟩
theorem All2.imp' {α β : Type} {R S : α → β → Prop} {xs : List α} {ys : List β} (h : All2 R xs ys) (f : ∀ x y, x ∈ xs → R x y → S x y) : All2 S xs ys := ⟨h.1, fun i x y a b => f x y (List.mem_of_getElem? a) (h.2 i x y a b)⟩
/-! ### lists of lists of whole numbers -/
def RowV (K : PySem.W.Frag) (H : Hp) (v : V) (rs : List Int) : Prop := ∃ a, v = .ref a ∧ SqL K H a (rs.map V.int)
def RR (K : PySem.W.Frag) (H : Hp) (l : Addr) (rss : List (List Int)) : Prop := ∃ vs, SqL K H l vs ∧ All2 (RowV K H) vs rss
theorem RowV.same {K : PySem.W.Frag} {H H' : Hp} {v : V} {rs : List Int} (h : RowV K H v rs) (s : Same H H') : RowV K H' v rs := by
  obtain ⟨a, e, q⟩ := h
  exact ⟨a, e, s.seq q⟩
theorem RR.same {K : PySem.W.Frag} {H H' : Hp} {l : Addr} {rss : List (List Int)} (h : RR K H l rss) (s : Same H H') : RR K H' l rss := by
  obtain ⟨vs, q, a⟩ := h
  exact ⟨vs, s.seq q, a.imp fun _ _ r => r.same s⟩
/-- lists that were laid since H0, in a list that was -/
structure LL (H0 H : Hp) (l : Addr) (xss : List (List Int)) (as : List Addr) : Prop where
  at_ : H l = some (.lst (as.map V.ref))
  al : All2 (fun a xs => H a = some (.lst (xs.map V.int))) as xss
  new : ∀ a ∈ as, H0 a = none
  nd : as.Nodup
  nl : l ∉ as
  ln : H0 l = none
theorem LL.same {H0 H H' : Hp} {l : Addr} {xss : List (List Int)} {as : List Addr} (h : LL H0 H l xss as) (s : Same H H') : LL H0 H' l xss as :=
  ⟨s _ _ h.at_, h.al.imp fun _ _ r => s _ _ r, h.new, h.nd, h.nl, h.ln⟩
theorem LL.rr {K : PySem.W.Frag} {H0 H : Hp} {l : Addr} {xss : List (List Int)} {as : List Addr} (h : LL H0 H l xss as) : RR K H l xss := by
  refine ⟨_, SqL.of h.at_, by rw [List.length_map]; exact h.al.1, fun i v xs hv hx => ?_⟩
  rw [List.getElem?_map] at hv
  cases e : as[i]? with
  | none =>
    rw [e] at hv
    cases hv
  | some a =>
    rw [e] at hv
    cases hv
    exact ⟨a, rfl, SqL.of (h.al.2 i a xs e hx)⟩
def spRun (K : PySem.W.Frag) (C : Addr) : Sp := fun vs H Q _ => ∃ (p ng nw lr : Addr) (gs : List Gt) (ws : List Wr) (rss : List (List Int)), vs = [.ref p, .ref lr] ∧ NetAt K C H p ng nw gs ws ∧ NetOk gs ws ∧ RR K H lr rss ∧ (∀ rs ∈ rss, RowOk gs rs) ∧ rss.length ≤ 1000 ∧
  ∀ t p' ng' nw' lo H' tss we as, Same H H' → Run gs ws rss tss we → NetAt K C H' p' ng' nw' gs we → LL H H' lo (tss.map (outsOf gs)) as → H' t = some (.tup [.ref p', .ref lo]) → H p' = none → H ng' = none → H nw' = none → Q (.ref t) H'
section
variable {P : Program} {w : World} {K : PySem.W.Frag} {mg : Str → Option Value} {base : Heap}
abbrev nRun : List Str := ["net", "rows", "now", "told", "row", "outs"]
theorem scRun : FnScope nRun ["net", "rows"] (defScope sRun) := ⟨rfl, rfl, rfl, by decide +kernel, rfl, by decide +kernel, by decide +kernel⟩
abbrev DRun (P : Program) (w : World) (K : PySem.W.Frag) (mg : Str → Option Value) (base : Heap) (C : Addr) := Df P w K mg base 10 "run" ["net", "rows"] (spRun K C)
theorem ok_run {f fB fI C : Addr} {fd fdB fdI : FuncData} (F : Fun K "run" "run" sRun f fd) (hm : mg "run" = some (.ref f)) (B : Bt mg) (T : NT K mg C) (DB : DBeat P w K mg base C fB fdB) (MK : Mk K C fI) (init : FnOk P w K mg base CX0 6 fI fdI ["self", "gates", "wires"] (spInit K C)) (bI : Binds K fdI ["self", "gates", "wires"] []) : DRun P w K mg base C f fd := by
  refine ⟨?_, hm, F.kp, F.binds fun _ _ _ _ _ _ us hl => match us, hl with | [_, _], _ => rfl⟩
  refine F.ok scRun (fun vs H Q E h => ?_) (fun cdv A outer s H vs Q E hr h => ?_)
  · obtain ⟨p, ng, nw, lr, gs, ws, rss, rfl, _⟩ := h
    rfl
  · obtain ⟨p, ng, nw, lr, gs, ws, rss, rfl, NA, N, ⟨rv, sr, ra⟩, hro, hrl, q⟩ := h
    have nd := scRun.nd
    have hr7 : Room 7 _ := hr.mono (by decide)
    refine ⟨_, pss_cons (ps_if (pt_not (pt_val (pe_callB call_isi (by rfl) B.isi (by decide +kernel) (pa_cons (pv 1) (pa_cons (pe_bltn (v := .ty "list") (by rfl) B.list (by decide +kernel) rfl) pa_nil))))) (pss_one ps_never) pss_nil) <|
      pss_cons (ps_set (i := 2) nd rfl (.inl rfl) (pe_make MK init hr7 (by rfl) T.mg bI .nil pass0 (pa_cons (pe_fld (pv 0) rfl) (pa_cons (pe_fld (pv 0) rfl) pa_nil)))) <|
      pss_cons (ps_set (i := 3) nd rfl (.inl rfl) (pe_lst pa_nil)) <|
      pss_cons (ps_for PassesOwn.never rfl (pi_list (pv 1)) (pg_name (i := 4) nd rfl (.inl rfl)) <|
        pss_cons (ps_asg (pe_call DB.ok hr (by rfl) DB.mg DB.kp DB.bd .nil pass0 (pa_cons (pv 2) (pa_cons (pv 4) pa_nil))) (pg_tup (by rfl) (pgs_cons (pg_name (i := 2) nd rfl (.inl rfl)) (pgs_cons (pg_name (i := 5) nd rfl (.inl rfl)) pgs_nil)))) <|
        pss_one <| ps_expr (pe_bm PySem.F.plainAttrs_list PySem.F.slot_list_append PySem.F.type_list_append mt_append (pv 3) (pa_cons (pv 5) pa_nil))) <|
      pss_one <| ps_ret <| pe_tup <| pa_cons (pv 2) <| pa_cons (pv 3) pa_nil, ?_⟩
    obtain ⟨dx, ob⟩ := NA.ob
    have hlr : rv.length = rss.length := ra.1
    refine ⟨_, rfl, _, _, _, _, true, rfl, .ty "list", ty_lst sr, kit_ty (by decide +kernel), true, rfl, iteF ?_⟩
    refine ⟨_, rfl, p, C, dx, _, _, rfl, ob, T.cl, T.nG, nf_gates _ _, _, rfl, p, C, dx, _, _, rfl, ob, T.cl, T.nW, nf_wires _ _, ?_⟩
    refine net_in NA.g.rg NA.w.rw N fun p1 ng1 nw1 H1 NA1 s1 hp1 hng1 hnw1 => ?_
    refine ⟨Nat.zero_le _, fun D hD => ?_⟩
    have hD0 : H D = none := s1.free hD
    have s2 := s1.trans (same_new (o := .lst []) hD)
    have NA2 := NA1.same (same_new (o := .lst []) hD)
    obtain ⟨g1, hg1, _⟩ := id NA1.g
    obtain ⟨w1, hw1, _⟩ := id NA1.w
    refine ⟨_, rfl, lr, rfl, ⟨_, s2.seq sr⟩, for_list (K := K) (a := lr) (xs := rv) (fun i σ H' => ∃ (s4 s5 : Option V) (pn gn wn : Addr) (wm : List Wr) (tss : List (List Int)) (as : List Addr), σ = [some (.ref p), some (.ref lr), some (.ref pn), some (.ref D), s4, s5] ∧
        NetAt K C H' pn gn wn gs wm ∧ Run gs ws (rss.take i) tss wm ∧ Same H H' ∧ LL H H' D (tss.map (outsOf gs)) as ∧ as.length = i ∧ H pn = none ∧ H gn = none ∧ H wn = none ∧ gn ≠ D ∧ wn ≠ D)
      ⟨_, _, p1, ng1, nw1, ws, [], [], rfl, NA2, ⟨rfl, rfl⟩, s2, ⟨upd_same, All2.nil, by simp, List.nodup_nil, by simp, hD0⟩, rfl, hp1, hng1, hnw1, ne_of_none hg1 hD, ne_of_none hw1 hD⟩ (fun i σ H' _ ⟨_, _, _, _, _, _, _, _, _, _, _, sm, _⟩ => sm.seq sr) ?_ ?_⟩
    · rintro i v σ H' hv ⟨s4, s5, pn, gn, wn, wm, tss, as, rfl, NAn, hrun, sm, ll, hal, hpn, hgn, hwn, ngD, nwD⟩
      obtain ⟨rs, hrs, a, rfl, sq⟩ := ra.get hv
      have hi : i < rss.length := (List.getElem?_eq_some_iff.mp hrs).1
      have hro' := hro rs (List.mem_of_getElem? hrs)
      have Nm := hrun.ok N
      refine ⟨_, rfl, _, rfl, pn, gn, wn, a, gs, wm, rs, rfl, NAn, Nm, sm.seq sq, hro'.1, hro'.2, fun t p' ng' nw' lo H2 ts s3 iw wt NA' elo et hp' hng' hnw' hlo => ?_⟩
      refine ⟨t, _, rfl, .inl (.inl et), rfl, _, _, rfl, _, _, rfl, rfl, ?_⟩
      have llD := s3 _ _ ll.at_
      have nloD : lo ≠ D := fun z => by
        rw [z, ll.at_] at hlo
        cases hlo
      have ng'D : ng' ≠ D := fun z => by
        rw [z, ll.at_] at hng'
        cases hng'
      have nw'D : nw' ≠ D := fun z => by
        rw [z, ll.at_] at hnw'
        cases hnw'
      refine ⟨_, rfl, .inl ⟨rfl, _, SqL.of llD⟩, _, rfl, D, _, _, rfl, rfl, llD, by rw [List.length_map]; exact small1000 (by omega), ?_⟩
      refine ⟨_, _, p', ng', nw', wm.map (bh ts), tss ++ [ts], as ++ [lo], rfl, NA'.mut llD ng'D nw'D, ?_, same_mut (sm.trans s3) hD0, ⟨?_, ?_, ?_, ?_, ?_, hD0⟩, by simp [hal], sm.free hp', sm.free hng', sm.free hnw', ng'D, nw'D⟩
      · rw [List.take_add_one, hrs]
        exact hrun.snoc iw wt
      · rw [upd_same, List.map_append]
        rfl
      · rw [List.map_append]
        refine All2.snoc (ll.al.imp' fun a xs ha r => ?_) ?_
        · rw [upd_ne (show a ≠ D from fun z => ll.nl (by rw [← z]; exact ha))]
          exact s3 _ _ r
        · rw [upd_ne nloD, elo]
          unfold outsOf
          rw [List.map_map]
          rfl
      · intro b hb
        rcases List.mem_append.mp hb with hb | hb
        · exact ll.new b hb
        · simp at hb
          rw [hb]
          exact sm.free hlo
      · rw [List.nodup_append]
        refine ⟨ll.nd, by simp, fun x hx y hy => ?_⟩
        simp at hy
        subst hy
        intro z
        subst z
        obtain ⟨k, hk⟩ := List.getElem?_of_mem hx
        obtain ⟨xs, _, r⟩ := ll.al.get hk
        rw [r] at hlo
        cases hlo
      · intro z
        rcases List.mem_append.mp z with z | z
        · exact ll.nl z
        · simp at z
          exact nloD z.symm
    · rintro σ H' ⟨s4, s5, pn, gn, wn, wm, tss, as, rfl, NAn, hrun, sm, ll, hal, hpn, hgn, hwn, ngD, nwD⟩
      rw [hlr, List.take_length] at hrun
      refine ⟨_, rfl, _, rfl, (by show 2 ≤ sizeLine; decide), fun t ht => ?_⟩
      have st : Same H' (upd H' t (.tup [.ref pn, .ref D])) := same_new ht
      exact q t pn gn wn D _ tss wm as (sm.trans st) hrun (NAn.same st) (ll.same st) upd_same hpn hgn hwn
end
end Lag

set_option maxRecDepth 100000
set_option maxHeartbeats 8000000
namespace Lag
open PySem PySem.Spec PyProof.Rows L2
abbrev sRows : Stmt := topS 54
theorem LL.push {H0 H H2 : Hp} {l R : Addr} {xss : List (List Int)} {xs : List Int} {as : List Addr} (h : LL H0 H l xss as) (k : ∀ a o, a = l ∨ a ∈ as → H a = some o → H2 a = some o) (hR : H R = none) (hR0 : H0 R = none) (eR : H2 R = some (.lst (xs.map V.int))) :
    LL H0 (upd H2 l (.lst (as.map V.ref ++ [.ref R]))) l (xss ++ [xs]) (as ++ [R]) := by
  have nRl : R ≠ l := fun z => by
    rw [z, h.at_] at hR
    cases hR
  refine ⟨by rw [upd_same, List.map_append]; rfl, ?_, ?_, ?_, ?_, h.ln⟩
  · refine All2.snoc (h.al.imp' fun a xs ha r => ?_) ?_
    · rw [upd_ne (show a ≠ l from fun z => h.nl (by rw [← z]; exact ha))]
      exact k a _ (.inr ha) r
    · rw [upd_ne nRl]
      exact eR
  · intro b hb
    rcases List.mem_append.mp hb with hb | hb
    · exact h.new b hb
    · simp at hb
      rw [hb]
      exact hR0
  · rw [List.nodup_append]
    refine ⟨h.nd, by simp, fun x hx y hy => ?_⟩
    simp at hy
    subst hy
    intro z
    subst z
    obtain ⟨j, hj⟩ := List.getElem?_of_mem hx
    obtain ⟨xs, _, r⟩ := h.al.get hj
    rw [r] at hR
    cases hR
  · intro z
    rcases List.mem_append.mp z with z | z
    · exact h.nl z
    · simp at z
      exact nRl z.symm
theorem LL.dr {H0 H H' : Hp} {wl l : Addr} {xss : List (List Int)} {as : List Addr} (h : LL H0 H l xss as) (W0 : WellAt wl H0) (d : Dr wl H H') : LL H0 H' l xss as :=
  ⟨d.but _ _ (W0.ne h.ln).symm h.at_, h.al.imp' fun a _ ha r => d.but _ _ (W0.ne (h.new a ha)).symm r, h.new, h.nd, h.nl, h.ln⟩
def spRows (K : PySem.W.Frag) : Sp := fun vs H Q _ => ∃ (wl lg : Addr) (m : Nat) (gs : List Gt), vs = [.ref wl, .ref lg, .int (m : Nat)] ∧ WellAt wl H ∧ lg ≠ wl ∧ LG K H lg gs ∧ gs.length ≤ 100 ∧ m ≤ 50 ∧
  ∀ rss l H' as, Dr wl H H' → (∀ rs ∈ rss, RowOk gs rs) → rss.length ≤ m → LL H H' l rss as → Q (.ref l) H'
section
variable {P : Program} {w : World} {K : PySem.W.Frag} {mg : Str → Option Value} {base : Heap}
abbrev nRows : List Str := ["_law_well_here", "_law_gates", "_law_most", "_law_many", "_law_rows_here", "_law_k", "_law_gate_here", "_law_j"]
theorem scRows : FnScope nRows ["_law_well_here", "_law_gates", "_law_most"] (defScope sRows) := ⟨rfl, rfl, rfl, by decide +kernel, rfl, by decide +kernel, by decide +kernel⟩
abbrev DRows (P : Program) (w : World) (K : PySem.W.Frag) (mg : Str → Option Value) (base : Heap) := Df P w K mg base 3 "_law_rows" ["_law_well_here", "_law_gates", "_law_most"] (spRows K)
theorem ok_rows {f fD fO : Addr} {fd fdD fdO : FuncData} (F : Fun K "_law_rows" "_law_rows" sRows f fd) (hm : mg "_law_rows" = some (.ref f)) (B : Bt mg) (DD : DDraw P w K mg base fD fdD) (DO : DOne P w K mg base fO fdO) : DRows P w K mg base f fd := by
  refine ⟨?_, hm, F.kp, F.binds fun _ _ _ _ _ _ us hl => match us, hl with | [_, _, _], _ => rfl⟩
  refine F.ok scRows (fun vs H Q E h => ?_) (fun cdv A outer s H vs Q E hr h => ?_)
  · obtain ⟨wl, lg, m, gs, rfl, _⟩ := h
    rfl
  · obtain ⟨wl, lg, mm, gs, rfl, hw, nlg, G, hgl, hmm, q⟩ := h
    have nd := scRows.nd
    have hr1 : Room 1 _ := hr.mono (by decide)
    refine ⟨_, pss_cons (ps_set (i := 3) nd rfl (.inl rfl) (pe_callB call_len_seq (by rfl) B.len PySem.boot_len (pa_cons
        (pe_lc (own := [("_law_gate_here", 6)]) (g := gName 6) (tt := tTest (tOp rEq (tOp (rIxT K) (tVar 6) (tC (.int 0))) (tC (.str "in")))) (te := tVar 6) rfl nd (pi_list (pv 1)) (blkOk_by (N := nRows) (sc := defScope sRows) (own := [("_law_gate_here", 6)]) (by decide +kernel)) (fun _ _ _ _ _ => pg_name (i := 6) nd rfl (.inl rfl))
          (fun _ _ _ _ _ => pts_one (pt_cmpR op_eq (pe_ix ix_tup (pv 6) pe_int (fun _ _ => rfl)) pe_str (nomark _))) (fun _ _ _ _ _ => pv 6)) pa_nil))) <|
      pss_cons (ps_set (i := 4) nd rfl (.inl rfl) (pe_lst pa_nil)) <|
      pss_cons (ps_for PassesOwn.never rfl (pi_range1 (by rfl) B.range (pa_cons (pe_call DD.ok hr1 (by rfl) DD.mg DD.kp DD.bd .nil pass0 (pa_cons (pv 0) (pa_cons (pe_op op_add (pv 2) pe_int) pa_nil))) pa_nil)) (pg_name (i := 5) nd rfl (.inl rfl)) <|
        pss_one <| ps_expr <| pe_bm PySem.F.plainAttrs_list PySem.F.slot_list_append PySem.F.type_list_append mt_append (pv 4) <| (pa_cons · pa_nil) <|
          pe_lc (own := [("_law_j", 7)]) (g := gName 7) (tt := tYes) (te := tCall (spOne K) [] E0 (tCons (tVar 0) (tCons (tLst (tCons (tCall spDraw [] E0 (tCons (tVar 0) (tCons (tC (.int 97)) tNil))) (tCons (tCall spDraw [] E0 (tCons (tVar 0) (tCons (tC (.int 2)) tNil))) (tCons (tC (.int 96)) tNil)))) tNil))) rfl nd
            (pi_range1 (by rfl) B.range (pa_cons (pv 3) pa_nil)) (blkOk_by (N := nRows) (sc := defScope sRows) (own := [("_law_j", 7)]) (by decide +kernel)) (fun _ _ _ _ _ => pg_name (i := 7) nd rfl (Or.inl rfl)) (fun _ _ _ _ _ => pts_nil)
            (fun _ _ _ _ _ => pe_call DO.ok hr (by rfl) DO.mg DO.kp DO.bd .nil pass0 (pa_cons (pv 0) (pa_cons (pe_lst
              (pa_cons (pe_call DD.ok hr1 (by rfl) DD.mg DD.kp DD.bd .nil pass0 (pa_cons (pv 0) (pa_cons pe_int pa_nil))) (pa_cons (pe_call DD.ok hr1 (by rfl) DD.mg DD.kp DD.bd .nil pass0 (pa_cons (pv 0) (pa_cons pe_int pa_nil))) (pa_cons pe_int pa_nil)))) pa_nil)))) <|
      pss_one <| ps_ret (pv 4), ?_⟩
    obtain ⟨gv, hgv, ga⟩ := id G
    have hlgv : gv.length = gs.length := ga.1
    refine ⟨_, rfl, lg, rfl, ⟨_, SqL.of hgv⟩, fun M hM => ?_⟩
    refine lc_list (K := K) (a := lg) (xs := gv) (fun i Hc => ∃ acc, Hc M = some (.lst acc) ∧ acc.length = (plc gs "in" i).length ∧ Same H Hc) ⟨[], upd_same, rfl, same_new hM⟩ (fun i Hc _ ⟨_, _, _, smc⟩ => SqL.of (smc _ _ hgv)) ?_ ?_
    · rintro i v Hc hv ⟨acc, hacc, hal, smc⟩
      obtain ⟨gt, hgt, gA, rfl, sq⟩ := ga.get hv
      have hi : i < gs.length := (List.getElem?_eq_some_iff.mp hgt).1
      have hkk : kindAt gs i = gt.1 := kindAt_get hgt
      have hpl := plc_len gs "in" i
      refine ⟨rfl, ?_⟩
      refine ⟨_, rfl, gA, _, 0, _, rfl, rfl, (TK.same smc).seq sq, atI_nat (j := 0) rfl, rfl, _, rfl, ite2 (fun e => ?_) (fun e => ?_)⟩
      · have hk : kindAt gs i = "in" := by
          rw [hkk]
          exact V.str.inj (of_decide_eq_true e)
        refine ⟨_, rfl, acc, hacc, small1000 (by omega), acc ++ [.ref gA], upd_same, ?_, same_mut smc hM⟩
        rw [plc_succ, if_pos hk, List.length_append, List.length_append, hal]
        rfl
      · have hk : ¬ kindAt gs i = "in" := fun z => e (decide_eq_true (by rw [← hkk, z]))
        exact ⟨acc, hacc, by rw [plc_succ, if_neg hk]; exact hal, smc⟩
    rintro H3 ⟨macc, hmacc, hml, sm3⟩
    rw [hlgv] at hml
    have D3 : Dr wl H H3 := ⟨But.same sm3, hw.same sm3⟩
    have hpl := plc_len gs "in" gs.length
    refine ⟨M, _, rfl, .inl (SqL.of hmacc), ?_⟩
    rw [hml]
    generalize hme : (plc gs "in" gs.length).length = m at hpl
    refine ⟨Nat.zero_le _, fun L hL => ?_⟩
    have hL0 : H L = none := sm3.free hL
    have nLw : L ≠ wl := (hw.ne hL0).symm
    have D4 := D3.trans (Dr.new (o := .lst []) D3.well hL)
    refine ⟨_, rfl, _, rfl, _, _, rfl, rfl, wl, _, rfl, by omega, by omega, D4.well, fun d H5 d0 d1 E5 => ?_⟩
    have D5 := D4.trans E5
    refine ⟨_, rfl, by omega, by omega, for_range (lo := 0) (n := d.toNat) (fun i σ H' => ∃ (s5 : Option V) (rss : List (List Int)) (as : List Addr), σ = [some (.ref wl), some (.ref lg), some (.int (mm : Nat)), some (.int (m : Nat)), some (.ref L), s5, none, none] ∧ LL H H' L rss as ∧ as.length = i ∧ rss.length = i ∧ (∀ rs ∈ rss, RowOk gs rs) ∧ Dr wl H H')
      ⟨_, [], [], rfl, ⟨E5.but _ _ nLw upd_same, All2.nil, by simp, List.nodup_nil, by simp, hL0⟩, rfl, rfl, by simp, D5⟩ ?_ ?_⟩
    · rintro i σ H' hi ⟨s5, rss, as, rfl, ll, hal, hrl, hok, D6⟩
      refine ⟨_, rfl, .inl ⟨rfl, _, SqL.of ll.at_⟩, _, rfl, _, rfl, by omega, by omega, fun R hR => ?_⟩
      have nRw : R ≠ wl := (D6.well.ne hR).symm
      have hR0 : H R = none := D6.free hw hR
      refine lc_range (lo := 0) (n := ((m : Int)).toNat) (fun j Hc => ∃ rs : List Int, rs.length = j ∧ WOk1 rs ∧ Hc R = some (.lst (rs.map V.int)) ∧ Dr wl H' Hc) ⟨[], rfl, by simp [WOk1], upd_same, Dr.new D6.well hR⟩ ?_ ?_
      · rintro j H7 hj ⟨rs, hrl, hrk, hrD, D7⟩
        refine ⟨rfl, tyes ?_⟩
        refine ⟨_, rfl, _, rfl, wl, 97, rfl, by decide, by decide, D7.well, fun d1 H8 a1 b1 E8 => ?_⟩
        have D8 := D7.trans E8
        refine ⟨_, rfl, wl, 2, rfl, by decide, by decide, D8.well, fun d2 H9 a2 b2 E9 => ?_⟩
        have D9 := D8.trans E9
        refine ⟨(by show 3 ≤ sizeLine; decide), fun l2 hl2 => ?_⟩
        refine ⟨wl, l2, [.int d1, .int d2, .int 96], rfl, (D9.well.ne hl2).symm, D9.well.new hl2, SqL.of upd_same, by simp, by show 3 < 1000000; decide, fun v H10 hv E10 => ?_⟩
        have D10 := (D9.trans (Dr.new D9.well hl2)).trans E10
        obtain ⟨x, rfl, x0, x1⟩ := menu3 hv a1 b1 a2 (by omega)
        have h10 : H10 R = some (.lst (rs.map V.int)) := by
          refine E10.but _ _ nRw ?_
          have h9 := E9.but _ _ nRw (E8.but _ _ nRw hrD)
          rw [upd_ne (ne_of_none h9 hl2)]
          exact h9
        refine ⟨_, h10, by rw [List.length_map, hrl]; exact small1000 (by omega), rs ++ [x], by simp [hrl], ?_, ?_, set_well D10 hR nRw⟩
        · intro y hy
          rcases List.mem_append.mp hy with hy | hy
          · exact hrk y hy
          · simp at hy
            subst hy
            exact ⟨x0, x1⟩
        · rw [upd_same, List.map_append]
          rfl
      rintro H7 ⟨rs, hrsl, hrk, hrD, D7⟩
      have ll7 := ll.dr hw D7
      refine ⟨L, _, _, rfl, rfl, ll7.at_, by rw [List.length_map]; exact small1000 (by omega), ?_⟩
      refine ⟨_, rss ++ [rs], as ++ [R], rfl, ll.push (fun a o ha e => ?_) hR hR0 hrD, by simp [hal], by simp [hrl], fun r hr => ?_, set_well (D6.trans D7) hL0 nLw⟩
      · rcases ha with rfl | ha
        · exact D7.but _ _ nLw e
        · exact D7.but _ _ (hw.ne (ll.new a ha)).symm e
      · rcases List.mem_append.mp hr with hr | hr
        · exact hok r hr
        · simp at hr
          subst hr
          exact ⟨by rw [hme]; omega, hrk⟩
    · rintro σ H' ⟨s5, rss, as, rfl, ll, hal, hrl, hok, D6⟩
      exact ⟨_, rfl, q rss L H' as D6 hok (by omega) ll⟩
end
end Lag

set_option maxRecDepth 100000
set_option maxHeartbeats 8000000
namespace Lag
open PySem PySem.Spec PyProof.Rows L2
/-! ### a wire's row of worths -/
def colOf (tss : List (List Int)) (g : Nat) : List Int := tss.map fun ts => ts.getD g 0
def rowOf (x : Wr) (tss : List (List Int)) : List Int := x.2.2 ++ colOf tss x.1
theorem rowOf_cons (x : Wr) (t : List Int) (tl : List (List Int)) : rowOf x (t :: tl) = wv t x :: rowOf (bh t x) tl := by
  obtain ⟨a, b, r⟩ := x
  cases r with
  | nil => rfl
  | cons r l =>
    show (r :: l) ++ (t.getD a 0 :: colOf tl a) = r :: ((l ++ [t.getD a 0]) ++ colOf tl a)
    rw [List.append_assoc]
    rfl
theorem Run.wire {gs : List Gt} : ∀ {rss : List (List Int)} {ws we : List Wr} {tss : List (List Int)}, Run gs ws rss tss we → we = ws.map fun x => (x.1, x.2.1, (rowOf x tss).drop tss.length)
  | [], ws, we, tss, h => by
    obtain ⟨h1, h2⟩ := h
    subst h1 h2
    refine (List.map_id'' (fun x => ?_) we).symm
    obtain ⟨a, b, r⟩ := x
    show (a, b, (r ++ []).drop 0) = (a, b, r)
    rw [List.append_nil, List.drop_zero]
  | r :: rss, ws, we, tss, h => by
    obtain ⟨t, tl, h1, _, _, h4⟩ := h
    subst h1
    rw [Run.wire h4, List.map_map]
    refine List.map_congr_left fun x _ => ?_
    obtain ⟨e1, e2, _⟩ := bh_ends t x
    show ((bh t x).1, (bh t x).2.1, (rowOf (bh t x) tl).drop tl.length) = (x.1, x.2.1, (rowOf x (t :: tl)).drop (tl.length + 1))
    rw [e1, e2, rowOf_cons, List.drop_succ_cons]
theorem one_in {gs : List Gt} {ws : List Wr} (N : NetOk gs ws) {x : Wr} (hx : x ∈ ws) (hk : kindAt gs x.2.1 = "out") (ts : List Int) : cmg ws ts x.2.1 = [wv ts x] := by
  have h1 := N.one x.2.1 (N.wok x hx).e hk
  unfold cnt at h1
  rw [List.countP_eq_length_filter] at h1
  have hm : x ∈ ws.filter fun y => y.2.1 == x.2.1 := List.mem_filter.mpr ⟨hx, by simp⟩
  unfold cmg
  obtain ⟨y, hy⟩ := List.length_eq_one_iff.mp h1
  rw [hy] at hm ⊢
  simp at hm
  rw [hm]
  rfl
theorem Run.out {gs : List Gt} : ∀ {rss : List (List Int)} {ws we : List Wr} {tss : List (List Int)} {x : Wr}, NetOk gs ws → Run gs ws rss tss we → x ∈ ws → kindAt gs x.2.1 = "out" → colOf tss x.2.1 = (rowOf x tss).take tss.length
  | [], ws, we, tss, x, N, h, _, _ => by
    rw [h.1]
    rfl
  | r :: rss, ws, we, tss, x, N, h, hx, hk => by
    obtain ⟨t, tl, h1, h2, h3, h4⟩ := h
    subst h1
    obtain ⟨e1, e2, _⟩ := bh_ends t x
    have ih := Run.out (x := bh t x) (N.behind h3) h4 (List.mem_map_of_mem hx) (by rw [e2]; exact hk)
    rw [e2] at ih
    rw [rowOf_cons]
    show t.getD x.2.1 0 :: colOf tl x.2.1 = (wv t x :: rowOf (bh t x) tl).take (tl.length + 1)
    rw [List.take_succ_cons, ← ih, h2.eq x.2.1 (N.wok x hx).e (by rw [hk]; decide +kernel), hk, one_in N hx hk, kv_out]
    rfl
theorem Run.row_len {x : Wr} {tss : List (List Int)} : (rowOf x tss).length = x.2.2.length + tss.length := by
  unfold rowOf colOf
  rw [List.length_append, List.length_map]
/-- alike as far as the rows are -/
theorem Run.same {gs : List Gt} {r1 r2 r2' : List (List Int)} {ws we we' : List Wr} {tss tss' : List (List Int)} (N : NetOk gs ws) (hr : ∀ rs ∈ r1, RowOk gs rs) (h : Run gs ws (r1 ++ r2) tss we) (h' : Run gs ws (r1 ++ r2') tss' we') : tss.take r1.length = tss'.take r1.length := by
  obtain ⟨t1, t2, wm, e, a, _⟩ := h.cut
  obtain ⟨t1', t2', wm', e', a', _⟩ := h'.cut
  obtain ⟨z, _⟩ := a.unique N hr a'
  rw [e, e', ← z, ← a.len, List.take_left, List.take_left]
end Lag

set_option maxRecDepth 100000
set_option maxHeartbeats 8000000
namespace Lag
open PySem PySem.Spec PyProof.Rows L2
/-- whole numbers, as data -/
def numsD (l : List Int) : PyData := .list (l.map PyData.int)
theorem numsD_eq (a b : List Int) : PyData.eqv (numsD a) (numsD b) = decide (a = b) := eqvAll_map (fun x y => intD_eq x y) a b
theorem sh_nums (l : List Int) : Sh 1 (numsD l) := by
  refine sh_list fun d hd => ?_
  obtain ⟨i, _, rfl⟩ := List.mem_map.mp hd
  exact sh_int _
theorem dp_nums {K : PySem.W.Frag} {H : Hp} {l : Addr} {xs : List Int} (h : SqL K H l (xs.map V.int)) : Dp K H (.ref l) (numsD xs) := .lst h (ints_dp xs)
def tupD (l : List Int) : PyData := .tuple (l.map PyData.int)
theorem tupD_eq (a b : List Int) : PyData.eqv (tupD a) (tupD b) = decide (a = b) := eqvAll_map (fun x y => intD_eq x y) a b
theorem sh_tup (l : List Int) : Sh 1 (tupD l) := by
  refine sh_tuple fun d hd => ?_
  obtain ⟨i, _, rfl⟩ := List.mem_map.mp hd
  exact sh_int _
theorem dp_tup {K : PySem.W.Frag} {H : Hp} {l : Addr} {xs : List Int} (h : SqT K H l (xs.map V.int)) : Dp K H (.ref l) (tupD xs) := .tup h (ints_dp xs)
def rowsD (l : List (List Int)) : PyData := .list (l.map numsD)
theorem rowsD_eq (a b : List (List Int)) : PyData.eqv (rowsD a) (rowsD b) = decide (a = b) := eqvAll_map numsD_eq a b
theorem sh_rows (l : List (List Int)) : Sh 2 (rowsD l) := by
  refine sh_list fun d hd => ?_
  obtain ⟨i, _, rfl⟩ := List.mem_map.mp hd
  exact sh_nums i
theorem RowV.dp {K : PySem.W.Frag} {H : Hp} {v : V} {rs : List Int} (h : RowV K H v rs) : Dp K H v (numsD rs) := by
  obtain ⟨a, rfl, q⟩ := h
  exact dp_nums q
theorem RR.dp {K : PySem.W.Frag} {H : Hp} {l : Addr} {xss : List (List Int)} (h : RR K H l xss) : Dp K H (.ref l) (rowsD xss) := by
  obtain ⟨vs, q, a⟩ := h
  exact .lst q (dp_all (fun _ _ r => r.dp) a)
theorem slA {K : PySem.W.Frag} {H : Hp} {a : Addr} {xs : List V} {lo hi : Option Int} {Q : VK} (sq : SqT K H a xs) (q : ∀ b H', Same H H' → SqT K H' b (cutV xs lo hi) → Q (.ref b) H') : rSlA K (.ref a) lo hi H Q := by
  refine ⟨a, xs, rfl, sq, fun z => q a H (Same.refl _) ?_, fun _ p hp => q p _ (same_new hp) (.inl (.inl upd_same))⟩
  unfold cutV
  rw [z.1, z.2, List.drop_zero, Nat.sub_zero, List.take_length]
  exact sq
theorem slN {K : PySem.W.Frag} {σ : L2.St} {H : Hp} {a : Addr} {xs : List V} {lo : Option Int} {Q : VK} (sq : SqT K H a xs) (q : ∀ b H', Same H H' → SqT K H' b (cutV xs lo none) → Q (.ref b) H') : tNoPart σ H (fun u H3 => rSlA K (.ref a) lo u H3 Q) := slA sq q
theorem LL.rv {K : PySem.W.Frag} {H0 H : Hp} {l : Addr} {xss : List (List Int)} {as : List Addr} (h : LL H0 H l xss as) : All2 (RowV K H) (as.map V.ref) xss := by
  refine ⟨by rw [List.length_map]; exact h.al.1, fun i v xs hv hx => ?_⟩
  rw [List.getElem?_map] at hv
  cases e : as[i]? with
  | none =>
    rw [e] at hv
    cases hv
  | some a =>
    rw [e] at hv
    cases hv
    exact ⟨a, rfl, SqL.of (h.al.2 i a xs e hx)⟩
theorem catA {K : PySem.W.Frag} {H : Hp} {a b : Addr} {xs ys : List V} {Q : VK} (sa : SqT K H a xs) (sb : SqT K H b ys) (hl : xs.length + ys.length ≤ sizeLine) (q : ∀ c H', Same H H' → SqT K H' c (xs ++ ys) → Q (.ref c) H') : rCatA K (.ref a) (.ref b) H Q := by
  refine ⟨a, b, xs, ys, rfl, rfl, sa, sb, hl, fun z => q b H (Same.refl _) ?_, fun _ z => q a H (Same.refl _) ?_, fun _ _ p hp => q p _ (same_new hp) (.inl (.inl upd_same))⟩
  · rw [z]
    exact sb
  · rw [z, List.append_nil]
    exact sa
theorem Run.lens {gs : List Gt} : ∀ {rss : List (List Int)} {ws we : List Wr} {tss : List (List Int)}, Run gs ws rss tss we → ∀ ts ∈ tss, ts.length = gs.length
  | [], _, _, _, h, ts, hts => by
    rw [h.1] at hts
    cases hts
  | r :: rss, _, _, _, h, ts, hts => by
    obtain ⟨t, tl, h1, h2, _, h4⟩ := h
    rw [h1] at hts
    rcases List.mem_cons.mp hts with e | hts
    · rw [e]
      exact h2.len
    · exact Run.lens h4 ts hts
theorem getD_at {ts : List Int} {g : Nat} (h : g < ts.length) : (ts.map V.int)[g]? = some (.int (ts.getD g 0)) := by
  rw [List.getElem?_map, List.getElem?_eq_getElem h, List.getD_eq_getElem?_getD, List.getElem?_eq_getElem h]
  rfl
def spRight : Sp := fun vs H Q _ => ∃ wl : Addr, vs = [.ref wl] ∧ WellAt wl H ∧ ∀ H', Dr wl H H' → Q (.bl true) H'
theorem first_self {K : PySem.W.Frag} (C : Addr) : PySem.W.notFirst K C (.ref C) = true := by simp [PySem.W.notFirst]
structure NC (P : Program) (w : World) (K : PySem.W.Frag) (mg : Str → Option Value) (base : Heap) (C fI fE fO : Addr) (fdI fdE fdO : FuncData) : Prop where
  T : NT K mg C
  Y : NTy K C
  mk0 : Mk K C fI
  init : FnOk P w K mg base CX0 6 fI fdI ["self", "gates", "wires"] (spInit K C)
  bI : Binds K fdI ["self", "gates", "wires"] []
  eq : FnOk P w K mg base CX0 1 fE fdE ["self", "other"] (spEqN K C)
  sE : PySem.W.findIn K (.ref C) "__eq__" = some (some (.ref fE))
  fnE : PySem.W.isFn K (.ref fE) = true
  bE : Binds K fdE ["self", "other"] []
  outs : FnOk P w K mg base CX0 2 fO fdO ["self"] (spPorts K C "out")
  mO : Meth K C "outs" fO
  bO : Binds K fdO ["self"] []
def spLaw (K : PySem.W.Frag) : Sp := fun vs H Q _ => ∃ (a : Addr) (ns : List Int), vs = [.ref a] ∧ SqL K H a (ns.map V.int) ∧ ns.length ≤ 63 ∧ ∀ H', Q (.bl true) H'
theorem mem_cut {xs : List V} {lo hi : Option Int} {v : V} (h : v ∈ cutV xs lo hi) : v ∈ xs := by
  unfold cutV at h
  exact List.mem_of_mem_drop (List.mem_of_mem_take h)
end Lag

set_option maxRecDepth 100000
set_option maxHeartbeats 8000000
namespace Lag
open PySem PySem.Spec PyProof.Rows L2
/-- what is made behind: the list grows by one -/
theorem All2.pushT {α : Type} {R : Hp → V → α → Prop} {H H2 : Hp} {D : Addr} {acc : List V} {l : List α} {v : V} {x : α} {o : HO} (mono : ∀ {H H' : Hp} {v : V} {x : α}, TK H H' → R H v x → R H' v x) (h : All2 (R H) acc l) (hD : H2 D = some (.lst acc)) (t : TK H H2) (r : R H2 v x) : All2 (R (upd H2 D o)) (acc ++ [v]) (l ++ [x]) :=
  (h.imp fun _ _ r => mono (t.trans (TK.lst hD)) r).snoc (mono (TK.lst hD) r)
def rTupOf (K : PySem.W.Frag) : List V → Hp → VK → Prop := fun xs H Q => ∃ p ys, xs = [.ref p] ∧ ((SqL K H p ys ∧ ∀ l, H l = none → Q (.ref l) (upd H l (.tup ys))) ∨ (SqT K H p ys ∧ Q (.ref p) H))
theorem pi_or {X : Cx} {tg l : Expr} {w1 w2 : TI} (h1 : PI X tg l w1) (h2 : PI X tg l w2) : PI X tg l (fun σ H R => w1 σ H R ∨ w2 σ H R) := ⟨fun pins s σ H R I h => h.elim (h1.run pins s σ H R I) (h2.run pins s σ H R I)⟩
theorem walk_zipT {K : PySem.W.Frag} {a b : Addr} {xs ys : List V} {n : Nat} (hn : n = min xs.length ys.length) : Walk (RZ.ItzT K a b) n (fun H => SqT K H a xs ∧ SqT K H b ys) (YPair (fun i => xs[i]?) (fun i => ys[i]?)) := by
  subst hn
  refine ⟨fun i _ hi q => ?_, fun _ q => ⟨xs, ys, q.1, q.2, by omega⟩, fun i H v H' _ q y => ?_⟩
  · have h1 : i < xs.length := by omega
    have h2 : i < ys.length := by omega
    exact ⟨xs, ys, xs[i], ys[i], q.1, q.2, by simp [h1], by simp [h2]⟩
  · obtain ⟨T, x, z, h1, h2, h3, h4, h5⟩ := y
    exact ⟨T, x, z, h1, h2, h3, h4 xs q.1, h5 ys q.2⟩
/-- the slots, written out -/
theorem st_norm {f : L2.St → Hp → Prop} {σ σ' : L2.St} {H : Hp} (e : σ = σ') (h : f σ' H) : f σ H := e ▸ h
/-- wires alike but for the worths in their registers -/
def LikeW (x y : Wr) : Prop := x.1 = y.1 ∧ x.2.1 = y.2.1 ∧ x.2.2.length = y.2.2.length
theorem cnt_like : ∀ {ws us : List Wr} (e : Nat), All2 LikeW ws us → cnt us e = cnt ws e
  | [], [], _, _ => rfl
  | [], _ :: _, _, a => by cases a.1
  | _ :: _, [], _, a => by cases a.1
  | x :: ws, y :: us, e, a => by
    have ih := cnt_like e a.tail
    unfold cnt at ih ⊢
    rw [List.countP_cons, List.countP_cons, ih, a.head.2.1]
theorem NetOk.like {gs : List Gt} {ws us : List Wr} (N : NetOk gs ws) (a : All2 LikeW ws us) (h : ∀ x ∈ us, ROk x.2.2) : NetOk gs us := by
  obtain ⟨ρ, hρ⟩ := N.rank
  have back : ∀ y ∈ us, ∃ x ∈ ws, LikeW x y := fun y hy => by
    obtain ⟨i, hi⟩ := List.getElem?_of_mem hy
    obtain ⟨x, hx, r⟩ := a.getR hi
    exact ⟨x, List.mem_of_getElem? hx, r⟩
  refine ⟨N.ne, N.gl, by rw [← a.1]; exact N.wl, N.gok, fun y hy => ?_, fun e he hk => by rw [cnt_like e a]; exact N.one e he hk, fun e he hk => by rw [cnt_like e a]; exact N.some e he hk, ρ, fun y hy h0 => ?_⟩
  · obtain ⟨x, hx, h1, h2, h3⟩ := back y hy
    have W := N.wok x hx
    exact ⟨by rw [← h1]; exact W.s, by rw [← h2]; exact W.e, by rw [← h1]; exact W.ks, by rw [← h2]; exact W.ke, h y hy, by rw [← h3]; exact W.rl⟩
  · obtain ⟨x, hx, h1, h2, h3⟩ := back y hy
    rw [← h1, ← h2]
    refine hρ x hx ?_
    rw [h0] at h3
    exact List.length_eq_zero_iff.mp h3
theorem kindAt_map {gs : List Gt} {f : Gt → Gt} {i : Nat} (h : i < gs.length) : kindAt (gs.map f) i = (f gs[i]).1 := by
  unfold kindAt
  rw [List.getD_eq_getElem?_getD, List.getElem?_map, List.getElem?_eq_getElem h]
  rfl
theorem kindAt_i {gs : List Gt} {i : Nat} (h : i < gs.length) : kindAt gs i = gs[i].1 := by
  unfold kindAt
  rw [List.getD_eq_getElem?_getD, List.getElem?_eq_getElem h]
  rfl
theorem like_bh (ts : List Int) (ws : List Wr) : All2 LikeW ws (ws.map (bh ts)) := by
  refine ⟨by rw [List.length_map], fun i x y hx hy => ?_⟩
  rw [List.getElem?_map, hx] at hy
  cases hy
  obtain ⟨h1, h2, h3⟩ := bh_ends ts x
  exact ⟨h1.symm, h2.symm, h3.symm⟩
theorem like_trans {ws us vs : List Wr} (a : All2 LikeW ws us) (b : All2 LikeW us vs) : All2 LikeW ws vs := by
  refine ⟨a.1.trans b.1, fun i x z hx hz => ?_⟩
  obtain ⟨y, hy, r⟩ := a.get hx
  have r2 := b.2 i y z hy hz
  exact ⟨r.1.trans r2.1, r.2.1.trans r2.2.1, r.2.2.trans r2.2.2⟩
theorem like_refl (ws : List Wr) : All2 LikeW ws ws := ⟨rfl, fun i x y hx hy => by
  rw [hx] at hy
  cases hy
  exact ⟨rfl, rfl, rfl⟩⟩
theorem Run.like {gs : List Gt} : ∀ {rss : List (List Int)} {ws we : List Wr} {tss : List (List Int)}, Run gs ws rss tss we → All2 LikeW ws we
  | [], ws, we, tss, h => by rw [h.2]; exact like_refl _
  | r :: rss, ws, we, tss, h => by
    obtain ⟨t, tl, _, _, _, h4⟩ := h
    exact like_trans (like_bh t ws) (Run.like h4)
/-- [_law_draw(_law_well_here, 97) for _law_worth in <a row>], in a tuple or a list -/
def drawsT (i : TI) (k : Nat) : TE := tLc i (gName k) tYes (tCall spDraw [] E0 (tCons (tVar 0) (tCons (tC (.int 97)) tNil))) [k]
theorem draws_in {J : It} {n : Nat} {G : Hp → Prop} {Y : Nat → Hp → V → Hp → Prop} (W : Walk J n G Y) (hY : ∀ i H x H', Y i H x H' → H' = H) {wl D : Addr} {k : Nat} {σ : L2.St} {H : Hp} {Q : Hp → Prop} (hk : k ≠ 0) (h0 : σ[0]? = some (some (.ref wl))) (hw : WellAt wl H) (hD : H D = none) (hn : n ≤ 1000)
    (hG : ∀ H', Dr wl H H' → G H') (q : ∀ H' rs, Dr wl H H' → rs.length = n → WOk1 rs → H' D = some (.lst (rs.map V.int)) → Q H') :
    ∃ W : Nat → Nat → Hp → Prop, (∃ m, W 0 m (upd H D (.lst []))) ∧ ∀ i m H, W i m H →
      (J.stop i H ∧ Q H) ∨ (J.go i H ∧ ∃ Nx : Hp → Prop, (∀ H', Nx H' → ∃ m', m' < m ∧ W (i + 1) m' H') ∧ ∀ x H', J.yld i H x H' → gName k x (wipe σ [k]) H' fun σ2 H2 => wipe σ2 [k] = wipe σ [k] ∧ tYes σ2 H2 fun b H3 =>
        if b = true then (tCall spDraw [] E0 (tCons (tVar 0) (tCons (tC (.int 97)) tNil))) σ2 H3 fun y H4 => ∃ acc, H4 D = some (.lst acc) ∧ acc.length < sizeLine ∧ Nx (upd H4 D (.lst (acc ++ [y]))) else Nx H3) := by
  have nDw : D ≠ wl := (hw.ne hD).symm
  have s0 : ∀ x, (((wipe σ [k]).set k x))[0]? = some (some (.ref wl)) := fun x => by
    show (((σ.set k none).set k x))[0]? = _
    rw [List.getElem?_set_ne hk, List.getElem?_set_ne hk]
    exact h0
  refine lc_it W (fun i Hc => ∃ rs : List Int, rs.length = i ∧ WOk1 rs ∧ Hc D = some (.lst (rs.map V.int)) ∧ Dr wl H Hc) ⟨[], rfl, by simp [WOk1], upd_same, Dr.new hw hD⟩ (fun i Hc _ ⟨_, _, _, _, d⟩ => hG Hc d) ?_ ?_
  · rintro i x Hc Hc' hi ⟨rs, hl, hr, hc, d⟩ y
    have := hY _ _ _ _ y
    subst this
    refine ⟨?_, tyes ?_⟩
    · show ((σ.set k none).set k _).set k none = σ.set k none
      simp
    refine ⟨_, s0 _, wl, 97, rfl, by decide, by decide, d.well, fun z H2 z0 z1 E => ?_⟩
    refine ⟨_, E.but _ _ nDw hc, by rw [List.length_map]; exact small1000 (by omega), rs ++ [z], by simp [hl], ?_, ?_, set_well (d.trans E) hD nDw⟩
    · intro y hy
      rcases List.mem_append.mp hy with hy | hy
      · exact hr y hy
      · simp at hy
        subst hy
        exact ⟨z0, by omega⟩
    · rw [upd_same, List.map_append]
      rfl
  · rintro Hc ⟨rs, hl, hr, hc, d⟩
    exact q Hc rs d hl hr hc
def TupV (K : PySem.W.Frag) (H : Hp) (v : V) (rs : List Int) : Prop := ∃ a, v = .ref a ∧ SqT K H a (rs.map V.int)
theorem TupV.tk {K : PySem.W.Frag} {H H' : Hp} {v : V} {rs : List Int} (t : TK H H') (h : TupV K H v rs) : TupV K H' v rs := by
  obtain ⟨a, e, s⟩ := h
  exact ⟨a, e, t.seq s⟩
def RTs (K : PySem.W.Frag) (H : Hp) (l : Addr) (xss : List (List Int)) : Prop := ∃ vs, SqL K H l vs ∧ All2 (TupV K H) vs xss
end Lag

set_option maxRecDepth 100000
set_option maxHeartbeats 8000000
/-! ### promises of defs that show data (repr): they are kept where no guard is up -/
namespace Lag
open PySem PySem.Spec PyProof.Rows L2
/-- FnOk, where no guard is up -/
structure FnG (P : Program) (w : World) (K : PySem.W.Frag) (mg : Str → Option Value) (base : Heap) (CX : CXT) (k : Nat) (f : Addr) (fd : FuncData) (ps : List Str) (sp : Sp) : Prop where
  len : ∀ vs H Q E, sp vs H Q E → vs.length = ps.length
  run : ∀ (A : Around) (outer : List Env) (s : Shared) (H : Hp) (args : Args) (us : List Value) (vs : List V) (Q : VK) (E : XK), A.guards = some [] → Room k A → Env0 P w K mg base A outer s H → BindsTo s fd args (ps.zip us) → Vals vs us → sp vs H Q E →
    codeAny (model P w) A (.call (.ref f) args) (CR CX outer P w H s Q E) s
theorem fn_g {P : Program} {w : World} {K : PySem.W.Frag} {mg : Str → Option Value} {base : Heap} {CX : CXT} {k : Nat} {f : Addr} {fd : FuncData} {ps : List Str} {sp : Sp} (F : FnOk P w K mg base CX k f fd ps sp) : FnG P w K mg base CX k f fd ps sp :=
  ⟨F.len, fun A outer s H args us vs Q E _ => F.run A outer s H args us vs Q E⟩
/-- a def by its body, entered where no guard is up -/
theorem fnG_of {CX : CXT} {P : Program} {w : World} {K : PySem.W.Frag} {mg : Str → Option Value} {base : Heap} {k : Nat} {f : Addr} {name qual : Str} {params : Arguments} {body : List Stmt} {scope : Scope} {dV kV doc pm cdv ct oc : Value} {an od : Option Addr}
    {osl : Array (Option Value)} {N ps : List Str} {sp : Sp} (lk : K.lookup f = some ⟨oc, od, .func (PySem.W.fnOf name qual params body scope dV kV doc pm an cdv ct), osl⟩) (hcd : PySem.W.codeIn K cdv qual = true) (S : FnScope N ps scope)
    (len : ∀ vs H Q E, sp vs H Q E → vs.length = ps.length)
    (hbody : ∀ (A : Around) (outer : List Env) (s : Shared) (H : Hp) (vs : List V) (Q : VK) (E : XK), A.guards = some [] → Room k (A.deeper (envOfC qual scope s.heap.objs.size f cdv)) → sp vs H Q E →
      ∃ t, PSs (cxOf CX P w K mg base N qual scope f cdv A outer s H E) body t ∧ t { nx := fun _ H' => Q .non H', rt := Q } (start N vs) H) :
    FnG P w K mg base CX (k + 1) f (PySem.W.fnOf name qual params body scope dV kV doc pm an cdv ct) ps sp := by
  constructor
  case len => exact len
  case run =>
    intro A outer s H args us vs Q E hg hr e0 hb r hsp
    obtain ⟨t, ht, hq⟩ := hbody A outer s H vs Q E hg (hr.deeper _) hsp
    have lst : ∀ b o, base.get? b = some o → s.heap.get? b = some o := fun b o e => (e0.bs b o e).1
    have KX : K.In s.heap := e0.mod.kin.keeps lst
    refine codeAny_call_function hr.depth (KX _ _ lk) rfl S.co S.gen rfl (PySem.W.codeRec_of KX hcd) (hb _ _ _ _ (wpAny_newFunctionEnv_cells S.kind (fun y hy => ?_) fun env he s1 x => ?_))
    · have hn : y.1 ∈ ps := (List.of_mem_zip (show (y.1, y.2) ∈ ps.zip us from hy)).1
      exact (S.par y.1 hn).imp id fun z => ⟨z, PySem.W.cellsFrom_some _ _ _ (.inl z)⟩
    · cases he
      refine ⟨(e0.mod.nolimit.keeps lst).keeps x.toInCall.keep, codeAny_func (wpAny_mono (ht.run [] s1 (start N vs) H _ (inv_start S hr.hd e0 (len _ _ _ _ hsp) r x) hq) (fun fl s' hs => ?_) fun e s' hs => hs)⟩
      match fl, hs with
      | .ret u, ⟨v, σ', H', J, rv, q⟩ => exact ⟨v, H', J.os, J.bare, J.base, J.hok, rv, q⟩
      | .next, ⟨σ', H', J, q⟩ => exact ⟨V.non, H', J.os, J.bare, J.base, J.hok, rfl, q⟩
      | .brk, ⟨_, _, _, q⟩ => exact False.elim q
      | .cont, ⟨_, _, _, q⟩ => exact False.elim q
/-- a def by its body, of such a promise -/
theorem fun_okG {P : Program} {w : World} {K : PySem.W.Frag} {mg : Str → Option Value} {base : Heap} {x qual : Str} {st : Stmt} {f : Addr} {fd : FuncData} {N ps : List Str} {k : Nat} {sp : Sp} (F : Fun K x qual st f fd) (S : FnScope N ps (defScope st)) (len : ∀ vs H Q E, sp vs H Q E → vs.length = ps.length)
    (hbody : ∀ (cdv : Value) (A : Around) (outer : List Env) (s : Shared) (H : Hp) (vs : List V) (Q : VK) (E : XK), (A.deeper (envOfC qual (defScope st) s.heap.objs.size f cdv)).guards = some [] → Room k (A.deeper (envOfC qual (defScope st) s.heap.objs.size f cdv)) → sp vs H Q E →
      ∃ t, PSs (cxOf CX0 P w K mg base N qual (defScope st) f cdv A outer s H E).nox (defBody st) t ∧ t { nx := fun _ H' => Q .non H', rt := Q } (start N vs) H) : FnG P w K mg base CX0 (k + 1) f fd ps sp := by
  obtain ⟨oc, od, kV, doc, pm, an, cdv, ct, osl, rfl, lk, hcd⟩ := F.ex
  refine fnG_of lk hcd S len fun A outer s H vs Q E hg hr hsp => ?_
  obtain ⟨t, h, q⟩ := hbody cdv A outer s H vs Q E hg hr hsp
  exact ⟨t, h.nox, q⟩
/-- a def at its name, of such a promise -/
structure DfG (P : Program) (w : World) (K : PySem.W.Frag) (mg : Str → Option Value) (base : Heap) (k : Nat) (name : Str) (ps : List Str) (sp : Sp) (f : Addr) (fd : FuncData) : Prop where
  ok : FnG P w K mg base CX0 k f fd ps sp
  mg : mg name = some (.ref f)
  kp : PySem.W.keepIn K (.ref f) = true
  bd : Binds K fd ps []
section
variable {X : Cx} {CX : CXT} {k : Nat} {f : Addr} {fd : FuncData} {ps : List Str} {sp : Sp} {dvs : List V} {ds : List Value} {E : XK} {x : Str} {p pos : Pos} {e : Expr} {es : List Expr} {t : TA}
/-- f(..) of such a def, in a body that was entered where no guard is up -/
theorem pe_callG (F : FnG X.prog X.w X.K X.mg X.base CX k f fd ps sp) (gd : X.A.guards = some []) (hr : Room k X.A) (hg : Gl X x) (hm : X.mg x = some (.ref f)) (hk : PySem.W.keepIn X.K (.ref f) = true) (hb : Binds X.K fd ps ds) (hd : Vals dvs ds) (hx : Passes CX X E)
    (ha : PA X (e :: es) t) (hdb : (x == ("__debug__" : Str)) = false := by decide) (he : starEach (e :: es) X.env = (false, eval e X.env) :: starEach es X.env := by rfl) (hpl : (backTo pos (starEach es X.env)).any (·.1) = false := by rfl) :
    PE X (.Call (.Name x p) (e :: es) [] pos) (tCall sp dvs E t) := by
  constructor
  intro pins s σ H Q I h
  refine wpAny_Call_Name_kw (ld_glob I hg hm (PySem.W.callWith_K (h₀ := X.base) I.ok.mod.kin hk (thn (ha.run pos pins s σ H _ I h) fun us s1 ⟨vs, H1, I1, r, q⟩ => ⟨I1.kIn, ?_⟩) he hpl) hdb)
  have r2 : Vals (vs ++ dvs) (us ++ ds) := r.append hd
  have hl : (us ++ ds).length = ps.length := by rw [← r2.length]; exact F.len _ _ _ _ q
  refine wpAny_call (codeAny_mono (F.run X.A X.stack s1 H1 ⟨us, []⟩ (us ++ ds) (vs ++ dvs) Q E gd hr I1.env0 (hb s1 us I1.kIn hl) r2 q) fun rr s' hq => ?_)
  match rr, hq with
  | .error e, hq => exact hx pins σ H1 s1 e s' I1 hq
  | .ok (.ret u), hq => exact I1.after hq
end
section
variable {X : Cx}
mutual
theorem dp_noDict {K : PySem.W.Frag} {H : Hp} : ∀ (d : PyData) {v : V}, Dp K H v d → d.hasDict = false
  | .none, _, _ => rfl
  | .bool _, _, _ => rfl
  | .int _, _, _ => rfl
  | .str _, _, _ => rfl
  | .list ds, _, h => by
    cases h with
    | lst _ a => exact dp_noDicts ds a
  | .tuple ds, _, h => by
    cases h with
    | tup _ a => exact dp_noDicts ds a
  | .dict _, _, h => by cases h
theorem dp_noDicts {K : PySem.W.Frag} {H : Hp} : ∀ (ds : List PyData) {vs : List V}, DpAll K H vs ds → PyData.hasDictAll ds = false
  | [], _, _ => rfl
  | d :: ds, _, h => by
    cases h with
    | cons h1 h2 =>
      show (d.hasDict || PyData.hasDictAll ds) = false
      rw [dp_noDict d h1, dp_noDicts ds h2]
      rfl
end
/-- repr of a list or a tuple of data -/
def rRepr (K : PySem.W.Frag) : List V → Hp → VK → Prop := fun xs H Q => ∃ (a : Addr) (d : PyData), xs = [.ref a] ∧ Dp K H (.ref a) d ∧ d.showable = true ∧ d.depth < 64 ∧ d.shown.length ≤ sizeLine ∧ Q (.str d.shown) H
theorem call_repr (gd : X.A.guards = some []) (hu : X.A.units + 65 < cLine) : CallR X (.builtin "repr") (rRepr X.K) := by
  intro pins s σ H xs us Q I r h
  obtain ⟨a, d, rfl, dp, sh, dd, hz, q⟩ := h
  obtain ⟨u, rfl, rx⟩ := vals1 r
  obtain ⟨as, rd⟩ := Dp.reads I d _ _ dp rx
  cases rx
  refine repr_of_reads' rd sh (fun hd => ?_) gd (by omega) (fun _ _ e => e) (fun h' u tk hk => ?_) hz
  · rw [dp_noDict d dp] at hd
    cases hd
  · exact I.after ⟨.str d.shown, H, rfl, I.bare, Un.kept hk, I.hok.kept hk, ⟨_, rfl⟩, q⟩
end
end Lag

set_option maxRecDepth 100000
set_option maxHeartbeats 8000000
/-! ### the end of a law whose promise is kept where no guard is up -/
namespace Lag
open PySem PySem.Spec PyProof.Rows L2
/-- the script as the law finds it: one of the module's own objects, or tracked as it stands -/
theorem script_at {P : Program} {w : World} {K : PySem.W.Frag} {a : Addr} {s : Shared} {vs : List Value} {ns : List Int} (KX : K.In s.heap) (ha : s.heap.get? a = some { cls := .type "list", data := .seq vs.toArray }) (hi : IntsAre vs ns) (hl : ns.length ≤ sizeLine) :
    ∃ H : Hp, Only H ∧ SqL K H a (ns.map V.int) ∧ HOk P w H s.heap ∧ ∀ b u, H b = some u → b = a ∧ K.lookup b = none := by
  have rv := vals_ints hi
  have lenV := hi.length
  by_cases hk : ∃ o, K.lookup a = some o
  · obtain ⟨o, hk⟩ := hk
    have e := KX a o hk
    rw [ha] at e
    cases e
    exact ⟨fun _ => none, fun _ => .inl rfl, .inr ⟨_, vs.toArray, _, hk, rfl, rfl, rfl, (by rw [List.size_toArray, lenV]; exact hl), (by simpa using rv)⟩, (fun b u z => by cases z), (fun b u z => by cases z)⟩
  · have hn : K.lookup a = none := Option.eq_none_iff_forall_ne_some.mpr fun o e => hk ⟨o, e⟩
    refine ⟨upd (fun _ => none) a (.frz { cls := .type "list", data := .seq vs.toArray } (.lst (ns.map V.int))), fun b => ?_, .inl (.inr ⟨_, upd_same⟩), fun b u z => ?_, fun b u z => ?_⟩
    · by_cases hb : b = a
      · rw [hb]
        exact .inr ⟨_, _, upd_same⟩
      · exact .inl (upd_ne hb)
    · by_cases hb : b = a
      · subst hb
        rw [upd_same] at z
        cases z
        exact ⟨ha, by rw [List.length_map]; exact hl, vs, _, rv, ha⟩
      · rw [upd_ne hb] at z
        cases z
    · by_cases hb : b = a
      · exact ⟨hb, by rw [hb]; exact hn⟩
      · rw [upd_ne hb] at z
        cases z
theorem lawG_call {P : Program} {w : World} {K : PySem.W.Frag} {mg mb : Str → Option Value} {CX : CXT} {k : Nat} {fa a : Addr} {fd : FuncData} {x : Str} {sp : Sp} {s : Shared} {vs : List Value} {ns : List Int}
    (KX : K.In s.heap) (hns : s.heap.Ns mainGlobals mg) (hb : s.heap.Ns builtinsNs mb) (hbb : ∀ x : Str, x ≠ "__name__" → mb x = bootBuiltins x) (hlim : s.heap.NoLimit) (hg : s.gens = #[])
    (ha : s.heap.get? a = some { cls := .type "list", data := .seq vs.toArray }) (hi : IntsAre vs ns) (hl : ns.length ≤ sizeLine) (hr : Room k callerA)
    (F : ∀ base : Heap, K.In base → base.Ns mainGlobals mg → FnG P w K mg base CX k fa fd [x] sp) (hbind : ∀ (s : Shared) (u : Value), BindsTo s fd ⟨[u], []⟩ [(x, u)])
    (hsp : ∀ H : Hp, Only H → SqL K H a (ns.map V.int) → sp [.ref a] H (fun v _ => v = .bl true) fun _ _ _ => False)
    (hCX : ∀ H e s', CX [] H s (fun _ _ _ => False) e s' → False) :
    codeAny (model P w) callerA (.call (.ref fa) ⟨[.ref a], []⟩) (fun r s' => r = .ok (.ret (.bool true)) ∧ OldK s.heap s'.heap ∧ s'.os = s.os ∧ AllBare s'.gens) s := by
  obtain ⟨H, only, sq, hok, own⟩ := script_at (P := P) (w := w) KX ha hi hl
  have free : ∀ {b : Addr} {o : Obj}, s.heap.get? b = some o → (b = a → (K.lookup b).isSome = true ∨ ∃ es ep, o.data = .dict es ep) → H b = none := fun {b o} e h => by
    cases q : H b with
    | none => rfl
    | some u =>
      obtain ⟨e1, e2⟩ := own b u q
      rcases h e1 with z | ⟨es, ep, z⟩
      · rw [e2] at z
        cases z
      · rw [e1, ha] at e
        have z2 : o.data = Data.seq vs.toArray 0 := (congrArg Obj.data (Option.some.inj e)).symm
        rw [z2] at z
        cases z
  have inB : ∀ {b : Addr} {o : Obj}, s.heap.get? b = some o → H b = none → (hidT s.heap H).get? b = some o := fun e n => hidT_get e n
  have nsB : ∀ {b : Addr} {m : Str → Option Value}, s.heap.Ns b m → (hidT s.heap H).Ns b m := fun ⟨o, es, ep, e, d, r⟩ => ⟨o, es, ep, inB e (free e fun _ => .inr ⟨es, ep, d⟩), d, r⟩
  have KB : K.In (hidT s.heap H) := fun b o e => inB (KX b o e) (free (KX b o e) fun _ => .inl (by rw [e]; rfl))
  obtain ⟨mc, l1, l2⟩ := hlim
  have e0 : Env0 P w K mg (hidT s.heap H) callerA [] s H :=
    { frames := rfl, mod := ⟨KB, nsB hns, ⟨mb, nsB hb, hbb⟩, ⟨mc, nsB l1, l2⟩⟩, bs := fun b o e => of_hidT e, bsz := Nat.le_of_eq (hidT_size _ _), funs := trivial, frf := (fun b z => by cases z), hok := hok, bare := .of_eq hg }
  refine codeAny_mono ((F _ KB (nsB hns)).run callerA [] s H ⟨[.ref a], []⟩ [.ref a] [.ref a] _ _ rfl hr e0 (hbind s (.ref a)) (.cons rfl .nil) (hsp H only sq)) fun r s' h => ?_
  match r, h with
  | .error e, h => exact (hCX H e s' h).elim
  | .ok (.ret u), ⟨v, H', os, bare, un, hok', rv, q⟩ =>
    have q' : v = .bl true := q
    subst q'
    cases rv
    refine ⟨rfl, OldK.of_keep fun b o e => ?_, os, bare⟩
    rcases only b with z | ⟨ob, xs, z⟩
    · exact un.keep b o e z (by intro z; cases z) (by simp)
    · obtain ⟨e1, _⟩ := hok b _ z
      obtain ⟨e2, _⟩ := hok' b _ (un.frzs b ob _ z)
      rw [e] at e1
      cases e1
      exact e2
theorem walkG_of {l : PySem.W.OpenLaw} {n k : Nat} {q : Program} {loose : List Str} {XP : (Str → Option Value) → Heap → Prop} {YP : World → Heap → Prop} {d : DefRec} {K : Params → PySem.W.Frag} {CX : World → CXT} {sp : World → Sp} {x : Str}
    (hn : l.most = some n) (hn2 : n ≤ sizeLine) (hdf : d.params.defaults = []) (hr : Room k callerA)
    (hY : ∀ (w : World) (h : Heap), YP w h → (K w.params).In h)
    (F : ∀ (w : World) (mg : Str → Option Value) (fa : Addr) (h : Heap), (K w.params).In h → h.Ns mainGlobals mg → mg d.name = some (.ref fa) →
      ∃ fd : FuncData, (∀ (s : Shared) (u : Value), BindsTo s fd ⟨[u], []⟩ [(x, u)]) ∧
        ∀ base : Heap, (K w.params).In base → base.Ns mainGlobals mg → FnG l.prog w (K w.params) mg base (CX w) k fa fd [x] (sp w))
    (hsp : ∀ (w : World) (H : Hp) (a : Addr) (ns : List Int), ns.length ≤ n → Only H → SqL (K w.params) H a (ns.map V.int) → sp w [.ref a] H (fun v _ => v = .bl true) fun _ _ _ => False)
    (hCX : ∀ (w : World) (H : Hp) (s : Shared) (e : Value) (s' : Shared), CX w [] H s (fun _ _ _ => False) e s' → False) :
    PySem.W.WalkO q loose XP YP l.row.toRowW d [] (fun f vs => PySem.call f vs) :=
  Att.attach_call hn hdf fun w s₀ s₁ mg mb fa o pm cd doc a vs ns G Y ho hd hcd hmg hobj hints hlen hg => by
    obtain ⟨fd, hb, hF⟩ := F w mg fa _ (hY w _ Y) G.T.g hmg
    exact lawG_call (hY w _ Y) G.T.g G.T.b G.T.builtins G.T.nolimit hg hobj hints (Nat.le_trans hlen hn2) hr hF hb (fun H hO hS => hsp w H a ns hlen hO hS) fun H e s' => hCX w H s₁ e s'
end Lag

set_option maxRecDepth 100000
set_option maxHeartbeats 8000000
/-! ### repr of data in which an empty dict may stand -/
namespace Lag
open PySem PySem.Spec PyProof.Rows L2
mutual
inductive Dx (K : PySem.W.Frag) (Av : Addr → Prop) (H : Hp) : V → PyData → Prop
  | non : Dx K Av H .non .none
  | bl (b : Bool) : Dx K Av H (.bl b) (.bool b)
  | int (i : Int) : Dx K Av H (.int i) (.int i)
  | str (x : Str) : Dx K Av H (.str x) (.str x)
  | lst {a : Addr} {xs : List V} {ds : List PyData} : H a = some (.lst xs) → Av a → DxAll K Av H xs ds → Dx K Av H (.ref a) (.list ds)
  | tup {a : Addr} {xs : List V} {ds : List PyData} : SqT K H a xs → DxAll K Av H xs ds → Dx K Av H (.ref a) (.tuple ds)
  | dic {a : Addr} : H a = some (.dK []) → Dx K Av H (.ref a) (.dict [])
inductive DxAll (K : PySem.W.Frag) (Av : Addr → Prop) (H : Hp) : List V → List PyData → Prop
  | nil : DxAll K Av H [] []
  | cons {v : V} {vs : List V} {d : PyData} {ds : List PyData} : Dx K Av H v d → DxAll K Av H vs ds → DxAll K Av H (v :: vs) (d :: ds)
end
abbrev Any : Addr → Prop := fun _ => True
/-- from heap to heap, and to fewer demands on the lists -/
structure XM (K : PySem.W.Frag) (Av Av' : Addr → Prop) (H H' : Hp) : Prop where
  l : ∀ a xs, Av a → H a = some (.lst xs) → H' a = some (.lst xs) ∧ Av' a
  t : ∀ a xs, SqT K H a xs → SqT K H' a xs
  d : ∀ a, H a = some (.dK []) → H' a = some (.dK [])
mutual
theorem Dx.move {K : PySem.W.Frag} {Av Av' : Addr → Prop} {H H' : Hp} (m : XM K Av Av' H H') : ∀ (d : PyData) {v : V}, Dx K Av H v d → Dx K Av' H' v d
  | .none, _, h => by cases h; exact .non
  | .bool _, _, h => by cases h; exact .bl _
  | .int _, _, h => by cases h; exact .int _
  | .str _, _, h => by cases h; exact .str _
  | .list ds, _, h => by
    cases h with
    | lst s n a => exact .lst (m.l _ _ n s).1 (m.l _ _ n s).2 (DxAll.move m ds a)
  | .tuple ds, _, h => by
    cases h with
    | tup s a => exact .tup (m.t _ _ s) (DxAll.move m ds a)
  | .dict _, _, h => by
    cases h with
    | dic e => exact .dic (m.d _ e)
theorem DxAll.move {K : PySem.W.Frag} {Av Av' : Addr → Prop} {H H' : Hp} (m : XM K Av Av' H H') : ∀ (ds : List PyData) {vs : List V}, DxAll K Av H vs ds → DxAll K Av' H' vs ds
  | [], _, h => by cases h; exact .nil
  | d :: ds, _, h => by
    cases h with
    | cons a b => exact .cons (Dx.move m d a) (DxAll.move m ds b)
end
theorem XM.same {K : PySem.W.Frag} {Av : Addr → Prop} {H H' : Hp} (s : Same H H') : XM K Av Av H H' := ⟨fun a xs n h => ⟨s _ _ h, n⟩, fun a xs h => (TK.same s).seq h, fun a h => s _ _ h⟩
theorem XM.any {K : PySem.W.Frag} {Av : Addr → Prop} {H : Hp} : XM K Av Any H H := ⟨fun a xs n h => ⟨h, trivial⟩, fun a xs h => h, fun a h => h⟩
theorem Dx.same {K : PySem.W.Frag} {Av : Addr → Prop} {H H' : Hp} {d : PyData} {v : V} (h : Dx K Av H v d) (s : Same H H') : Dx K Av H' v d := Dx.move (.same s) d h
theorem Dx.any {K : PySem.W.Frag} {Av : Addr → Prop} {H : Hp} {d : PyData} {v : V} (h : Dx K Av H v d) : Dx K Any H v d := Dx.move .any d h
theorem XM.dr {K : PySem.W.Frag} {w : Addr} {H H' : Hp} (W : WellAt w H) (r : Dr w H H') : XM K (· ≠ w) (· ≠ w) H H' := ⟨fun a xs n h => ⟨r.but _ _ n h, n⟩, fun a xs h => (TK.dr W r.but).seq h, fun a h => r.but _ _ (fun z => by
  obtain ⟨_, _, _, e⟩ := W
  rw [z, e] at h
  cases h) h⟩
theorem Dx.dr {K : PySem.W.Frag} {w : Addr} {H H' : Hp} {d : PyData} {v : V} (h : Dx K (· ≠ w) H v d) (W : WellAt w H) (r : Dr w H H') : Dx K (· ≠ w) H' v d := Dx.move (.dr W r) d h
theorem DxAll.all2 {K : PySem.W.Frag} {Av : Addr → Prop} {H : Hp} : ∀ {vs : List V} {ds : List PyData}, DxAll K Av H vs ds → All2 (Dx K Av H) vs ds
  | _, _, .nil => All2.nil
  | v :: vs, d :: ds, .cons h r => by
    have a := DxAll.all2 r
    refine ⟨by rw [List.length_cons, List.length_cons, a.1], fun i x y hx hy => ?_⟩
    cases i with
    | zero =>
      cases hx
      cases hy
      exact h
    | succ i => exact a.2 i x y hx hy
theorem DxAll.from2 {K : PySem.W.Frag} {Av : Addr → Prop} {H : Hp} : ∀ {vs : List V} {ds : List PyData}, All2 (Dx K Av H) vs ds → DxAll K Av H vs ds
  | [], [], _ => .nil
  | [], _ :: _, a => by have := a.1; simp at this
  | _ :: _, [], a => by have := a.1; simp at this
  | _ :: _, _ :: _, a => .cons (a.head) (DxAll.from2 a.tail)
section
variable {X : Cx} {pins : List (Addr × Obj)} {σ : L2.St} {H : Hp} {s : Shared}
theorem dx_empty (I : Inv X pins σ H s) {a : Addr} (e : H a = some (.dK [])) : (a == sysModules) = false ∧ ∃ o n, s.heap.get? a = some o ∧ o.cls = .type "dict" ∧ o.data = .dict #[] n := by
  obtain ⟨_, hs, vs, kv, o, es, ep, h1, h2, h3, _, h5, _⟩ := dk_of I.hok e
  cases kv
  refine ⟨hs, o, ep, h1, h2.1, ?_⟩
  have : es = #[] := by
    obtain ⟨l⟩ := es
    cases l with
    | nil => rfl
    | cons x r => cases h5
  rw [h3, this]
mutual
theorem Dx.show {Av : Addr → Prop} (I : Inv X pins σ H s) : ∀ (d : PyData) (v : V) (u : Value), Dx X.K Av H v d → RelV v u → d.showable = true → d.shown.length ≤ sizeLine → ∃ as bs, Reads s.heap u d as ∧ ReadAtMost s.heap d.depth bs ∧ ReprK X.prog X.w bs s.heap d.depth u d.shown
  | .none, _, _, h, r, _, _ => by
    cases h
    cases r
    exact ⟨_, [], Reads.none, (fun _ h => nomatch h), by simp only [PyData.shown]; exact .of_is ReprIs.none _ _ _⟩
  | .bool b, _, _, h, r, _, _ => by
    cases h
    cases r
    exact ⟨_, [], Reads.bool b, (fun _ h => nomatch h), by simp only [PyData.shown]; exact .of_is (ReprIs.bool b) _ _ _⟩
  | .int i, _, _, h, r, hs, _ => by
    cases h
    obtain ⟨t, rfl⟩ := r
    exact ⟨_, [], Reads.int i t, (fun _ h => nomatch h), by simp only [PyData.shown]; exact .of_is (ReprIs.int t (by simpa [PyData.showable] using hs)) _ _ _⟩
  | .str x, _, _, h, r, _, hz => by
    cases h
    obtain ⟨t, rfl⟩ := r
    exact ⟨_, [], Reads.str x t, (fun _ h => nomatch h), by simp only [PyData.shown]; exact .of_is (ReprIs.str x t (by simpa only [PyData.shown] using hz)) _ _ _⟩
  | .list ds, _, _, h, r, hs, hz => by
    cases h with
    | lst hq hav ha =>
      cases r
      obtain ⟨its, rv, ⟨o, n, ho, hc, _, hd⟩, _⟩ := I.list (SqL.of hq)
      have hz' : (listText (PyData.shownAll ds)).length ≤ sizeLine := by simpa only [PyData.shown] using hz
      obtain ⟨as, bs, r1, hb, hk⟩ := DxAll.show I ds _ its ha rv (by simpa [PyData.showable] using hs) (fun t ht => Nat.le_trans (listText_mem_le ht) hz')
      have r := Reads.list ho hc hd r1
      have hna := not_mem_of_deeper r (by simp only [PyData.depth]; omega) hb
      refine ⟨_, _ :: bs, r, ReadAtMost.cons r (by simp only [PyData.depth]; omega) hb, ?_⟩
      simp only [PyData.depth, PyData.shown]
      cases its with
      | nil =>
        cases r1
        simp only [PyData.shownAll, listText_nil]
        exact ReprK.listEmpty ho hc hd
      | cons x l => exact ReprK.list ho hc hd hna (by simpa using hk.length_eq) (fun i y e => hk.item i y (by simpa using e))
  | .tuple ds, _, _, h, r, hs, hz => by
    cases h with
    | tup hq ha =>
      cases r
      obtain ⟨its, rv, ⟨o, ho, hc, n, hd⟩, _⟩ := I.tuple hq
      have hz' : (tupleText (PyData.shownAll ds)).length ≤ sizeLine := by simpa only [PyData.shown] using hz
      obtain ⟨as, bs, r1, hb, hk⟩ := DxAll.show I ds _ its ha rv (by simpa [PyData.showable] using hs) (fun t ht => Nat.le_trans (tupleText_mem_le ht) hz')
      have r := Reads.tuple ho hc hd r1
      have hna := not_mem_of_deeper r (by simp only [PyData.depth]; omega) hb
      refine ⟨_, _ :: bs, r, ReadAtMost.cons r (by simp only [PyData.depth]; omega) hb, ?_⟩
      simp only [PyData.depth, PyData.shown]
      exact ReprK.tuple ho hc hd hna hk
  | .dict kvs, _, _, h, r, hs, hz => by
    cases h with
    | dic e =>
      cases r
      obtain ⟨hsys, o, n, h1, h2, h3⟩ := dx_empty I e
      have r := Reads.dict (kvs := []) (as := []) (bs := []) h1 h2 h3 (by exact ReadsAll.nil) (by exact ReadsAll.nil)
      refine ⟨_, [_], r, ReadAtMost.cons (n := 0) r (Nat.zero_le _) (fun _ h => nomatch h), ?_⟩
      simp only [PyData.depth, PyData.shown, PyData.shownKv_eq]
      exact ReprK.dict h1 h2 h3 hsys (by simp) (ReprEntriesK.of_two [] _ _ .nil .nil)
theorem DxAll.show {Av : Addr → Prop} (I : Inv X pins σ H s) : ∀ (ds : List PyData) (vs : List V) (us : List Value), DxAll X.K Av H vs ds → Vals vs us → PyData.showableAll ds = true → (∀ t ∈ PyData.shownAll ds, t.length ≤ sizeLine) → ∃ as bs, ReadsAll s.heap us ds as ∧ ReadAtMost s.heap (PyData.depthAll ds) bs ∧ ReprAllK X.prog X.w bs s.heap (PyData.depthAll ds) us (PyData.shownAll ds)
  | [], _, _, h, r, _, _ => by
    cases h
    cases r
    exact ⟨_, [], ReadsAll.nil, (fun _ h => nomatch h), by simp only [PyData.shownAll]; exact .nil⟩
  | d :: ds, _, _, h, r, hs, hz => by
    cases h with
    | cons h1 h2 =>
      cases r with
      | cons r1 r2 =>
        have hs' : d.showable = true ∧ PyData.showableAll ds = true := by simpa [PyData.showableAll] using hs
        obtain ⟨a1, b1, q1, hb1, k1⟩ := Dx.show I d _ _ h1 r1 hs'.1 (hz _ (by simp only [PyData.shownAll]; exact List.mem_cons_self ..))
        obtain ⟨a2, b2, q2, hb2, k2⟩ := DxAll.show I ds _ _ h2 r2 hs'.2 (fun t ht => hz t (by simp only [PyData.shownAll]; exact List.mem_cons_of_mem _ ht))
        refine ⟨_, b1 ++ b2, ReadsAll.cons q1 q2, ?_, ?_⟩
        · intro b hm
          simp only [PyData.depthAll]
          rcases List.mem_append.mp hm with hm | hm
          · obtain ⟨d', as', r', hd'⟩ := hb1 b hm
            exact ⟨d', as', r', Nat.le_trans hd' (Nat.le_max_left _ _)⟩
          · obtain ⟨d', as', r', hd'⟩ := hb2 b hm
            exact ⟨d', as', r', Nat.le_trans hd' (Nat.le_max_right _ _)⟩
        · simp only [PyData.depthAll, PyData.shownAll]
          exact .cons ((k1.more fun b hb => List.mem_append_left _ hb).level_le (Nat.le_max_left _ _)) (k2.more_le (fun b hb => List.mem_append_right _ hb) (Nat.le_max_right _ _))
end
end
section
variable {X : Cx}
/-- repr of such data -/
def rReprX (K : PySem.W.Frag) : List V → Hp → VK → Prop := fun xs H Q => ∃ (v : V) (d : PyData), xs = [v] ∧ Dx K Any H v d ∧ d.showable = true ∧ d.depth < 64 ∧ d.shown.length ≤ sizeLine ∧ Q (.str d.shown) H
theorem call_reprX (gd : X.A.guards = some []) (hu : X.A.units + 65 < cLine) : CallR X (.builtin "repr") (rReprX X.K) := by
  intro pins s σ H xs us Q I r h
  obtain ⟨v, d, rfl, dx, sh, dd, hz, q⟩ := h
  obtain ⟨u, rfl, rx⟩ := vals1 r
  have fin : ∀ (h' : Heap) (u : Tok) (tk : Nat), (∀ b o, s.heap.get? b = some o → h'.get? b = some o) → ∃ (v : V) (H' : Hp), Inv X pins σ H' { s with heap := h', toks := tk } ∧ RelV v (.str d.shown u) ∧ Q v H' := fun h' u tk hk => I.after ⟨.str d.shown, H, rfl, I.bare, Un.kept hk, I.hok.kept hk, ⟨_, rfl⟩, q⟩
  cases dx with
  | non =>
    cases rx
    exact PySem.P.repr_of_none (fin s.heap _ _ fun _ _ e => e)
  | bl b =>
    cases rx
    refine PySem.P.repr_of_bool ?_
    have e : (if b then ("True" : Str) else "False") = PyData.shown (.bool b) := by cases b <;> rfl
    exact fin s.heap _ _ fun _ _ e => e
  | int i =>
    obtain ⟨t, rfl⟩ := rx
    exact PySem.P.repr_of_int (by simpa [PyData.showable] using sh) (fin s.heap _ _ fun _ _ e => e)
  | str x =>
    obtain ⟨t, rfl⟩ := rx
    exact PySem.P.repr_of_str (fin s.heap _ _ fun _ _ e => e) (by simpa only [PyData.shown] using hz)
  | lst hq hav ha =>
    rename_i a xs ds
    cases rx
    obtain ⟨its, rv, ⟨o, n, ho, hc, _, hd⟩, _⟩ := I.list (SqL.of hq)
    have hz' : (listText (PyData.shownAll ds)).length ≤ sizeLine := by simpa only [PyData.shown] using hz
    obtain ⟨as, bs, r1, hb, hk⟩ := DxAll.show I ds _ its ha rv (by simpa [PyData.showable] using sh) (fun t ht => Nat.le_trans (listText_mem_le ht) hz')
    have hna : a ∉ bs := not_mem_of_deeper (Reads.list ho hc hd r1) (by simp only [PyData.depth]; omega) hb
    refine call_repr_slot (by omega) ⟨o, ho, hc⟩ (F.slot_list_repr.toG) ?_
    simp only [PyData.depth] at dd
    simp only [PyData.shown] at fin
    cases its with
    | nil =>
      cases r1
      simp only [PyData.shownAll, listText_nil] at fin
      exact call_list_repr_empty ⟨o, ho, hc⟩ ho hd ⟨_, _, rfl, fin s.heap _ _ fun _ _ e => e⟩
    | cons x l =>
      exact call_list_reprK ho hc hd hna (by simpa using hk.length_eq) (fun i y e => hk.item i y (by simpa using e)) gd (fun b _ => Clear.nil b) (by show X.A.units + 1 + _ < cLine; omega) (fun _ _ e => e) (fun h' u tk hk => ⟨_, _, rfl, fin h' u tk hk⟩) hz'
  | tup hq ha =>
    rename_i a xs ds
    cases rx
    obtain ⟨its, rv, ⟨o, ho, hc, n, hd⟩, _⟩ := I.tuple hq
    have hz' : (tupleText (PyData.shownAll ds)).length ≤ sizeLine := by simpa only [PyData.shown] using hz
    obtain ⟨as, bs, r1, hb, hk⟩ := DxAll.show I ds _ its ha rv (by simpa [PyData.showable] using sh) (fun t ht => Nat.le_trans (tupleText_mem_le ht) hz')
    have hna : a ∉ bs := not_mem_of_deeper (Reads.tuple ho hc hd r1) (by simp only [PyData.depth]; omega) hb
    refine call_repr_slot (by omega) ⟨o, ho, hc⟩ F.slot_tuple_repr ?_
    simp only [PyData.depth] at dd
    simp only [PyData.shown] at fin
    exact call_tuple_reprK ho hc hd hna hk gd (fun b _ => Clear.nil b) (by show X.A.units + 1 + _ < cLine; omega) (fun _ _ e => e) (fun h' u tk hk => ⟨_, _, rfl, fin h' u tk hk⟩) hz'
  | dic e =>
    rename_i a
    cases rx
    obtain ⟨hsys, o, n, h1, h2, h3⟩ := dx_empty I e
    refine call_repr_slot (by omega) ⟨o, h1, h2⟩ F.slot_dict_repr ?_
    simp only [PyData.depth] at dd
    simp only [PyData.shown, PyData.shownKv_eq] at fin hz
    exact call_dict_reprK (as := []) (d := 0) h1 h2 h3 hsys (by simp) (ReprEntriesK.of_two [] _ _ .nil .nil) gd (fun b _ => Clear.nil b) (by show X.A.units + 1 + _ < cLine; omega) (fun _ _ e => e) (fun h' u tk hk => ⟨_, _, rfl, fin h' u tk hk⟩) hz
end
end Lag

set_option maxRecDepth 100000
set_option maxHeartbeats 8000000
namespace Lag
open PySem PySem.Spec PyProof.Rows L2
/-! ### data of any kind where a number or a turn is asked -/
def dI : PyData → Bool
  | .int _ => true
  | .bool _ => true
  | _ => false
def dB : PyData → Bool
  | .bool _ => true
  | _ => false
def dT : PyData → Bool
  | .tuple _ => true
  | _ => false
def dL : PyData → Bool
  | .list _ => true
  | _ => false
def wholeD : PyData → Bool
  | .int _ => true
  | _ => false
def fromD : PyData → Int → Int → Bool
  | .int n, a, b => decide (a ≤ n) && decide (n ≤ b)
  | _, _, _ => false
theorem whole_is (d : PyData) : wholeD d = (dI d && !dB d) := by cases d <;> rfl
theorem Dx.ty {K : PySem.W.Frag} {Av : Addr → Prop} {H : Hp} {v : V} {d : PyData} (h : Dx K Av H v d) : ∃ t : String, TyX K H v (.type t) ∧ kitB t "int" = some (dI d) ∧ kitB t "bool" = some (dB d) ∧ kitB t "tuple" = some (dT d) ∧ kitB t "list" = some (dL d) := by
  cases h with
  | non => exact ⟨"NoneType", .base .non, (show kitB "NoneType" "int" = some false by decide +kernel), (show kitB "NoneType" "bool" = some false by decide +kernel), (show kitB "NoneType" "tuple" = some false by decide +kernel), (show kitB "NoneType" "list" = some false by decide +kernel)⟩
  | bl b => exact ⟨"bool", .base (.bl b), (show kitB "bool" "int" = some true by decide +kernel), (show kitB "bool" "bool" = some true by decide +kernel), (show kitB "bool" "tuple" = some false by decide +kernel), (show kitB "bool" "list" = some false by decide +kernel)⟩
  | int i => exact ⟨"int", .base (.int i), (show kitB "int" "int" = some true by decide +kernel), (show kitB "int" "bool" = some false by decide +kernel), (show kitB "int" "tuple" = some false by decide +kernel), (show kitB "int" "list" = some false by decide +kernel)⟩
  | str x => exact ⟨"str", .base (.str x), (show kitB "str" "int" = some false by decide +kernel), (show kitB "str" "bool" = some false by decide +kernel), (show kitB "str" "tuple" = some false by decide +kernel), (show kitB "str" "list" = some false by decide +kernel)⟩
  | lst s n a => exact ⟨"list", ty_lst (SqL.of s), (show kitB "list" "int" = some false by decide +kernel), (show kitB "list" "bool" = some false by decide +kernel), (show kitB "list" "tuple" = some false by decide +kernel), (show kitB "list" "list" = some true by decide +kernel)⟩
  | tup s a => exact ⟨"tuple", ty_tup s, (show kitB "tuple" "int" = some false by decide +kernel), (show kitB "tuple" "bool" = some false by decide +kernel), (show kitB "tuple" "tuple" = some true by decide +kernel), (show kitB "tuple" "list" = some false by decide +kernel)⟩
  | dic e => exact ⟨"dict", .base (.dK e), (show kitB "dict" "int" = some false by decide +kernel), (show kitB "dict" "bool" = some false by decide +kernel), (show kitB "dict" "tuple" = some false by decide +kernel), (show kitB "dict" "list" = some false by decide +kernel)⟩
def spWholeD (K : PySem.W.Frag) : Sp := fun vs H Q _ => ∃ (v : V) (d : PyData), vs = [v] ∧ Dx K Any H v d ∧ Q (.bl (wholeD d)) H
def spFromToD (K : PySem.W.Frag) : Sp := fun vs H Q _ => ∃ (v : V) (d : PyData) (a b : Int), vs = [v, .int a, .int b] ∧ Dx K Any H v d ∧ Q (.bl (fromD d a b)) H
def spWorthD (K : PySem.W.Frag) : Sp := fun vs H Q _ => ∃ (v : V) (d : PyData), vs = [v] ∧ Dx K Any H v d ∧ Q (.bl (fromD d 0 96)) H
theorem vint_eq (a b : Int) : decide (V.int a = V.int b) = decide (a = b) := decide_eq_decide.mpr ⟨fun h => by injection h, fun h => by rw [h]⟩
/-- an error of the class at S is what «except S» names -/
theorem exm_self {K : PySem.W.Frag} {S : Addr} (h1 : PySem.W.subIn K (.ref S) (.type "BaseException") = some true) (h2 : PySem.W.isClsIn K S = true) (h3 : PySem.W.typeIn K (.ref S) = some (.type "type")) (h4 : PySem.W.subIn K (.ref S) (.ref S) = some true) :
    PySem.W.exmOne K (.ref S) (.ref S) = some true := by
  have e1 : (PySem.W.subIn K (.ref S) (.type "BaseException") == some true) = true := by rw [h1] <;> rfl
  have e2 : ((PySem.W.clsIn K S).isSome && PySem.W.typeIn K (.ref S) == some (.type "type")) = true := by
    have h2' : (PySem.W.clsIn K S).isSome = true := h2
    rw [h2', h3] <;> rfl
  show (if (PySem.W.subIn K (.ref S) (.type "BaseException") == some true) = true then (if ((PySem.W.clsIn K S).isSome && PySem.W.typeIn K (.ref S) == some (.type "type")) = true then PySem.W.subIn K (.ref S) (.ref S) else none) else none) = some true
  rw [if_pos e1, if_pos e2]
  exact h4
/-- what the top tells of a class under LagError that has nothing of its own -/
structure PEx (K : PySem.W.Frag) (mg : Str → Option Value) (x : Str) (C : Addr) : Prop where
  g : mg x = some (.ref C)
  q : PySem.W.excIn K C [.type "ValueError", .type "Exception", .type "BaseException", .type "object"] "ValueError.__new__" = true
  k : PySem.W.keepIn K (.ref C) = true
  e : PySem.W.subIn K (.ref C) (.type "BaseException") = some true
  t : PySem.W.typeIn K (.ref C) = some (.type "type")
  te : PySem.W.exmOne K (.ref C) (.ref C) = some true
theorem fn_cx0 {P : Program} {w : World} {K : PySem.W.Frag} {mg : Str → Option Value} {base : Heap} {CX : CXT} {k : Nat} {f : Addr} {fd : FuncData} {ps : List Str} {sp : Sp} (F : FnOk P w K mg base CX0 k f fd ps sp) : FnOk P w K mg base CX k f fd ps sp :=
  ⟨F.len, fun A outer s H args us vs Q E hr he hb hv hs => codeAny_mono (F.run A outer s H args us vs Q E hr he hb hv hs) fun r s' h => by
    cases r with
    | error e => exact False.elim h
    | ok fl =>
      cases fl with
      | ret u => exact h
      | next => exact False.elim h
      | brk => exact False.elim h
      | cont => exact False.elim h⟩
theorem fn_or {P : Program} {w : World} {K : PySem.W.Frag} {mg : Str → Option Value} {base : Heap} {CX : CXT} {k : Nat} {f : Addr} {fd : FuncData} {ps : List Str} {sp sp' : Sp} (F : FnOk P w K mg base CX k f fd ps sp) (F' : FnOk P w K mg base CX k f fd ps sp') : FnOk P w K mg base CX k f fd ps (fun vs H Q E => sp vs H Q E ∨ sp' vs H Q E) :=
  ⟨fun vs H Q E h => h.elim (F.len vs H Q E) (F'.len vs H Q E), fun A outer s H args us vs Q E hr he hb hv hs => hs.elim (F.run A outer s H args us vs Q E hr he hb hv) (F'.run A outer s H args us vs Q E hr he hb hv)⟩
/-! ### what is no row -/
/-- is this a row of n worths -/
def rowD (n : Nat) : PyData → Bool
  | .list ds => decide (ds.length = n) && ds.all fun d => fromD d 0 96
  | _ => false
/-- a row asked of a net, which is none -/
def NoRowAt (K : PySem.W.Frag) (C CR : Addr) (p : Addr) (v : V) (H : Hp) (E : XK) : Prop := ∃ (ng nw : Addr) (gs : List Gt) (ws : List Wr) (d : PyData), NetAt K C H p ng nw gs ws ∧ gs.length ≤ 1000 ∧ Dx K Any H v d ∧ rowD (plc gs "in" gs.length).length d = false ∧ ∀ H', Same H H' → E (.ref CR) none H'
def spRowX (K : PySem.W.Frag) (C CR : Addr) : Sp := fun vs H Q E => ∃ (p : Addr) (v : V), vs = [.ref p, v] ∧ NoRowAt K C CR p v H E
section
variable {P : Program} {w : World} {K : PySem.W.Frag} {mg : Str → Option Value} {base : Heap}
theorem ok_wholeD {f : Addr} {fd : FuncData} (F : Fun K "is_whole" "is_whole" sWhole f fd) (B : Bt mg) : FnOk P w K mg base CX0 1 f fd ["thing"] (spWholeD K) := by
  refine F.ok scWhole (fun vs H Q E h => ?_) (fun cdv A outer s H vs Q E hr h => ?_)
  · obtain ⟨v, d, rfl, _⟩ := h
    rfl
  · obtain ⟨v, d, rfl, hd, q⟩ := h
    refine ⟨_, pss_one <| ps_ret <| pe_and (pe_callB call_isi (by rfl) B.isi (by decide +kernel) (pa_cons (pv 0) (pa_cons (pe_bltn (v := .ty "int") (by rfl) B.int (by decide +kernel) rfl) pa_nil)))
      (pe_one (pe_not (pe_callB call_isi (by rfl) B.isi (by decide +kernel) (pa_cons (pv 0) (pa_cons (pe_bltn (v := .ty "bool") (by rfl) B.bool (by decide +kernel) rfl) pa_nil))))), ?_⟩
    obtain ⟨t, ty, k1, k2, _⟩ := hd.ty
    rw [whole_is] at q
    refine ⟨_, rfl, _, _, _, _, dI d, rfl, .ty "int", ty, kit_ty k1, dI d, rfl, ite2 (fun e1 => ?_) (fun e1 => ?_)⟩
    · rw [e1] at q
      exact ⟨_, rfl, _, _, _, _, dB d, rfl, .ty "bool", ty, kit_ty k2, dB d, rfl, q⟩
    · have e2 : dI d = false := by simpa using e1
      rw [e2] at q
      exact q
theorem ok_fromToD {f fW : Addr} {fd fdW : FuncData} (F : Fun K "is_whole_from_to" "is_whole_from_to" sFromTo f fd) (DW : DWhole P w K mg base fW fdW) (DX : FnOk P w K mg base CX0 1 fW fdW ["thing"] (spWholeD K)) : FnOk P w K mg base CX0 2 f fd ["thing", "least", "greatest"] (spFromToD K) := by
  refine F.ok scFromTo (fun vs H Q E h => ?_) (fun cdv A outer s H vs Q E hr h => ?_)
  · obtain ⟨v, d, a, b, rfl, _⟩ := h
    rfl
  · obtain ⟨v, d, a, b, rfl, hd, q⟩ := h
    have hr1 : Room 1 _ := hr.mono (by decide)
    refine ⟨_, pss_one <| ps_ret <| pe_and (pe_call DX hr1 (by rfl) DW.mg DW.kp DW.bd .nil pass0 (pa_cons (pv 0) pa_nil)) (pe_one (pe_chain op_le op_le (pv 1) (pv 0) (pv 2))), ?_⟩
    refine ⟨_, rfl, v, d, rfl, hd, wholeD d, rfl, ?_⟩
    cases hd with
    | int n =>
      refine iteT ?_
      refine ⟨_, rfl, _, rfl, _, _, rfl, rfl, _, rfl, ?_⟩
      have q : Q (.bl (decide (a ≤ n) && decide (n ≤ b))) H := q
      cases e : decide (a ≤ n) with
      | false =>
        rw [e] at q
        exact iteF q
      | true =>
        rw [e] at q
        exact iteT ⟨_, rfl, _, _, rfl, rfl, q⟩
    | bl b' => exact iteF q
    | non => exact iteF q
    | str x => exact iteF q
    | tup s a => exact iteF q
    | lst s n a => exact iteF q
    | dic e => exact iteF q
theorem ok_worthD {f fF aK aW aF : Addr} {fd fdF : FuncData} (F : Fun K "is_worth" "is_worth" sWorth f fd) (C : Cns K mg aK aW aF) (DF : DFromTo P w K mg base fF fdF) (DX : FnOk P w K mg base CX0 2 fF fdF ["thing", "least", "greatest"] (spFromToD K)) : FnOk P w K mg base CX0 3 f fd ["thing"] (spWorthD K) := by
  obtain ⟨tg, hgw⟩ := C.gw
  refine F.ok scWorth (fun vs H Q E h => ?_) (fun cdv A outer s H vs Q E hr h => ?_)
  · obtain ⟨v, d, rfl, _⟩ := h
    rfl
  · obtain ⟨v, d, rfl, hd, q⟩ := h
    refine ⟨_, pss_one <| ps_ret <| pe_call DX hr (by rfl) DF.mg DF.kp DF.bd .nil pass0 <| pa_cons (pv 0) <| pa_cons pe_int <| pa_cons (pe_glob (v := .int 96) (by rfl) hgw ⟨_, rfl⟩) pa_nil, ?_⟩
    exact ⟨_, rfl, v, d, 0, 96, rfl, hd, q⟩
theorem ok_chkRowX {f fW fN C CR : Addr} {fd fdW fdN : FuncData} (F : Fun K "check_row" "check_row" sChkRow f fd) (B : Bt mg) (T : NT K mg C) (DW : DWorth P w K mg base fW fdW) (DX : FnOk P w K mg base CX0 3 fW fdW ["thing"] (spWorthD K)) (ins : FnOk P w K mg base CX0 2 fN fdN ["self"] (spPorts K C "in")) (mN : Meth K C "ins" fN) (bN : Binds K fdN ["self"] []) (NR : PEx K mg "NoRow" CR) : FnOk P w K mg base (L2.CX P w) 4 f fd ["net", "row"] (spRowX K C CR) := by
  refine F.okX scChkRow (fun vs H Q E h => ?_) (fun cdv A outer s H vs Q E hr h => ?_)
  · obtain ⟨p, v, rfl, _⟩ := h
    rfl
  · obtain ⟨p, v, rfl, ng, nw, gs, ws, d, N, hgl, hd, bad, q⟩ := h
    have nd := scChkRow.nd
    have hr2 : Room 2 _ := hr.mono (by decide)
    refine ⟨_, pss_cons (ps_if (PW.pt (pw_or (pt_not (pt_val (pe_callB call_isi (by rfl) B.isi (by decide +kernel) (pa_cons (pv 1) (pa_cons (pe_bltn (v := .ty "list") (by rfl) B.list (by decide +kernel) rfl) pa_nil)))))
          (pw_or1 (pt_cmpR op_ne (pe_callB call_len_seq (by rfl) B.len PySem.boot_len (pa_cons (pv 1) pa_nil)) (pe_callB call_len_seq (by rfl) B.len PySem.boot_len (pa_cons (pe_meth0 (pv 0) T.cl mN ins hr2 bN .nil pass0) pa_nil)) (nomark _))))) (pss_one (ps_raise rfl (takes_of rfl rfl rfl rfl) (pmk_own PySem.F.excBase_ValueError NR.q NR.g NR.k (raises_own NR.e NR.t) (by rfl)))) pss_nil) <|
      pss_one <| ps_if (pt_not (pt_val (pe_callB (cr_all rfl) (by rfl) B.all (by decide +kernel) <| (pa_cons · pa_nil) <| pe_lc (own := [("worth", 2)]) (g := gName 2) (tt := tYes) (te := tCall (spWorthD K) [] E0 (tCons (tVar 2) tNil)) rfl nd (pi_list (pv 1)) (blkOk_by (N := nChkRow) (sc := defScope sChkRow) (own := [("worth", 2)]) (by decide +kernel))
          (fun _ _ _ _ _ => pg_name (i := 2) nd rfl (.inl rfl)) (fun _ _ _ _ _ => pts_nil) (fun _ _ _ _ _ => pe_call DX hr (by rfl) DW.mg DW.kp DW.bd .nil pass0 (pa_cons (pv 2) pa_nil))))) (pss_one (ps_raise rfl (takes_of rfl rfl rfl rfl) (pmk_own PySem.F.excBase_ValueError NR.q NR.g NR.k (raises_own NR.e NR.t) (by rfl)))) pss_nil, ?_⟩
    obtain ⟨dx, ob⟩ := N.ob
    have hpl := plc_len gs "in" gs.length
    obtain ⟨t, ty, _, _, _, k4⟩ := hd.ty
    refine ⟨_, rfl, _, _, _, _, dL d, rfl, .ty "list", ty, kit_ty k4, dL d, rfl, ?_⟩
    cases eL : dL d with
    | false => exact q H (Same.refl H)
    | true =>
    refine iteF ?_
    cases hd with
    | @lst lr xs ds el _ al =>
      have a2 := al.all2
      have hlx : xs.length = ds.length := a2.1
      have sr : SqL K H lr xs := SqL.of el
      refine ⟨_, rfl, lr, _, rfl, .inl sr, _, rfl, p, dx, _, rfl, ob, nf_no _ _ (by decide +kernel) (by decide +kernel), p, ng, nw, gs, ws, rfl, N, hgl, fun l1 H1 hl1 sm1 el1 => ?_⟩
      refine ⟨l1, _, rfl, .inl (SqL.of el1), rfl, !decide (ds.length = (plc gs "in" gs.length).length), ?_, ?_⟩
      · show V.bl (!decide (V.int ((xs.length : Nat) : Int) = V.int ((((plc gs "in" gs.length).map fun i => V.int (i : Nat)).length : Nat) : Int))) = _
        rw [vint_eq, List.length_map, hlx]
        exact congrArg (fun b => V.bl (!b)) (decide_eq_decide.mpr ⟨fun h => by omega, fun h => by omega⟩)
      by_cases en : ds.length = (plc gs "in" gs.length).length
      · rw [decide_eq_true en]
        refine iteF ?_
        refine ⟨_, rfl, lr, rfl, ⟨_, sm1.seq sr⟩, fun D hD => ?_⟩
        refine lc_list (K := K) (a := lr) (xs := xs) (fun i Hc => Hc D = some (.lst ((ds.take i).map fun d => V.bl (fromD d 0 96))) ∧ Same H1 Hc) ⟨upd_same, same_new hD⟩ (fun i Hc _ ⟨_, sm⟩ => (sm1.trans sm).seq sr) ?_ ?_
        · rintro i y Hc hy ⟨hc, sm⟩
          obtain ⟨z, ez, hz⟩ := a2.get hy
          have hi : i < ds.length := (List.getElem?_eq_some_iff.mp ez).1
          refine ⟨rfl, tyes ?_⟩
          refine ⟨_, rfl, y, z, rfl, hz.same (sm1.trans sm), _, hc, (by rw [List.length_map, List.length_take]; exact small1000 (by omega)), ?_, same_mut sm hD⟩
          rw [upd_same, List.take_add_one, ez, List.map_append]
          rfl
        · rintro Hc ⟨hc, sm⟩
          rw [hlx, List.take_length] at hc
          have hb : ds.all (fun d => fromD d 0 96) = false := by
            have b2 : (decide (ds.length = (plc gs "in" gs.length).length) && ds.all fun d => fromD d 0 96) = false := bad
            rw [decide_eq_true en, Bool.true_and] at b2
            exact b2
          refine ⟨D, ds.map fun d => fromD d 0 96, rfl, ?_, false, ?_, iteT (q Hc (sm1.trans sm))⟩
          · rw [List.map_map]
            exact SqL.of hc
          · rw [List.all_map]
            exact congrArg V.bl hb
      · rw [decide_eq_false en]
        exact iteT (q H1 sm1)
    | _ => cases eL
theorem ok_worthsX {f fR C CR : Addr} {fd fdR : FuncData} (F : Fun K "worths" "worths" sWorths f fd) (DR : DChkRow P w K mg base C fR fdR) (DX : FnOk P w K mg base (L2.CX P w) 4 fR fdR ["net", "row"] (spRowX K C CR)) : FnOk P w K mg base (L2.CX P w) 5 f fd ["net", "row"] (spRowX K C CR) := by
  refine F.okX scWorths (fun vs H Q E h => ?_) (fun cdv A outer s H vs Q E hr h => ?_)
  · obtain ⟨p, v, rfl, _⟩ := h
    rfl
  · obtain ⟨p, v, rfl, h⟩ := h
    refine ⟨_, pss_cons (ps_expr (pe_callS DX hr (by rfl) DR.mg DR.kp DR.bd (fun σ => passAt (takes_of rfl rfl rfl rfl) σ) (pa_cons (pv 0) (pa_cons (pv 1) pa_nil)))) <| pss_cons ps_never <| pss_cons ps_never <| pss_cons ps_never <| pss_one ps_never, ?_⟩
    exact ⟨_, rfl, _, rfl, p, v, rfl, h⟩
theorem ok_beatX {f fW C CR : Addr} {fd fdW : FuncData} (F : Fun K "beat" "beat" sBeat f fd) (DW : DWorths P w K mg base C fW fdW) (DX : FnOk P w K mg base (L2.CX P w) 5 fW fdW ["net", "row"] (spRowX K C CR)) : FnOk P w K mg base (L2.CX P w) 9 f fd ["net", "row"] (spRowX K C CR) := by
  refine F.okX scBeat (fun vs H Q E h => ?_) (fun cdv A outer s H vs Q E hr h => ?_)
  · obtain ⟨p, v, rfl, _⟩ := h
    rfl
  · obtain ⟨p, v, rfl, h⟩ := h
    have nd := scBeat.nd
    refine ⟨_, pss_cons (ps_set (i := 2) nd rfl (Or.inr rfl) (pe_callS DX (hr.mono (by decide)) (by rfl) DW.mg DW.kp DW.bd (fun σ => passAt (takes_of rfl rfl rfl rfl) σ) (pa_cons (pv 0) (pa_cons (pv 1) pa_nil)))) <| pss_one ps_never, ?_⟩
    exact ⟨_, rfl, _, rfl, p, v, rfl, h⟩
end
end Lag

set_option maxRecDepth 100000
set_option maxHeartbeats 8000000
namespace Lag
open PySem PySem.Spec PyProof.Rows L2
/-- rows asked of a net, which are none: no list, or one that holds what is no row behind rows -/
def spRunX (K : PySem.W.Frag) (C CR : Addr) : Sp := fun vs H Q E => ∃ (p ng nw : Addr) (v : V) (gs : List Gt) (ws : List Wr), vs = [.ref p, v] ∧ NetAt K C H p ng nw gs ws ∧ NetOk gs ws ∧
  ((∃ d, Dx K Any H v d ∧ dL d = false) ∨ ∃ (lr : Addr) (xs : List V) (rss : List (List Int)) (n : Nat) (u : V) (d : PyData), v = .ref lr ∧ H lr = some (.lst xs) ∧ xs.length ≤ 1000 ∧ All2 (RowV K H) (xs.take n) rss ∧ (∀ rs ∈ rss, RowOk gs rs) ∧ xs[n]? = some u ∧ Dx K Any H u d ∧ rowD (plc gs "in" gs.length).length d = false) ∧
  ∀ H', Same H H' → E (.ref CR) none H'
section
variable {P : Program} {w : World} {K : PySem.W.Frag} {mg : Str → Option Value} {base : Heap}
theorem ok_runX {f fB fI C CR : Addr} {fd fdB fdI : FuncData} (F : Fun K "run" "run" sRun f fd) (B : Bt mg) (T : NT K mg C) (DB : DBeat P w K mg base C fB fdB) (DX : FnOk P w K mg base (L2.CX P w) 9 fB fdB ["net", "row"] (spRowX K C CR)) (MK : Mk K C fI) (init : FnOk P w K mg base CX0 6 fI fdI ["self", "gates", "wires"] (spInit K C)) (bI : Binds K fdI ["self", "gates", "wires"] []) (NR : PEx K mg "NoRow" CR) : FnOk P w K mg base (L2.CX P w) 10 f fd ["net", "rows"] (spRunX K C CR) := by
  refine F.okX scRun (fun vs H Q E h => ?_) (fun cdv A outer s H vs Q E hr h => ?_)
  · obtain ⟨p, ng, nw, v, gs, ws, rfl, _⟩ := h
    rfl
  · obtain ⟨p, ng, nw, v, gs, ws, rfl, NA, N, h, q⟩ := h
    have nd := scRun.nd
    have hr7 : Room 7 _ := hr.mono (by decide)
    refine ⟨_, pss_cons (ps_if (pt_not (pt_val (pe_callB call_isi (by rfl) B.isi (by decide +kernel) (pa_cons (pv 1) (pa_cons (pe_bltn (v := .ty "list") (by rfl) B.list (by decide +kernel) rfl) pa_nil))))) (pss_one (ps_raise rfl (takes_of rfl rfl rfl rfl) (pmk_own PySem.F.excBase_ValueError NR.q NR.g NR.k (raises_own NR.e NR.t) (by rfl)))) pss_nil) <|
      pss_cons (ps_set (i := 2) nd rfl (.inl rfl) (pe_make MK init hr7 (by rfl) T.mg bI .nil pass0 (pa_cons (pe_fld (pv 0) rfl) (pa_cons (pe_fld (pv 0) rfl) pa_nil)))) <|
      pss_cons (ps_set (i := 3) nd rfl (.inl rfl) (pe_lst pa_nil)) <|
      pss_cons (ps_for (passes_of rfl) rfl (pi_list (pv 1)) (pg_name (i := 4) nd rfl (.inl rfl)) <|
        pss_cons (ps_asg (pe_callS (fn_or (fn_cx0 DB.ok) DX) hr (by rfl) DB.mg DB.kp DB.bd (fun σ => passAt (takes_of rfl rfl rfl rfl) σ) (pa_cons (pv 2) (pa_cons (pv 4) pa_nil))) (pg_tup (by rfl) (pgs_cons (pg_name (i := 2) nd rfl (.inl rfl)) (pgs_cons (pg_name (i := 5) nd rfl (.inl rfl)) pgs_nil)))) <|
        pss_one <| ps_expr (pe_bm PySem.F.plainAttrs_list PySem.F.slot_list_append PySem.F.type_list_append mt_append (pv 3) (pa_cons (pv 5) pa_nil))) <|
      pss_one <| ps_never, ?_⟩
    rcases h with ⟨d, hd, el⟩ | ⟨lr, xs, rss, n, u, d, rfl, hxs, hxl, ra, hro, hun, hd, bad⟩
    · obtain ⟨t, ty, _, _, _, k4⟩ := hd.ty
      rw [el] at k4
      refine ⟨_, rfl, _, _, _, _, false, rfl, .ty "list", ty, kit_ty k4, false, rfl, iteT (q H (Same.refl H))⟩
    · have sr : SqL K H lr xs := SqL.of hxs
      have hgl := N.gl
      obtain ⟨dx, ob⟩ := NA.ob
      refine ⟨_, rfl, _, _, _, _, true, rfl, .ty "list", ty_lst sr, kit_ty (by decide +kernel), true, rfl, iteF ?_⟩
      refine ⟨_, rfl, p, C, dx, _, _, rfl, ob, T.cl, T.nG, nf_gates _ _, _, rfl, p, C, dx, _, _, rfl, ob, T.cl, T.nW, nf_wires _ _, ?_⟩
      refine net_in NA.g.rg NA.w.rw N fun p1 ng1 nw1 H1 NA1 s1 hp1 hng1 hnw1 => ?_
      refine ⟨Nat.zero_le _, fun D hD => ?_⟩
      have hD0 : H D = none := s1.free hD
      have s2 := s1.trans (same_new (o := .lst []) hD)
      have NA2 := NA1.same (same_new (o := .lst []) hD)
      obtain ⟨g1, hg1, _⟩ := id NA1.g
      obtain ⟨w1, hw1, _⟩ := id NA1.w
      have hn : n < xs.length := (List.getElem?_eq_some_iff.mp hun).1
      refine ⟨_, rfl, lr, rfl, ⟨_, s2.seq sr⟩, for_list (K := K) (a := lr) (xs := xs) (fun i σ H' => i ≤ n ∧ ∃ (s4 s5 : Option V) (pn gn wn : Addr) (wm : List Wr) (tv : List V), σ = [some (.ref p), some (.ref lr), some (.ref pn), some (.ref D), s4, s5] ∧
          NetAt K C H' pn gn wn gs wm ∧ NetOk gs wm ∧ Same H H' ∧ H' D = some (.lst tv) ∧ tv.length = i ∧ gn ≠ D ∧ wn ≠ D)
        ⟨Nat.zero_le _, _, _, p1, ng1, nw1, ws, [], rfl, NA2, N, s2, upd_same, rfl, ne_of_none hg1 hD, ne_of_none hw1 hD⟩ (fun i σ H' _ ⟨_, _, _, _, _, _, _, _, _, _, _, sm, _⟩ => sm.seq sr) ?_ ?_⟩
      · rintro i v σ H' hv ⟨hin, s4, s5, pn, gn, wn, wm, tv, rfl, NAn, Nm, sm, eD, htl, ngD, nwD⟩
        by_cases ein : i = n
        · subst ein
          rw [hun] at hv
          cases hv
          exact ⟨_, rfl, _, rfl, .inr ⟨pn, _, rfl, gn, wn, gs, wm, d, NAn, by omega, hd.same sm, bad, fun H2 s3 => q H2 (sm.trans s3)⟩⟩
        · have hlt : i < n := by omega
          obtain ⟨rs, hrs, a, rfl, sq⟩ := ra.get (by rw [List.getElem?_take_of_lt hlt]; exact hv)
          have hro' := hro rs (List.mem_of_getElem? hrs)
          refine ⟨_, rfl, _, rfl, .inl ⟨pn, gn, wn, a, gs, wm, rs, rfl, NAn, Nm, sm.seq sq, hro'.1, hro'.2, fun t p' ng' nw' lo H2 ts s3 iw wt NA' elo et hp' hng' hnw' hlo => ?_⟩⟩
          refine ⟨t, _, rfl, .inl (.inl et), rfl, _, _, rfl, _, _, rfl, rfl, ?_⟩
          have llD := s3 _ _ eD
          have ng'D : ng' ≠ D := fun z => by
            rw [z, eD] at hng'
            cases hng'
          have nw'D : nw' ≠ D := fun z => by
            rw [z, eD] at hnw'
            cases hnw'
          refine ⟨_, rfl, .inl ⟨rfl, _, SqL.of llD⟩, _, rfl, D, _, _, rfl, rfl, llD, by rw [htl]; exact small1000 (by omega), ?_⟩
          exact ⟨by omega, _, _, p', ng', nw', wm.map (bh ts), tv ++ [_], rfl, NA'.mut llD ng'D nw'D, Nm.behind wt, same_mut (sm.trans s3) hD0, upd_same, by rw [List.length_append, htl]; rfl, ng'D, nw'D⟩
      · rintro σ H' ⟨hin, _⟩
        exact absurd hin (by omega)
end
end Lag

set_option maxRecDepth 100000
set_option maxHeartbeats 8000000
namespace Lag
open PySem PySem.Spec PyProof.Rows L2
abbrev sBad : Stmt := topS 55 -- @_law_bad
/-! ### data that can be shown -/
structure Tx (k b : Nat) (d : PyData) : Prop where
  sw : d.showable = true
  si : d.leavesShort 45 = true
  bl : d.bulk ≤ b
  dp : d.depth ≤ k
theorem Tx.int {k b : Nat} {i : Int} (h : i.natAbs < 10 ^ 42) : Tx k b (.int i) := by
  refine ⟨?_, ?_, Nat.zero_le _, Nat.zero_le _⟩
  · show decide (i.natAbs.log2 < 1920) = true
    refine decide_eq_true ?_
    by_cases h0 : i.natAbs = 0
    · rw [h0]
      decide
    · exact Nat.lt_of_lt_of_le ((Nat.log2_lt h0).mpr (show i.natAbs < 2 ^ 140 from Nat.lt_of_lt_of_le h (by decide))) (by decide)
  · show decide ((PyData.shown (.int i)).length ≤ 45) = true
    have e := int_text_length_le10 (k := 42) (by decide) h
    refine decide_eq_true ?_
    show (Str.ofString (toString i)).length ≤ 45
    rw [PySem.ofString_length]
    omega
theorem tx_all {k b : Nat} : ∀ {ds : List PyData}, (∀ d ∈ ds, Tx k b d) → PyData.showableAll ds = true ∧ PyData.leavesShortAll 45 ds = true ∧ PyData.bulkAll ds ≤ ds.length * (b + 1) ∧ PyData.depthAll ds ≤ k
  | [], _ => ⟨rfl, rfl, Nat.zero_le _, Nat.zero_le _⟩
  | d :: ds, h => by
    obtain ⟨h1, h2, h3, h4⟩ := h d (List.mem_cons_self ..)
    obtain ⟨k1, k2, k3, k4⟩ := tx_all fun e he => h e (List.mem_cons_of_mem _ he)
    refine ⟨?_, ?_, ?_, ?_⟩
    · show (d.showable && PyData.showableAll ds) = true
      rw [h1, k1]
      rfl
    · show (d.leavesShort 45 && PyData.leavesShortAll 45 ds) = true
      rw [h2, k2]
      rfl
    · show d.bulk + 1 + PyData.bulkAll ds ≤ (ds.length + 1) * (b + 1)
      rw [Nat.succ_mul]
      omega
    · simp only [PyData.depthAll]
      exact Nat.max_le.mpr ⟨h4, k4⟩
theorem Tx.list {k b n : Nat} {ds : List PyData} (hn : ds.length ≤ n) (h : ∀ d ∈ ds, Tx k b d) : Tx (k + 1) (n * (b + 1)) (.list ds) := by
  obtain ⟨k1, k2, k3, k4⟩ := tx_all h
  exact ⟨k1, k2, Nat.le_trans k3 (Nat.mul_le_mul_right _ hn), by simp only [PyData.depth]; omega⟩
theorem Tx.tuple {k b n : Nat} {ds : List PyData} (hn : ds.length ≤ n) (h : ∀ d ∈ ds, Tx k b d) : Tx (k + 1) (n * (b + 1)) (.tuple ds) := by
  obtain ⟨k1, k2, k3, k4⟩ := tx_all h
  exact ⟨k1, k2, Nat.le_trans k3 (Nat.mul_le_mul_right _ hn), by simp only [PyData.depth]; omega⟩
theorem Tx.mono {k b k' b' : Nat} {d : PyData} (h : Tx k b d) (hk : k ≤ k') (hb : b ≤ b') : Tx k' b' d := ⟨h.sw, h.si, Nat.le_trans h.bl hb, Nat.le_trans h.dp hk⟩
theorem Tx.fits {k b : Nat} {d : PyData} (h : Tx k b d) (hb : b ≤ 100000) : d.shown.length ≤ sizeLine := by
  have e := PyData.shown_le_bulk 45 (by decide) d h.si
  have h2 : (45 + 2) * d.bulk ≤ 47 * 100000 := Nat.mul_le_mul (by omega) (Nat.le_trans h.bl hb)
  rw [sizeLine_eq]
  omega
theorem Tx.non {k b : Nat} : Tx k b .none := ⟨rfl, (by decide +kernel), Nat.zero_le _, Nat.zero_le _⟩
theorem Tx.boo {k b : Nat} (x : Bool) : Tx k b (.bool x) := ⟨rfl, (by cases x <;> decide +kernel), Nat.zero_le _, Nat.zero_le _⟩
/-! ### rows as data -/
theorem dxs_ints {K : PySem.W.Frag} {Av : Addr → Prop} {H : Hp} : ∀ l : List Int, DxAll K Av H (l.map V.int) (l.map PyData.int)
  | [] => .nil
  | z :: l => .cons (.int z) (dxs_ints l)
theorem DxAll.app {K : PySem.W.Frag} {Av : Addr → Prop} {H : Hp} : ∀ {xs ys : List V} {ds es : List PyData}, DxAll K Av H xs ds → DxAll K Av H ys es → DxAll K Av H (xs ++ ys) (ds ++ es)
  | _, _, _, _, .nil, b => b
  | _, _, _, _, .cons h a, b => .cons h (DxAll.app a b)
theorem DxAll.one {K : PySem.W.Frag} {Av : Addr → Prop} {H : Hp} {v : V} {d : PyData} (h : Dx K Av H v d) : DxAll K Av H [v] [d] := .cons h .nil
theorem row_len {n : Nat} {ds : List PyData} (h : ds.length ≠ n) : rowD n (.list ds) = false := by
  show (decide (ds.length = n) && _) = false
  rw [decide_eq_false h]
  rfl
theorem row_odd {n : Nat} {ds : List PyData} {d : PyData} (hd : d ∈ ds) (h : fromD d 0 96 = false) : rowD n (.list ds) = false := by
  show (_ && ds.all _) = false
  have : ds.all (fun d => fromD d 0 96) = false := by
    rw [List.all_eq_false]
    exact ⟨d, hd, by rw [h]; decide⟩
  rw [this, Bool.and_false]
/-- what is no row, where it stands -/
def BadI (K : PySem.W.Frag) (Av : Addr → Prop) (n : Nat) (H : Hp) (v : V) : Prop := ∃ d, Dx K Av H v d ∧ rowD n d = false ∧ Tx 3 200 d
def OddI (K : PySem.W.Frag) (Av : Addr → Prop) (H : Hp) (v : V) : Prop := ∃ d, Dx K Av H v d ∧ fromD d 0 96 = false ∧ Tx 1 2 d
theorem BadI.move {K : PySem.W.Frag} {Av Av' : Addr → Prop} {n : Nat} {H H' : Hp} {v : V} (h : BadI K Av n H v) (m : XM K Av Av' H H') : BadI K Av' n H' v := by
  obtain ⟨d, a, b, c⟩ := h
  exact ⟨d, Dx.move m d a, b, c⟩
theorem OddI.move {K : PySem.W.Frag} {Av Av' : Addr → Prop} {H H' : Hp} {v : V} (h : OddI K Av H v) (m : XM K Av Av' H H') : OddI K Av' H' v := by
  obtain ⟨d, a, b, c⟩ := h
  exact ⟨d, Dx.move m d a, b, c⟩
/-- neither the well nor this list -/
abbrev Nor (wl l : Addr) : Addr → Prop := fun a => a ≠ wl ∧ a ≠ l
theorem XM.fresh {K : PySem.W.Frag} {wl l : Addr} {H : Hp} {o : HO} (h : H l = none) : XM K (· ≠ wl) (Nor wl l) H (upd H l o) := ⟨fun a xs n e => ⟨(same_new h) _ _ e, n, fun z => by
  rw [z, h] at e
  cases e⟩, fun a xs s => (TK.new h).seq s, fun a e => (same_new h) _ _ e⟩
theorem XM.mut {K : PySem.W.Frag} {wl l : Addr} {H : Hp} {o : HO} {vs : List V} (h : H l = some (.lst vs)) : XM K (Nor wl l) (Nor wl l) H (upd H l o) := ⟨fun a xs n e => ⟨by rw [upd_ne n.2]; exact e, n⟩, fun a xs s => (TK.lst h).seq s, fun a e => by
  rw [upd_ne]
  · exact e
  · intro z
    rw [z, h] at e
    cases e⟩
theorem XM.nor {K : PySem.W.Frag} {wl l : Addr} {H : Hp} : XM K (Nor wl l) (· ≠ wl) H H := ⟨fun a xs n e => ⟨e, n.1⟩, fun a xs s => s, fun a e => e⟩
theorem nums_tx {rs : List Int} (hw : WOk1 rs) : ∀ d ∈ rs.map PyData.int, Tx 0 0 d := fun d hd => by
  obtain ⟨z, hz, rfl⟩ := List.mem_map.mp hd
  have := hw z hz
  exact .int (Nat.lt_of_le_of_lt (show z.natAbs ≤ 96 by omega) (by decide))
theorem XM.drN {K : PySem.W.Frag} {w l : Addr} {H H' : Hp} (W : WellAt w H) (r : Dr w H H') : XM K (Nor w l) (Nor w l) H H' := ⟨fun a xs n h => ⟨r.but _ _ n.1 h, n⟩, fun a xs h => (TK.dr W r.but).seq h, fun a h => r.but _ _ (fun z => by
  obtain ⟨_, _, _, e⟩ := W
  rw [z, e] at h
  cases h) h⟩
theorem flat_tx {ds : List PyData} (hl : ds.length ≤ 24) (h : ∀ d ∈ ds, Tx 1 2 d) : Tx 3 200 (.list ds) := (Tx.list (n := 24) (b := 2) hl h).mono (by decide) (by decide)
theorem nums_tx1 {rs : List Int} (hw : WOk1 rs) : ∀ d ∈ rs.map PyData.int, Tx 1 2 d := fun d hd => (nums_tx hw d hd).mono (by decide) (by decide)
theorem wok_take {rs : List Int} (hw : WOk1 rs) (n : Nat) : WOk1 (rs.take n) := fun y hy => hw y (List.mem_of_mem_take hy)
theorem wok_drop {rs : List Int} (hw : WOk1 rs) (n : Nat) : WOk1 (rs.drop n) := fun y hy => hw y (List.mem_of_mem_drop hy)
theorem mid_bad {K : PySem.W.Frag} {Av : Addr → Prop} {H : Hp} {a : Addr} {rs : List Int} {n m j : Nat} {v : V} (hw : WOk1 rs) (hl : rs.length ≤ 20) (e : H a = some (.lst ((rs.map V.int).take m ++ [v] ++ (rs.map V.int).drop j))) (ha : Av a) (h : OddI K Av H v) : BadI K Av n H (.ref a) := by
  obtain ⟨d, hd, hf, ht⟩ := h
  rw [← List.map_take, ← List.map_drop] at e
  refine ⟨.list ((rs.take m).map PyData.int ++ [d] ++ (rs.drop j).map PyData.int), .lst e ha (((dxs_ints _).app (.one hd)).app (dxs_ints _)), row_odd (List.mem_append.mpr (.inl (List.mem_append.mpr (.inr (List.mem_singleton.mpr rfl))))) hf, ?_⟩
  have h1 : (rs.take m).length ≤ rs.length := by rw [List.length_take]; omega
  have h2 : (rs.take m).length + (rs.drop j).length ≤ 40 := by rw [List.length_take, List.length_drop]; omega
  refine (Tx.list (n := 41) (b := 2) (k := 1) ?_ fun e he => ?_).mono (by decide) (by decide)
  · rw [List.length_append, List.length_append, List.length_map, List.length_map]
    show _ + 1 + _ ≤ _
    omega
  · rcases List.mem_append.mp he with he | he
    · rcases List.mem_append.mp he with he | he
      · exact nums_tx1 (wok_take hw m) e he
      · rw [List.mem_singleton.mp he]
        exact ht
    · exact nums_tx1 (wok_drop hw j) e he
theorem cut_neg {xs : List V} : cutV xs none (some (-1)) = xs.take (xs.length - 1) := by
  unfold cutV
  have e : HT.sIx xs.length xs.length (some (-1)) = xs.length - 1 := by
    show (if (-1 : Int) < 0 then ((-1 : Int) + (xs.length : Int)).toNat else min (-1 : Int).toNat xs.length) = xs.length - 1
    rw [if_pos (by decide)]
    omega
  rw [e, HT.sIx_none, List.drop_zero, Nat.sub_zero]
def spBad (K : PySem.W.Frag) : Sp := fun vs H Q _ => ∃ (wl lr : Addr) (rs : List Int), vs = [.ref wl, .ref lr] ∧ WellAt wl H ∧ lr ≠ wl ∧ H lr = some (.lst (rs.map V.int)) ∧ rs.length ≤ 20 ∧ WOk1 rs ∧ ∀ v H', Dr wl H H' → BadI K (· ≠ wl) rs.length H' v → Q v H'
theorem gn_norm {i : Nat} {x : V} {σ σ' : L2.St} {H : Hp} {N : L2.St → Hp → Prop} (e : σ.set i (some x) = σ') (h : N σ' H) : gName i x σ H N := by
  subst e
  exact h
section
variable {P : Program} {w : World} {K : PySem.W.Frag} {mg : Str → Option Value} {base : Heap}
abbrev nBad : List Str := ["_law_well_here", "_law_row", "_law_at", "_law_some", "_law_to", "_law_odd"]
theorem scBad : FnScope nBad ["_law_well_here", "_law_row"] (defScope sBad) := ⟨rfl, rfl, rfl, by decide +kernel, rfl, by decide +kernel, by decide +kernel⟩
abbrev DBad (P : Program) (w : World) (K : PySem.W.Frag) (mg : Str → Option Value) (base : Heap) := Df P w K mg base 3 "_law_bad" ["_law_well_here", "_law_row"] (spBad K)
theorem ok_bad {f fD fO : Addr} {fd fdD fdO : FuncData} (F : Fun K "_law_bad" "_law_bad" sBad f fd) (hm : mg "_law_bad" = some (.ref f)) (B : Bt mg) (DD : DDraw P w K mg base fD fdD) (DO : DOne P w K mg base fO fdO) : DBad P w K mg base f fd := by
  refine ⟨?_, hm, F.kp, F.binds fun _ _ _ _ _ _ us hl => match us, hl with | [_, _], _ => rfl⟩
  refine F.ok scBad (fun vs H Q E h => ?_) (fun cdv A outer s H vs Q E hr h => ?_)
  · obtain ⟨wl, lr, rs, rfl, _⟩ := h
    rfl
  · obtain ⟨wl, lr, rs, rfl, hw, nlr, hlr, hrl, wok, q⟩ := h
    have nd := scBad.nd
    refine ⟨_, pss_cons (ps_set (i := 2) nd rfl (.inl rfl) (pe_call DD.ok (hr.mono (by decide)) (by rfl) DD.mg DD.kp DD.bd .nil pass0 (pa_cons (pv 0) (pa_cons (pe_op op_add (pe_callB call_len_seq (by rfl) B.len PySem.boot_len (pa_cons (pv 1) pa_nil)) pe_int) pa_nil)))) <|
        pss_cons (ps_set (i := 3) nd rfl (.inl rfl) (pe_lst (pa_cons (pe_op op_cat (pv 1) (pe_lst (pa_cons pe_int pa_nil))) (pa_cons (pe_callTy call_tuple_of (by rfl) B.tuple (by decide +kernel) (pa_cons (pv 1) pa_nil)) (pa_cons pe_non (pa_cons pe_str (pa_cons pe_int (pa_cons pe_dnewK (pa_cons (pe_lst (pa_cons (pv 1) pa_nil)) (pa_cons (pe_op op_cat (pe_op op_cat (pe_slice sl_list (pv 1) po_none (po_some (pv 2))) (pe_lst (pa_cons pe_int pa_nil))) (pe_slice sl_list (pv 1) (po_some (pv 2)) po_none)) pa_nil)))))))))) <|
        pss_cons (ps_if (pt_cmpR (op_neD hr.units) (pv 1) (pe_lst pa_nil) (nomark _)) (pss_cons (ps_set (i := 3) nd rfl (.inl rfl) (pe_op op_cat (pv 3) (pe_lst (pa_cons (pe_slice sl_list (pv 1) po_none (po_some (pe_un un_neg pe_int))) (pa_cons (pe_lst pa_nil) pa_nil))))) <|
        pss_cons (ps_set (i := 4) nd rfl (.inl rfl) (pe_call DD.ok (hr.mono (by decide)) (by rfl) DD.mg DD.kp DD.bd .nil pass0 (pa_cons (pv 0) (pa_cons (pe_callB call_len_seq (by rfl) B.len PySem.boot_len (pa_cons (pv 1) pa_nil)) pa_nil)))) <|
        pss_one (ps_for PassesOwn.never rfl (pi_list (pe_lst (pa_cons pe_int (pa_cons (pe_un un_neg pe_int) (pa_cons pe_bl (pa_cons pe_bl (pa_cons pe_non (pa_cons pe_str (pa_cons (pe_tup (pa_cons pe_int pa_nil)) (pa_cons (pe_op op_pow pe_int pe_int) pa_nil)))))))))) (pg_name (i := 5) nd rfl (.inl rfl)) (pss_one (ps_expr (pe_bm PySem.F.plainAttrs_list PySem.F.slot_list_append PySem.F.type_list_append mt_append (pv 3) (pa_cons (pe_op op_cat (pe_op op_cat (pe_slice sl_list (pv 1) po_none (po_some (pv 4))) (pe_lst (pa_cons (pv 5) pa_nil))) (pe_slice sl_list (pv 1) (po_some (pe_op op_add (pv 4) pe_int)) po_none)) pa_nil)))))) pss_nil) <|
        pss_one (ps_ret (pe_call DO.ok (hr.mono (by decide)) (by rfl) DO.mg DO.kp DO.bd .nil pass0 (pa_cons (pv 0) (pa_cons (pv 3) pa_nil)))), ?_⟩
    have hvl : (rs.map V.int).length = rs.length := List.length_map ..
    refine ⟨_, rfl, _, rfl, lr, _, rfl, .inl (SqL.of hlr), _, _, rfl, rfl, wl, _, rfl, by rw [hvl]; omega, by rw [hvl]; omega, hw, fun d1 H1 d10 d11 D1 => ?_⟩
    obtain ⟨tN, rfl⟩ : ∃ n : Nat, d1 = (n : Int) := ⟨d1.toNat, by omega⟩
    have htN : tN ≤ rs.length := by rw [hvl] at d11; omega
    have hlr1 := D1.but _ _ nlr hlr
    refine gn_norm (σ' := [some (.ref wl), some (.ref lr), some (.int (tN : Nat)), none, none, none]) rfl ?_
    -- row + [1]
    refine ⟨_, rfl, (by show 1 ≤ sizeLine; decide), fun c1 hc1 => ?_⟩
    have S1 : Same H1 (upd H1 c1 (.lst [.int 1])) := same_new hc1
    have e1 : (upd H1 c1 (.lst [.int 1])) c1 = some (.lst [.int 1]) := upd_same
    have x1 : Dr wl H (upd H1 c1 (.lst [.int 1])) := D1.trans (Dr.new D1.well hc1)
    have n1 : c1 ≠ wl := (D1.well.ne hc1).symm
    generalize upd H1 c1 (.lst [.int 1]) = G1 at S1 e1 x1
    refine ⟨lr, c1, _, _, rfl, rfl, S1 _ _ hlr1, e1, Nat.le_of_lt (small1000 (by rw [hvl]; show _ + 1 ≤ _; omega)), fun c2 hc2 => ?_⟩
    have S2 : Same G1 (upd G1 c2 (.lst (rs.map V.int ++ [.int 1]))) := same_new hc2
    have e2 : (upd G1 c2 (.lst (rs.map V.int ++ [.int 1]))) c2 = some (.lst (rs.map V.int ++ [.int 1])) := upd_same
    have x2 : Dr wl H (upd G1 c2 (.lst (rs.map V.int ++ [.int 1]))) := x1.trans (Dr.new x1.well hc2)
    have n2 : c2 ≠ wl := (x1.well.ne hc2).symm
    generalize upd G1 c2 (.lst (rs.map V.int ++ [.int 1])) = G2 at S2 e2 x2
    -- tuple, {}
    refine ⟨_, rfl, lr, _, rfl, .inl ⟨SqL.of ((S1.trans S2) _ _ hlr1), fun c3 hc3 => ?_⟩⟩
    have S3 : Same G2 (upd G2 c3 (.tup (rs.map V.int))) := same_new hc3
    have e3 : (upd G2 c3 (.tup (rs.map V.int))) c3 = some (.tup (rs.map V.int)) := upd_same
    have x3 : Dr wl H (upd G2 c3 (.tup (rs.map V.int))) := x2.trans (Dr.new x2.well hc3)
    have n3 : c3 ≠ wl := (x2.well.ne hc3).symm
    generalize upd G2 c3 (.tup (rs.map V.int)) = G3 at S3 e3 x3
    intro c4 hc4
    have S4 : Same G3 (upd G3 c4 (.dK [])) := same_new hc4
    have e4 : (upd G3 c4 (.dK [])) c4 = some (.dK []) := upd_same
    have x4 : Dr wl H (upd G3 c4 (.dK [])) := x3.trans (Dr.new x3.well hc4)
    have n4 : c4 ≠ wl := (x3.well.ne hc4).symm
    generalize upd G3 c4 (.dK []) = G4 at S4 e4 x4
    -- [row]
    refine ⟨_, rfl, (by show 1 ≤ sizeLine; decide), fun c5 hc5 => ?_⟩
    have S5 : Same G4 (upd G4 c5 (.lst [.ref lr])) := same_new hc5
    have e5 : (upd G4 c5 (.lst [.ref lr])) c5 = some (.lst [.ref lr]) := upd_same
    have x5 : Dr wl H (upd G4 c5 (.lst [.ref lr])) := x4.trans (Dr.new x4.well hc5)
    have n5 : c5 ≠ wl := (x4.well.ne hc5).symm
    generalize upd G4 c5 (.lst [.ref lr]) = G5 at S5 e5 x5
    -- row with one more
    have S15 : Same H1 G5 := (((S1.trans S2).trans S3).trans S4).trans S5
    refine ⟨_, rfl, _, rfl, _, rfl, lr, _, rfl, SqL.of (S15 _ _ hlr1), fun c6 hc6 => ?_⟩
    rw [cut_to]
    have S6 : Same G5 (upd G5 c6 (.lst ((rs.map V.int).take tN))) := same_new hc6
    have e6 : (upd G5 c6 (.lst ((rs.map V.int).take tN))) c6 = some (.lst ((rs.map V.int).take tN)) := upd_same
    have x6 : Dr wl H (upd G5 c6 (.lst ((rs.map V.int).take tN))) := x5.trans (Dr.new x5.well hc6)
    have n6 : c6 ≠ wl := (x5.well.ne hc6).symm
    generalize upd G5 c6 (.lst ((rs.map V.int).take tN)) = G6 at S6 e6 x6
    refine ⟨(by show 1 ≤ sizeLine; decide), fun c7 hc7 => ?_⟩
    have S7 : Same G6 (upd G6 c7 (.lst [.int 97])) := same_new hc7
    have e7 : (upd G6 c7 (.lst [.int 97])) c7 = some (.lst [.int 97]) := upd_same
    have x7 : Dr wl H (upd G6 c7 (.lst [.int 97])) := x6.trans (Dr.new x6.well hc7)
    have n7 : c7 ≠ wl := (x6.well.ne hc7).symm
    generalize upd G6 c7 (.lst [.int 97]) = G7 at S7 e7 x7
    refine ⟨c6, c7, _, _, rfl, rfl, S7 _ _ e6, e7, Nat.le_of_lt (small1000 (by rw [List.length_take]; show _ + 1 ≤ _; omega)), fun c8 hc8 => ?_⟩
    have S8 : Same G7 (upd G7 c8 (.lst ((rs.map V.int).take tN ++ [.int 97]))) := same_new hc8
    have e8 : (upd G7 c8 (.lst ((rs.map V.int).take tN ++ [.int 97]))) c8 = some (.lst ((rs.map V.int).take tN ++ [.int 97])) := upd_same
    have x8 : Dr wl H (upd G7 c8 (.lst ((rs.map V.int).take tN ++ [.int 97]))) := x7.trans (Dr.new x7.well hc8)
    have n8 : c8 ≠ wl := (x7.well.ne hc8).symm
    generalize upd G7 c8 (.lst ((rs.map V.int).take tN ++ [.int 97])) = G8 at S8 e8 x8
    have S18 : Same H1 G8 := ((S15.trans S6).trans S7).trans S8
    refine ⟨_, rfl, _, rfl, _, rfl, lr, _, rfl, SqL.of (S18 _ _ hlr1), fun c9 hc9 => ?_⟩
    rw [cut_from]
    have S9 : Same G8 (upd G8 c9 (.lst ((rs.map V.int).drop tN))) := same_new hc9
    have e9 : (upd G8 c9 (.lst ((rs.map V.int).drop tN))) c9 = some (.lst ((rs.map V.int).drop tN)) := upd_same
    have x9 : Dr wl H (upd G8 c9 (.lst ((rs.map V.int).drop tN))) := x8.trans (Dr.new x8.well hc9)
    have n9 : c9 ≠ wl := (x8.well.ne hc9).symm
    generalize upd G8 c9 (.lst ((rs.map V.int).drop tN)) = G9 at S9 e9 x9
    refine ⟨c8, c9, _, _, rfl, rfl, S9 _ _ e8, e9, Nat.le_of_lt (small1000 (by rw [List.length_append, List.length_take, List.length_drop]; show _ + 1 + _ ≤ _; omega)), fun c10 hc10 => ?_⟩
    have S10 : Same G9 (upd G9 c10 (.lst ((rs.map V.int).take tN ++ [.int 97] ++ (rs.map V.int).drop tN))) := same_new hc10
    have e10 : (upd G9 c10 (.lst ((rs.map V.int).take tN ++ [.int 97] ++ (rs.map V.int).drop tN))) c10 = some (.lst ((rs.map V.int).take tN ++ [.int 97] ++ (rs.map V.int).drop tN)) := upd_same
    have x10 : Dr wl H (upd G9 c10 (.lst ((rs.map V.int).take tN ++ [.int 97] ++ (rs.map V.int).drop tN))) := x9.trans (Dr.new x9.well hc10)
    have n10 : c10 ≠ wl := (x9.well.ne hc10).symm
    generalize upd G9 c10 (.lst ((rs.map V.int).take tN ++ [.int 97] ++ (rs.map V.int).drop tN)) = G10 at S10 e10 x10
    have hb : ∀ v ∈ [V.ref c2, .ref c3, .non, .str "1", .int 3, .ref c4, .ref c5, .ref c10], BadI K (· ≠ wl) rs.length G10 v := by
      have T210 : Same G2 G10 := ((((((S3.trans S4).trans S5).trans S6).trans S7).trans S8).trans S9).trans S10
      have T310 : Same G3 G10 := (((((S4.trans S5).trans S6).trans S7).trans S8).trans S9).trans S10
      have T410 : Same G4 G10 := ((((S5.trans S6).trans S7).trans S8).trans S9).trans S10
      have T510 : Same G5 G10 := (((S6.trans S7).trans S8).trans S9).trans S10
      have hlrz := x10.but _ _ nlr hlr
      intro v hv
      simp only [List.mem_cons, List.not_mem_nil, or_false] at hv
      rcases hv with rfl | rfl | rfl | rfl | rfl | rfl | rfl | rfl
      · refine ⟨.list (rs.map PyData.int ++ [.int 1]), .lst (T210 _ _ e2) n2 ((dxs_ints rs).app (.one (.int 1))), row_len (by rw [List.length_append, List.length_map]; show _ + 1 ≠ _; omega), flat_tx (by rw [List.length_append, List.length_map]; show _ + 1 ≤ _; omega) fun e he => ?_⟩
        rcases List.mem_append.mp he with he | he
        · exact nums_tx1 wok e he
        · rw [List.mem_singleton.mp he]
          exact .int (by decide)
      · exact ⟨.tuple (rs.map PyData.int), .tup (SqT.of (T310 _ _ e3)) (dxs_ints rs), rfl, (Tx.tuple (n := 24) (b := 2) (by rw [List.length_map]; omega) (nums_tx1 wok)).mono (by decide) (by decide)⟩
      · exact ⟨.none, .non, rfl, .non⟩
      · exact ⟨.str "1", .str _, rfl, ⟨rfl, (by decide +kernel), (by decide +kernel), Nat.zero_le _⟩⟩
      · exact ⟨.int 3, .int _, rfl, .int (by decide)⟩
      · exact ⟨.dict [], .dic (T410 _ _ e4), rfl, ⟨rfl, (by decide +kernel), (by decide +kernel), (by decide +kernel)⟩⟩
      · refine ⟨.list [.list (rs.map PyData.int)], .lst (T510 _ _ e5) n5 (.one (.lst hlrz nlr (dxs_ints rs))), row_odd (List.mem_singleton.mpr rfl) rfl, (Tx.list (n := 1) (k := 2) (b := 24 * 3) (Nat.le_refl _) fun e he => ?_).mono (by decide) (by decide)⟩
        rw [List.mem_singleton.mp he]
        exact Tx.list (n := 24) (b := 2) (by rw [List.length_map]; omega) (nums_tx1 wok)
      · exact mid_bad wok (by omega) e10 n10 ⟨.int 97, .int _, rfl, .int (by decide)⟩
    refine ⟨(by show 8 ≤ sizeLine; decide), fun c11 hc11 => ?_⟩
    have fr := XM.fresh (K := K) (wl := wl) (o := .lst [V.ref c2, .ref c3, .non, .str "1", .int 3, .ref c4, .ref c5, .ref c10]) hc11
    have S11 : Same G10 (upd G10 c11 (.lst [.ref c2, .ref c3, .non, .str "1", .int 3, .ref c4, .ref c5, .ref c10])) := same_new hc11
    have e11 : (upd G10 c11 (.lst [.ref c2, .ref c3, .non, .str "1", .int 3, .ref c4, .ref c5, .ref c10])) c11 = some (.lst [.ref c2, .ref c3, .non, .str "1", .int 3, .ref c4, .ref c5, .ref c10]) := upd_same
    have x11 : Dr wl H (upd G10 c11 (.lst [.ref c2, .ref c3, .non, .str "1", .int 3, .ref c4, .ref c5, .ref c10])) := x10.trans (Dr.new x10.well hc11)
    have n11 : c11 ≠ wl := (x10.well.ne hc11).symm
    generalize upd G10 c11 (.lst [.ref c2, .ref c3, .non, .str "1", .int 3, .ref c4, .ref c5, .ref c10]) = G11 at S11 e11 x11 fr
    have hb2 : ∀ v ∈ [V.ref c2, .ref c3, .non, .str "1", .int 3, .ref c4, .ref c5, .ref c10], BadI K (Nor wl c11) rs.length G11 v := fun v hv => (hb v hv).move fr
    have o8 : [V.ref c2, .ref c3, .non, .str "1", .int 3, .ref c4, .ref c5, .ref c10].length = 8 := rfl
    clear hb
    generalize [V.ref c2, .ref c3, .non, .str "1", .int 3, .ref c4, .ref c5, .ref c10] = b8 at hb2 e11 o8
    have hlr11 := x11.but _ _ nlr hlr
    refine gn_norm (σ' := [some (.ref wl), some (.ref lr), some (.int (tN : Nat)), some (.ref c11), none, none]) rfl ?_
    have fin : ∀ {Hz : Hp} {l : Addr} {us : List V} {σ : L2.St}, Dr wl H Hz → l ≠ wl → Hz l = some (.lst us) → us ≠ [] → us.length ≤ 100 → (∀ v ∈ us, BadI K (· ≠ wl) rs.length Hz v) → σ[0]? = some (some (.ref wl)) → σ[3]? = some (some (.ref l)) → tCall (spOne K) [] E0 (tCons (tVar 0) (tCons (tVar 3) tNil)) σ Hz Q := fun {Hz l us σ} dz nl el ne ll hbz s0 s3 => by
      refine ⟨_, s0, _, s3, wl, l, us, rfl, nl, dz.well, SqL.of el, ne, by omega, fun v H9 hv d9 => ?_⟩
      exact q v H9 (dz.trans d9) ((hbz v hv).move (.dr dz.well d9))
    refine ⟨_, rfl, (by show 0 ≤ sizeLine; decide), fun c12 hc12 => ?_⟩
    have S12 : Same G11 (upd G11 c12 (.lst [])) := same_new hc12
    have e12 : (upd G11 c12 (.lst [])) c12 = some (.lst []) := upd_same
    have x12 : Dr wl H (upd G11 c12 (.lst [])) := x11.trans (Dr.new x11.well hc12)
    have n12 : c12 ≠ wl := (x11.well.ne hc12).symm
    generalize upd G11 c12 (.lst []) = G12 at S12 e12 x12
    have e11b := S12 _ _ e11
    have hb3 : ∀ v ∈ b8, BadI K (· ≠ wl) rs.length G12 v := fun v hv => ((hb2 v hv).move .nor).move (.same S12)
    have hlr12 := S12 _ _ hlr11
    refine ⟨numsD rs, numsD [], dp_nums (SqL.of hlr12), dp_nums (xs := []) (SqL.of e12), Sh.ok (sh_nums _) (by decide), Sh.ok (sh_nums _) (by decide), ?_⟩
    rw [numsD_eq]
    by_cases hrs : rs = []
    · rw [decide_eq_true hrs]
      refine ⟨_, rfl, iteF ?_⟩
      exact fin x12 n11 e11b (fun z => by rw [z] at o8; cases o8) (by omega) hb3 rfl rfl
    · rw [decide_eq_false hrs]
      refine ⟨_, rfl, iteT ?_⟩
      have hpos : 0 < rs.length := List.length_pos_iff.mpr hrs
      refine ⟨_, rfl, _, rfl, _, rfl, _, rfl, lr, _, rfl, SqL.of hlr12, fun c13 hc13 => ?_⟩
      rw [cut_neg, hvl, ← List.map_take]
      have S13 : Same G12 (upd G12 c13 (.lst ((rs.take (rs.length - 1)).map V.int))) := same_new hc13
      have e13 : (upd G12 c13 (.lst ((rs.take (rs.length - 1)).map V.int))) c13 = some (.lst ((rs.take (rs.length - 1)).map V.int)) := upd_same
      have x13 : Dr wl H (upd G12 c13 (.lst ((rs.take (rs.length - 1)).map V.int))) := x12.trans (Dr.new x12.well hc13)
      have n13 : c13 ≠ wl := (x12.well.ne hc13).symm
      generalize upd G12 c13 (.lst ((rs.take (rs.length - 1)).map V.int)) = G13 at S13 e13 x13
      refine ⟨(by show 0 ≤ sizeLine; decide), fun c14 hc14 => ?_⟩
      have S14 : Same G13 (upd G13 c14 (.lst [])) := same_new hc14
      have e14 : (upd G13 c14 (.lst [])) c14 = some (.lst []) := upd_same
      have x14 : Dr wl H (upd G13 c14 (.lst [])) := x13.trans (Dr.new x13.well hc14)
      have n14 : c14 ≠ wl := (x13.well.ne hc14).symm
      generalize upd G13 c14 (.lst []) = G14 at S14 e14 x14
      refine ⟨(by show 2 ≤ sizeLine; decide), fun c15 hc15 => ?_⟩
      have S15 : Same G14 (upd G14 c15 (.lst [.ref c13, .ref c14])) := same_new hc15
      have e15 : (upd G14 c15 (.lst [.ref c13, .ref c14])) c15 = some (.lst [.ref c13, .ref c14]) := upd_same
      have x15 : Dr wl H (upd G14 c15 (.lst [.ref c13, .ref c14])) := x14.trans (Dr.new x14.well hc15)
      have n15 : c15 ≠ wl := (x14.well.ne hc15).symm
      generalize upd G14 c15 (.lst [.ref c13, .ref c14]) = G15 at S15 e15 x15
      have S1215 := (S13.trans S14).trans S15
      refine ⟨c11, c15, _, _, rfl, rfl, S1215 _ _ e11b, e15, Nat.le_of_lt (small1000 (by rw [o8]; show 8 + 2 ≤ 1000; decide)), fun c16 hc16 => ?_⟩
      have hc16H : H c16 = none := x15.free hw hc16
      have hb4 : ∀ v ∈ b8 ++ [V.ref c13, V.ref c14], BadI K (· ≠ wl) rs.length G15 v := by
        intro v hv
        rcases List.mem_append.mp hv with hv | hv
        · exact (hb3 v hv).move (.same S1215)
        · simp only [List.mem_cons, List.not_mem_nil, or_false] at hv
          rcases hv with rfl | rfl
          · exact ⟨.list ((rs.take (rs.length - 1)).map PyData.int), .lst ((S14.trans S15) _ _ e13) n13 (dxs_ints _), row_len (by rw [List.length_map, List.length_take]; omega), flat_tx (by rw [List.length_map, List.length_take]; omega) (nums_tx1 (wok_take wok _))⟩
          · exact ⟨.list [], .lst (S15 _ _ e14) n14 .nil, row_len (show 0 ≠ _ by omega), flat_tx (Nat.zero_le _) (fun d h => by cases h)⟩
      have fr := XM.fresh (K := K) (wl := wl) (o := .lst (b8 ++ [V.ref c13, V.ref c14])) hc16
      have S16 : Same G15 (upd G15 c16 (.lst (b8 ++ [.ref c13, .ref c14]))) := same_new hc16
      have e16 : (upd G15 c16 (.lst (b8 ++ [.ref c13, .ref c14]))) c16 = some (.lst (b8 ++ [.ref c13, .ref c14])) := upd_same
      have x16 : Dr wl H (upd G15 c16 (.lst (b8 ++ [.ref c13, .ref c14]))) := x15.trans (Dr.new x15.well hc16)
      have n16 : c16 ≠ wl := (x15.well.ne hc16).symm
      generalize upd G15 c16 (.lst (b8 ++ [.ref c13, .ref c14])) = G16 at S16 e16 x16 fr
      have hb5 : ∀ v ∈ b8 ++ [V.ref c13, V.ref c14], BadI K (Nor wl c16) rs.length G16 v := fun v hv => (hb4 v hv).move fr
      have o10 : (b8 ++ [V.ref c13, V.ref c14]).length = 10 := by rw [List.length_append, o8]; rfl
      generalize b8 ++ [V.ref c13, V.ref c14] = b10 at hb5 e16 o10
      refine gn_norm (σ' := [some (.ref wl), some (.ref lr), some (.int (tN : Nat)), some (.ref c16), none, none]) rfl ?_
      have hlr16 := x16.but _ _ nlr hlr
      refine ⟨_, rfl, _, rfl, lr, _, rfl, .inl (SqL.of hlr16), wl, _, rfl, by rw [hvl]; omega, by rw [hvl]; omega, x16.well, fun d2 H17 d20 d21 D17 => ?_⟩
      obtain ⟨uN, rfl⟩ : ∃ n : Nat, d2 = (n : Int) := ⟨d2.toNat, by omega⟩
      refine gn_norm (σ' := [some (.ref wl), some (.ref lr), some (.int (tN : Nat)), some (.ref c16), some (.int (uN : Nat)), none]) rfl ?_
      have hb6 : ∀ v ∈ b10, BadI K (Nor wl c16) rs.length H17 v := fun v hv => (hb5 v hv).move (.drN x16.well D17)
      have e16b := D17.but _ _ n16 e16
      have x17 := x16.trans D17
      refine ⟨_, rfl, (by show 1 ≤ sizeLine; decide), fun c18 hc18 => ?_⟩
      have S18 : Same H17 (upd H17 c18 (.tup [.int 1])) := same_new hc18
      have e18 : (upd H17 c18 (.tup [.int 1])) c18 = some (.tup [.int 1]) := upd_same
      have x18 : Dr wl H (upd H17 c18 (.tup [.int 1])) := x17.trans (Dr.new x17.well hc18)
      have n18 : c18 ≠ wl := (x17.well.ne hc18).symm
      generalize upd H17 c18 (.tup [.int 1]) = G18 at S18 e18 x18
      refine ⟨_, _, rfl, rfl, ⟨by decide, by decide, by decide⟩, (by show 8 ≤ sizeLine; decide), fun c19 hc19 => ?_⟩
      have S19 : Same G18 (upd G18 c19 (.lst [.int 97, .int (-1), .bl true, .bl false, .non, .str "1", .ref c18, .int (10 ^ (40 : Int).toNat)])) := same_new hc19
      have e19 : (upd G18 c19 (.lst [.int 97, .int (-1), .bl true, .bl false, .non, .str "1", .ref c18, .int (10 ^ (40 : Int).toNat)])) c19 = some (.lst [.int 97, .int (-1), .bl true, .bl false, .non, .str "1", .ref c18, .int (10 ^ (40 : Int).toNat)]) := upd_same
      have x19 : Dr wl H (upd G18 c19 (.lst [.int 97, .int (-1), .bl true, .bl false, .non, .str "1", .ref c18, .int (10 ^ (40 : Int).toNat)])) := x18.trans (Dr.new x18.well hc19)
      have n19 : c19 ≠ wl := (x18.well.ne hc19).symm
      generalize upd G18 c19 (.lst [.int 97, .int (-1), .bl true, .bl false, .non, .str "1", .ref c18, .int (10 ^ (40 : Int).toNat)]) = G19 at S19 e19 x19
      have S1719 := S18.trans S19
      have hb7 : ∀ v ∈ b10, BadI K (Nor wl c16) rs.length G19 v := fun v hv => (hb6 v hv).move (.same S1719)
      have ho : ∀ v ∈ [V.int 97, .int (-1), .bl true, .bl false, .non, .str "1", .ref c18, .int (10 ^ (40 : Int).toNat)], OddI K (Nor wl c16) G19 v := by
        intro v hv
        simp only [List.mem_cons, List.not_mem_nil, or_false] at hv
        rcases hv with rfl | rfl | rfl | rfl | rfl | rfl | rfl | rfl
        · exact ⟨.int 97, .int _, rfl, .int (by decide)⟩
        · exact ⟨.int (-1), .int _, rfl, .int (by decide)⟩
        · exact ⟨.bool true, .bl _, rfl, .boo _⟩
        · exact ⟨.bool false, .bl _, rfl, .boo _⟩
        · exact ⟨.none, .non, rfl, .non⟩
        · exact ⟨.str "1", .str _, rfl, ⟨rfl, (by decide +kernel), (by decide +kernel), Nat.zero_le _⟩⟩
        · exact ⟨.tuple [.int 1], .tup (SqT.of (S19 _ _ e18)) (.one (.int 1)), rfl, (Tx.tuple (n := 1) (b := 0) (k := 0) (Nat.le_refl _) fun e he => by rw [List.mem_singleton.mp he]; exact .int (by decide)).mono (by decide) (by decide)⟩
        · exact ⟨.int (10 ^ (40 : Int).toNat), .int _, by decide +kernel, .int (by decide +kernel)⟩
      have o8i : [V.int 97, .int (-1), .bl true, .bl false, .non, .str "1", .ref c18, .int (10 ^ (40 : Int).toNat)].length = 8 := rfl
      generalize [V.int 97, .int (-1), .bl true, .bl false, .non, .str "1", .ref c18, .int (10 ^ (40 : Int).toNat)] = it8 at ho e19 o8i
      have e16c := S1719 _ _ e16b
      have n1916 : c19 ≠ c16 := fun z => by
        have := S18 _ _ e16b
        rw [← z, hc19] at this
        cases this
      refine ⟨c19, rfl, ⟨_, SqL.of e19⟩, for_list (K := K) (a := c19) (xs := it8) (fun i σ H' => ∃ (s5 : Option V) (us : List V), σ = [some (.ref wl), some (.ref lr), some (.int (tN : Nat)), some (.ref c16), some (.int (uN : Nat)), s5] ∧ Dr wl H H' ∧ H' c19 = some (.lst it8) ∧ H' c16 = some (.lst us) ∧ us.length = 10 + i ∧ (∀ v ∈ us, BadI K (Nor wl c16) rs.length H' v) ∧ (∀ v ∈ it8, OddI K (Nor wl c16) H' v))
        ⟨_, b10, rfl, x19, e19, e16c, o10, hb7, ho⟩ (fun i σ H' _ ⟨_, _, _, _, e, _⟩ => SqL.of e) ?_ ?_⟩
      · rintro i v σ H' hv ⟨s5, us, rfl, XD, eI, eU, hul, hbu, hou⟩
        have hi : i < it8.length := (List.getElem?_eq_some_iff.mp hv).1
        have hlrI := XD.but _ _ nlr hlr
        refine ⟨_, rfl, .inl ⟨rfl, _, SqL.of eU⟩, _, rfl, _, rfl, _, rfl, lr, _, rfl, SqL.of hlrI, fun c20 hc20 => ?_⟩
        rw [cut_to]
        have S20 : Same H' (upd H' c20 (.lst ((rs.map V.int).take uN))) := same_new hc20
        have e20 : (upd H' c20 (.lst ((rs.map V.int).take uN))) c20 = some (.lst ((rs.map V.int).take uN)) := upd_same
        have x20 : Dr wl H (upd H' c20 (.lst ((rs.map V.int).take uN))) := XD.trans (Dr.new XD.well hc20)
        have n20 : c20 ≠ wl := (XD.well.ne hc20).symm
        generalize upd H' c20 (.lst ((rs.map V.int).take uN)) = G20 at S20 e20 x20
        refine ⟨_, rfl, (by show 1 ≤ sizeLine; decide), fun c21 hc21 => ?_⟩
        have S21 : Same G20 (upd G20 c21 (.lst [v])) := same_new hc21
        have e21 : (upd G20 c21 (.lst [v])) c21 = some (.lst [v]) := upd_same
        have x21 : Dr wl H (upd G20 c21 (.lst [v])) := x20.trans (Dr.new x20.well hc21)
        have n21 : c21 ≠ wl := (x20.well.ne hc21).symm
        generalize upd G20 c21 (.lst [v]) = G21 at S21 e21 x21
        refine ⟨c20, c21, _, _, rfl, rfl, S21 _ _ e20, e21, Nat.le_of_lt (small1000 (by rw [List.length_take]; show _ + 1 ≤ _; omega)), fun c22 hc22 => ?_⟩
        have S22 : Same G21 (upd G21 c22 (.lst ((rs.map V.int).take uN ++ [v]))) := same_new hc22
        have e22 : (upd G21 c22 (.lst ((rs.map V.int).take uN ++ [v]))) c22 = some (.lst ((rs.map V.int).take uN ++ [v])) := upd_same
        have x22 : Dr wl H (upd G21 c22 (.lst ((rs.map V.int).take uN ++ [v]))) := x21.trans (Dr.new x21.well hc22)
        have n22 : c22 ≠ wl := (x21.well.ne hc22).symm
        generalize upd G21 c22 (.lst ((rs.map V.int).take uN ++ [v])) = G22 at S22 e22 x22
        have S2022 := (S20.trans S21).trans S22
        refine ⟨_, rfl, _, rfl, _, _, rfl, rfl, _, rfl, lr, _, rfl, SqL.of (S2022 _ _ hlrI), fun c23 hc23 => ?_⟩
        rw [show ((uN : Nat) : Int) + 1 = ((uN + 1 : Nat) : Int) from rfl, cut_from]
        have S23 : Same G22 (upd G22 c23 (.lst ((rs.map V.int).drop (uN + 1)))) := same_new hc23
        have e23 : (upd G22 c23 (.lst ((rs.map V.int).drop (uN + 1)))) c23 = some (.lst ((rs.map V.int).drop (uN + 1))) := upd_same
        have x23 : Dr wl H (upd G22 c23 (.lst ((rs.map V.int).drop (uN + 1)))) := x22.trans (Dr.new x22.well hc23)
        have n23 : c23 ≠ wl := (x22.well.ne hc23).symm
        generalize upd G22 c23 (.lst ((rs.map V.int).drop (uN + 1))) = G23 at S23 e23 x23
        refine ⟨c22, c23, _, _, rfl, rfl, S23 _ _ e22, e23, Nat.le_of_lt (small1000 (by rw [List.length_append, List.length_take, List.length_drop]; show _ + 1 + _ ≤ _; omega)), fun c24 hc24 => ?_⟩
        have S2023 := S2022.trans S23
        have n2416 : c24 ≠ c16 := ne_of_none (S2023 _ _ eU) hc24 |>.symm
        have S24 : Same G23 (upd G23 c24 (.lst ((rs.map V.int).take uN ++ [v] ++ (rs.map V.int).drop (uN + 1)))) := same_new hc24
        have e24 : (upd G23 c24 (.lst ((rs.map V.int).take uN ++ [v] ++ (rs.map V.int).drop (uN + 1)))) c24 = some (.lst ((rs.map V.int).take uN ++ [v] ++ (rs.map V.int).drop (uN + 1))) := upd_same
        have x24 : Dr wl H (upd G23 c24 (.lst ((rs.map V.int).take uN ++ [v] ++ (rs.map V.int).drop (uN + 1)))) := x23.trans (Dr.new x23.well hc24)
        have n24 : c24 ≠ wl := (x23.well.ne hc24).symm
        generalize upd G23 c24 (.lst ((rs.map V.int).take uN ++ [v] ++ (rs.map V.int).drop (uN + 1))) = G24 at S24 e24 x24
        have S2024 := S2023.trans S24
        have eU4 := S2024 _ _ eU
        refine ⟨c16, _, _, rfl, rfl, eU4, small1000 (by omega), ?_⟩
        have hv5 : BadI K (Nor wl c16) rs.length G24 (.ref c24) := mid_bad wok (by omega) e24 ⟨n24, n2416⟩ ((hou v (List.mem_of_getElem? hv)).move (.same S2024))
        refine ⟨_, us ++ [.ref c24], rfl, ⟨fun b o hb e => ?_, ?_⟩, ?_, upd_same, by rw [List.length_append, hul]; rfl, fun u hu => ?_, fun u hu => ((hou u hu).move (.same S2024)).move (.mut eU4)⟩
        · rw [upd_ne (fun z => by rw [z, hc16H] at e; cases e)]
          exact x24.but b o hb e
        · obtain ⟨k1, k2, k3, e⟩ := x24.well
          exact ⟨k1, k2, k3, by rw [upd_ne n16.symm]; exact e⟩
        · rw [upd_ne n1916]
          exact S2024 _ _ eI
        · rcases List.mem_append.mp hu with hu | hu
          · exact ((hbu u hu).move (.same S2024)).move (.mut eU4)
          · rw [List.mem_singleton.mp hu]
            exact hv5.move (.mut eU4)
      · rintro σ H' ⟨s5, us, rfl, XD, eI, eU, hul, hbu, hou⟩
        exact fin XD n16 eU (fun z => by rw [z, List.length_nil] at hul; omega) (by omega) (fun v hv => (hbu v hv).move .nor) rfl rfl
end
end Lag

set_option maxRecDepth 100000
set_option maxHeartbeats 4000000
/-! ### try with several except clauses, each with a name or without -/
namespace L2
open PySem PySem.Spec PyProof.Rows
/-- a clause: the class that it names, the slot of its own name, what its suite does -/
structure Cl where
  c : Value
  i : Option Nat
  ts : Addr → Value → Option Addr → TS
/-- behind the suite the clause's own name is gone -/
def Cl.ends (k : Cl) (D : Ends) : Ends := match k.i with
  | none => D
  | some i => ⟨fun s h => D.nx (s.set i none) h, D.rt, fun s h => D.bk (s.set i none) h, fun s h => D.ct (s.set i none) h⟩
def Cl.in_ (k : Cl) (a : Addr) (σ : St) : St := match k.i with
  | none => σ
  | some i => σ.set i (some (.ref a))
def wCls (K : PySem.W.Frag) (Wo : WX) (D : Ends) : List Cl → WX
  | [] => Wo
  | k :: l => fun cls d σ H => ∃ b : Bool, PySem.W.exmOne K cls k.c = some b ∧ (b = true → ∀ a, H a = none → k.ts a cls d (k.ends D) (k.in_ a σ) H) ∧ (b = false → wCls K Wo D l cls d σ H)
inductive ClsOk (X : Cx) : List ExceptHandler → List Cl → Prop
  | nil : ClsOk X [] []
  | bare {x : Str} {c : Value} {ts : Addr → Value → Option Addr → TS} {b1 : Stmt} {ss : List Stmt} {p1 p2 : Pos} {hs : List ExceptHandler} {l : List Cl} (hc : Names X x c)
      (su : ∀ (a : Addr) (oe : Obj) (cls : Value) (d : Option Addr) (pn : List (Addr × Obj)), Zc cls d oe → (∃ vs, oe.data = .fields vs) → PSs (X.suite a ((a, oe) :: pn)) (b1 :: ss) (ts a cls d)) (r : ClsOk X hs l) :
      ClsOk X (.ExceptHandler (some (.Name x p1)) none (b1 :: ss) p2 :: hs) (⟨c, none, ts⟩ :: l)
  | named {x n : Str} {c : Value} {i : Nat} {ts : Addr → Value → Option Addr → TS} {b1 : Stmt} {ss : List Stmt} {p1 p2 : Pos} {hs : List ExceptHandler} {l : List Cl} (hi : X.N[i]? = some n) (hl : X.env.kindOf n = some .local) (hc : Names X x c)
      (su : ∀ (a : Addr) (oe : Obj) (cls : Value) (d : Option Addr) (pn : List (Addr × Obj)), Zc cls d oe → (∃ vs, oe.data = .fields vs) → PSs (X.suite a ((a, oe) :: pn)) (b1 :: ss) (ts a cls d)) (r : ClsOk X hs l) :
      ClsOk X (.ExceptHandler (some (.Name x p1)) (some n) (b1 :: ss) p2 :: hs) (⟨c, some i, ts⟩ :: l)
section
variable {X : Cx} {body : List Stmt} {h0 : ExceptHandler} {hs : List ExceptHandler} {l : List Cl} {pos : Pos} {tb : WX → TS} {Wo : WX}
theorem ps_try_cls (hst : X.stack = X.env :: X.outer) (hfr : X.env.frame = some X.env.locals) (hN : X.N.Nodup) (tk : Takes X Wo)
    (hb : ∀ (W : WX) (pn : List (Addr × Obj)) (xe : Value → Shared → Prop), Takes (X.tr pn xe) W → PassesOwn (model X.prog X.w) X.A X.env xe → PSs (X.tr pn xe) body (tb W))
    (hh : ClsOk X (h0 :: hs) l) : PS X (.Try body (h0 :: hs) [] [] pos) (fun D σ H => tb (wCls X.K Wo D l) D σ H) := by
  constructor
  intro pins s σ H D I h
  have ok := I.ok
  have frs0 : X.A.frames = some (X.env :: X.outer) := hst ▸ ok.frames
  refine wpAny_Try_except (wpAny_mono ((hb (wCls X.K Wo D l) (X.pn ++ pins)
    (fun e t1 => wpAny (model X.prog X.w) X.A (noteFrame e X.env)
      (fun _ t2 => wpAny (model X.prog X.w) X.A (setFlight e none)
        (fun _ t3 => wpAny (model X.prog X.w) X.A (handleBy e X.env (h0 :: hs)) (SP X pins D) X.xe t3) X.xe t2) X.xe t1)
    ?_ PassesOwn.looking).run [] s σ H D (I.toTry _) h) ?_ fun e t1 he => he)
  · intro u t xx
    have goal : wpAny (model X.prog X.w) X.A (noteFrame u X.env) (fun _ t2 => wpAny (model X.prog X.w) X.A (setFlight u none) (fun _ t3 => wpAny (model X.prog X.w) X.A (handleBy u X.env (h0 :: hs)) (SP X pins D) X.xe t3) X.xe t2) X.xe t := by
      obtain ⟨a, B, sI, pins', σ', H', cls, d, rfl, J0, nb, up, sky0, na, os, ag, w⟩ := xx
      have J : Inv X pins σ' H' sI := J0.ofTry ok
      have sky : Sky B (X.env :: X.outer) a (Zc cls d) X.env.locals t.heap := hst ▸ sky0
      refine Sky.land Zc.steady frs0 hfr sky fun h3 fl3 up3 => ?_
      have J3 : Inv X pins σ' H' { t with heap := h3 } := J.landed nb fl3.1 (up.trans up3) os ag
      obtain ⟨oe, vs, he, hz, hd⟩ := fl3.there
      have off : a ∉ frs (X.env :: X.outer) := fun hm => by
        obtain ⟨_, o', e', no⟩ := fl3.2.2.1.mem hm
        rw [he] at e'
        cases e'
        exact no _ hd
      have offL : a ≠ X.env.locals := fun z => off (List.mem_filterMap.mpr ⟨X.env, by simp, by rw [hfr, z]⟩)
      have offF : a ∉ X.fs := fun hm => by
        obtain ⟨e, hm2, q⟩ := List.mem_filterMap.mp hm
        exact off (List.mem_filterMap.mpr ⟨e, List.mem_cons_of_mem _ hm2, q⟩)
      have S3 := J3.suite he hd na offL offF
      -- is it of the class that is named
      suffices go : ∀ {hs' : List ExceptHandler} {l' : List Cl}, ClsOk X hs' l' → wCls X.K Wo D l' cls d σ' H' → wpAny (model X.prog X.w) X.A (handleBy (.ref a) X.env hs') (SP X pins D) X.xe { t with heap := h3 } from go hh w
      have typ : PySem.W.Looks (model X.prog X.w) h3 (typeOf (.ref a)) cls := by
        intro A Q E s k q
        exact wpAny_typeOf_ref (k _ _ he) (by rw [hz.1]; exact q)
      have nm : ∀ {x : Str} {c : Value} {p1 : Pos} {Q E : Value → Shared → Prop}, Names X x c → Q c { t with heap := h3 } → wpAny (model X.prog X.w) (X.A.mark (some (.ref a))) (eval (.Name x p1) X.env) Q E { t with heap := h3 } := by
        intro x c p1 Q E hc q
        rcases hc with ⟨g1, g2, g3 | ⟨g3, g4, g5⟩⟩
        · exact ld_glob (X := X.suite a ((a, oe) :: (X.pn ++ pins))) S3 g1 g3 q g2
        · exact ld_blt (X := X.suite a ((a, oe) :: (X.pn ++ pins))) S3 g1 g3 g4 q g5 g2
      intro hs' l' ck
      induction ck with
      | nil =>
        intro w
        apply wpAny_handleBy_nil
        obtain ⟨_, _, _, ob, us, T, oT, ts', g1, _, g3, g4, _⟩ := id fl3
        unfold PySem.passOn
        refine wpAny_bind (wpAny_field g1 g3 g4 ?_)
        have nn : ¬ ((Value.ref T == Value.none) = true) := by simp
        rw [if_neg nn]
        have out : wpAny (model X.prog X.w) X.A (setFlight (.ref a) X.env.frame) (fun _ t4 => wpAny (model X.prog X.w) X.A (throw (.ref a) : Sem Flow) (SP X pins D) X.xe t4) X.xe { t with heap := h3 } := by
          rw [hfr]
          refine HandSPX.setFlight_upZ fl3 fun h4 hh4 up4 => wpAny_throw (tk _ _ ?_)
          exact ⟨a, B, sI, pins, σ', H', cls, d, rfl, J, nb, (up.trans up3).trans up4, .inr (.inr (hst ▸ hh4)), na, os, ag, w⟩
        first
          | exact wpAny_bind (wpAny_pure (wpAny_bind out))
          | exact wpAny_bind out
      | bare hc su r ih =>
        rintro ⟨b, eb, yes, no⟩
        refine wpAny_handleBy_cons (codeAny_handlers_test (nm hc ((PySem.W.exm_one (M := model X.prog X.w) J3.kIn typ eb).here ?_))) (fun q => by cases q)
        cases b
        · exact ih (no rfl)
        · refine codeAny_handlers_suite (HandSPX.lands_againZ fl3 fun h4 fl4 up4 => ?_)
          have J4 : Inv X pins σ' H' { t with heap := h4 } := J.landed nb fl4.1 ((up.trans up3).trans up4) os ag
          obtain ⟨o4, v4, he4, hz4, hd4⟩ := fl4.there
          have S4 := J4.suite he4 hd4 na offL offF
          refine wpAny_mono ((su a o4 cls d (X.pn ++ pins) hz4 ⟨_, hd4⟩).run [] _ _ H' _ S4 (yes rfl a na)) (fun f t6 hp => ?_) (fun _ _ z => False.elim z)
          cases f
          case next => exact ⟨_, _, hp.choose_spec.choose_spec.1.unsuite ok, hp.choose_spec.choose_spec.2⟩
          case brk => exact ⟨_, _, hp.choose_spec.choose_spec.1.unsuite ok, hp.choose_spec.choose_spec.2⟩
          case cont => exact ⟨_, _, hp.choose_spec.choose_spec.1.unsuite ok, hp.choose_spec.choose_spec.2⟩
          case ret u =>
            obtain ⟨v6, σ6, H6, S6, r6, q6⟩ := hp
            exact ⟨v6, σ6, H6, S6.unsuite ok, r6, q6⟩
      | @named x n c i ts b1 ss p1 p2 hs2 l2 hi hl hc su r ih =>
        rintro ⟨b, eb, yes, no⟩
        refine wpAny_handleBy_cons (codeAny_handlers_test (nm hc ((PySem.W.exm_one (M := model X.prog X.w) J3.kIn typ eb).here ?_))) (fun q => by cases q)
        cases b
        · exact ih (no rfl)
        · refine codeAny_handlers_suite_as (HandSPX.lands_againZ fl3 fun h4 fl4 up4 => ?_)
          have J4 : Inv X pins σ' H' { t with heap := h4 } := J.landed nb fl4.1 ((up.trans up3).trans up4) os ag
          obtain ⟨o4, v4, he4, hz4, hd4⟩ := fl4.there
          have S4 := J4.suite he4 hd4 na offL offF
          refine store_ok (X := X.suite a ((a, o4) :: (X.pn ++ pins))) (v := .ref a) S4 hN hi (.inl hl) rfl (fun t5 S5 => ?_) (.inr hl)
          refine wpAny_mono ((su a o4 cls d (X.pn ++ pins) hz4 ⟨_, hd4⟩).run [] t5 _ H' _ S5 (yes rfl a na)) (fun f t6 hp => ?_) (fun _ _ z => False.elim z)
          have gone : ∀ {σ6 : St} {H6 : Hp} {Q : Shared → Prop}, Inv (X.suite a ((a, o4) :: (X.pn ++ pins))) [] σ6 H6 t6 → (∀ t7, Inv X pins (σ6.set i none) H6 t7 → Q t7) →
              wpAny (model X.prog X.w) X.A (do bindName X.env n .none; unbindBehindTheSuite X.env n p2) (fun _ t7 => Q t7) X.xe t6 := by
            intro σ6 H6 Q S6 hq
            exact gone_ok (S6.unsuite ok) hN hi hl hq
          cases f
          case next =>
            obtain ⟨σ6, H6, S6, q6⟩ := hp
            exact gone S6 fun t7 J7 => ⟨_, _, J7, q6⟩
          case brk =>
            obtain ⟨σ6, H6, S6, q6⟩ := hp
            exact gone S6 fun t7 J7 => ⟨_, _, J7, q6⟩
          case cont =>
            obtain ⟨σ6, H6, S6, q6⟩ := hp
            exact gone S6 fun t7 J7 => ⟨_, _, J7, q6⟩
          case ret u =>
            obtain ⟨v6, σ6, H6, S6, r6, q6⟩ := hp
            exact gone S6 fun t7 J7 => ⟨_, _, _, J7, r6, q6⟩
    exact goal
  · intro f t1 hp
    cases f
    case next =>
      obtain ⟨σ', H', J', q⟩ := hp
      exact wpAny_execs_nil ⟨σ', H', J'.ofTry ok, q⟩
    case brk =>
      obtain ⟨σ', H', J', q⟩ := hp
      exact ⟨σ', H', J'.ofTry ok, q⟩
    case cont =>
      obtain ⟨σ', H', J', q⟩ := hp
      exact ⟨σ', H', J'.ofTry ok, q⟩
    case ret u =>
      obtain ⟨v, σ', H', J', r, q⟩ := hp
      exact ⟨v, σ', H', J'.ofTry ok, r, q⟩
end
end L2

set_option maxRecDepth 100000
set_option maxHeartbeats 8000000
namespace Lag
open PySem PySem.Spec PyProof.Rows L2
abbrev sRefused : Stmt := topS 56 -- @_law_refused
/-- asked, and whether it was refused with NoRow -/
def TRef (CR : Addr) : (XK → Hp → VK → Prop) → Hp → VK → Prop := fun tl H Q => tl (fun cls d H' => cls = .ref CR ∧ d = none ∧ Q (.bl true) H') H (fun _ H' => Q (.bl false) H')
theorem pss_if {X : Cx} {ss : List Stmt} {p : Prop} {t : TS} (h : p → PSs X ss t) : PSs X ss (fun D σ H => p ∧ (σ.length = X.N.length → t D σ H)) := ⟨fun pins s σ H D I hh => (h hh.1).run pins s σ H D I (hh.2 I.len)⟩
structure RefC (K : PySem.W.Frag) (mg : Str → Option Value) (C0 CR CW : Addr) : Prop where
  g0 : mg "LagError" = some (.ref C0)
  gR : mg "NoRow" = some (.ref CR)
  gW : mg "NoWires" = some (.ref CW)
  gV : mg "ValueError" = none
  mI : mg "isinstance" = none
  eR : PySem.W.exmOne K (.ref CR) (.ref CR) = some true
  kV : PySem.W.kitOne K (.ref CR) (.type "ValueError") = some true
  kW : PySem.W.kitOne K (.ref CR) (.ref CW) = some false
  ex : ExcC K CR
abbrev nRefused : List Str := ["_law_ask", "e"]
theorem scRefused : FnScope nRefused ["_law_ask"] (defScope sRefused) := ⟨rfl, rfl, rfl, by decide +kernel, rfl, by decide +kernel, by decide +kernel⟩
theorem refused_gives {X : Cx} {g C0 CR CW : Addr} {cdg : Value} {q : Str} (R : RefC X.K X.mg C0 CR CW) : LamX.GivesTo X nRefused "_law_refused" (defScope sRefused) g cdg (defBody sRefused) "_law_ask" q (TRef CR) := by
  intro f c' s H Q tl act hc h
  have nd := scRefused.nd
  refine ⟨_, pss_cons (ps_try_cls (tb := fun W D σ H => ∃ Ech : XK, (∀ cls d σ' H', Ech cls d H' → W cls d σ' H') ∧ σ[0]? = some (some (.ref f)) ∧ H c' = some (LamX.CodeO c' q) ∧ tl Ech H fun _ H' => D.nx σ H') (Wo := fun _ _ _ _ => False)
      (l := [⟨.ref CR, some 1, fun a cls d D σ H => (cls = .ref CR ∧ d = none) ∧ (σ.length = 2 → tRet (tAndV (tCB (rIsE X.K CR a) (tCons (tVar 1) (tCons (tC (.ty "ValueError")) tNil))) (tNotV (tCB (rIsE X.K CR a) (tCons (tVar 1) (tCons (tC (.ref CW)) tNil))))) D σ H)⟩, ⟨.ref C0, none, fun a cls d D σ H => tRet (tC (.bl false)) D σ H⟩])
      rfl rfl nd takes0 (fun W pn xe tk _ => ?_)
      (ClsOk.named rfl rfl ⟨rfl, by decide, .inl R.gR⟩ (fun a oe cls d pn hz hf => pss_if fun ⟨e1, e2⟩ => by
        subst e1 e2
        exact pss_one (ps_ret (pe_and (pe_callB (call_isE R.ex hz hf) (by rfl) R.mI (by decide +kernel) (pa_cons (pv 1) (pa_cons (pe_bltn (v := .ty "ValueError") (by rfl) R.gV (by decide +kernel) rfl) pa_nil))) <| pe_one <|
          pe_not (pe_callB (call_isE R.ex hz hf) (by rfl) R.mI (by decide +kernel) (pa_cons (pv 1) (pa_cons (pe_glob (v := .ref CW) (by rfl) R.gW rfl) pa_nil)))))) <|
       ClsOk.bare ⟨rfl, by decide, .inl R.g0⟩ (fun a oe cls d pn hz hf => pss_one (ps_ret pe_bl)) .nil)) <|
    pss_one (ps_ret pe_bl), ?_⟩
  · refine ⟨fun pins s' σ H' D I h' => ?_⟩
    obtain ⟨Ech, hW, h1, h2, h3⟩ := h'
    exact (pss_one (ps_expr (act W pn xe Ech _ _ tk hW))).run pins s' σ H' D I ⟨h1, h2, h3⟩
  · refine ⟨fun cls d H' => cls = .ref CR ∧ d = none ∧ Q (.bl true) H', fun cls d σ' H' he => ?_, rfl, hc, ?_⟩
    · obtain ⟨rfl, rfl, hq⟩ := he
      refine ⟨true, R.eR, fun _ a ha => ⟨⟨rfl, rfl⟩, fun hl => ?_⟩, fun z => by cases z⟩
      match σ', hl with
      | [x, y], _ =>
        refine ⟨_, rfl, .ty "ValueError", .type "ValueError", true, rfl, (fun u hu => hu), R.kV, true, rfl, iteT ?_⟩
        exact ⟨_, rfl, .ref CW, .ref CW, false, rfl, (fun u hu => hu), R.kW, false, rfl, hq⟩
    · exact h
end Lag

set_option maxRecDepth 100000
set_option maxHeartbeats 8000000
namespace Lag
open PySem PySem.Spec PyProof.Rows L2
abbrev sRight : Stmt := topS 57 -- @_law_right
/-! ### from heap to heap: all but the well and the tables of code objects stand as they stood -/
abbrev ExN := LamX.ExtN
def DrN (wl : Addr) (H H' : Hp) : Prop := ∀ b o, b ≠ wl → H b = some o → (∀ ps, o ≠ .tbl ps) → H' b = some o
structure Go (wl : Addr) (T : List (Addr × Str)) (H H' : Hp) : Prop where
  d : DrN wl H H'
  w : WellAt wl H'
  t : LamX.Tabs T H'
theorem Tabs.but {T : List (Addr × Str)} {wl : Addr} {H H' : Hp} (t : LamX.Tabs T H) (W : WellAt wl H) (d : But wl H H') : LamX.Tabs T H' := fun p hp => by
  have k : ∀ b o, H b = some o → (∀ xs, o ≠ .lst xs) → H' b = some o := fun b o h n => d b o (fun z => by
    obtain ⟨x, y, u, e⟩ := W
    rw [z, e] at h
    exact n _ (Option.some.inj h).symm) h
  obtain ⟨ps, h1, h2, h3⟩ := t p hp
  refine ⟨ps, k _ _ h1 (fun xs z => by cases z), h2, fun pos cv hc => ?_⟩
  obtain ⟨c, e1, e2⟩ := h3 pos cv hc
  exact ⟨c, e1, k _ _ e2 (fun xs z => by unfold LamX.CodeO at z; cases z)⟩
theorem Go.refl {wl : Addr} {T : List (Addr × Str)} {H : Hp} (w : WellAt wl H) (t : LamX.Tabs T H) : Go wl T H H := ⟨fun _ _ _ h _ => h, w, t⟩
theorem Go.trans {wl : Addr} {T : List (Addr × Str)} {H H1 H2 : Hp} (a : Go wl T H H1) (b : Go wl T H1 H2) : Go wl T H H2 := ⟨fun c o n h z => b.d c o n (a.d c o n h z) z, b.w, b.t⟩
theorem Go.dr {wl : Addr} {T : List (Addr × Str)} {H H1 H2 : Hp} (g : Go wl T H H1) (d : Dr wl H1 H2) : Go wl T H1 H2 := ⟨fun c o n h _ => d.but c o n h, d.well, Tabs.but g.t g.w d.but⟩
theorem Go.same {wl : Addr} {T : List (Addr × Str)} {H H1 H2 : Hp} (g : Go wl T H H1) (s : Same H1 H2) : Go wl T H1 H2 := ⟨fun c o n h _ => s c o h, g.w.same s, g.t.ext s⟩
theorem Go.ext {wl : Addr} {T : List (Addr × Str)} {H H1 H2 : Hp} (g : Go wl T H H1) (s : ExN H1 H2) (t : LamX.Tabs T H2) : Go wl T H1 H2 := ⟨fun c o n h z => s c o h z, by
  obtain ⟨x, y, u, e⟩ := g.w
  exact ⟨x, y, u, s _ _ e (fun ps z => by cases z)⟩, t⟩
theorem TK.go {wl : Addr} {T : List (Addr × Str)} {H H' : Hp} (W : WellAt wl H) (g : Go wl T H H') : TK H H' := fun a o t h => g.d a o (fun z => by
  obtain ⟨x, y, u, e⟩ := W
  rw [z, e] at h
  cases h
  cases t) h fun ps z => by
    subst z
    exact t
theorem XM.go {K : PySem.W.Frag} {wl : Addr} {T : List (Addr × Str)} {H H' : Hp} (W : WellAt wl H) (g : Go wl T H H') : XM K (· ≠ wl) (· ≠ wl) H H' := ⟨fun a xs n h => ⟨g.d _ _ n h (fun ps z => by cases z), n⟩, fun a xs h => (TK.go W g).seq h, fun a h => g.d _ _ (fun z => by
  obtain ⟨x, y, u, e⟩ := W
  rw [z, e] at h
  cases h) h (fun ps z => by cases z)⟩
def RowT (wl : Addr) (H : Hp) (v : V) (rs : List Int) : Prop := ∃ a, v = .ref a ∧ a ≠ wl ∧ H a = some (.lst (rs.map V.int))
theorem RowT.rv {K : PySem.W.Frag} {wl : Addr} {H : Hp} {v : V} {rs : List Int} (h : RowT wl H v rs) : RowV K H v rs := by
  obtain ⟨a, e, n, ha⟩ := h
  exact ⟨a, e, SqL.of ha⟩
theorem LL.rows {wl l : Addr} {H0 H : Hp} {xss : List (List Int)} {as : List Addr} (h : LL H0 H l xss as) (W : WellAt wl H0) : All2 (RowT wl H) (as.map V.ref) xss := by
  refine ⟨by rw [List.length_map]; exact h.al.1, fun i v xs hv hx => ?_⟩
  rw [List.getElem?_map] at hv
  cases e : as[i]? with
  | none =>
    rw [e] at hv
    cases hv
  | some a =>
    rw [e] at hv
    cases hv
    exact ⟨a, rfl, (W.ne (h.new a (List.mem_of_getElem? e))).symm, h.al.2 i a xs e hx⟩
/-- the net, its wires as they were handed in, the rows -/
structure Fz (K : PySem.W.Frag) (C wl : Addr) (T : List (Addr × Str)) (gs : List Gt) (ws : List Wr) (p lg lw lr : Addr) (vs : List V) (rss : List (List Int)) (H : Hp) : Prop where
  n : ∃ ng nw, NetAt K C H p ng nw gs ws ∧ ng ≠ wl ∧ nw ≠ wl
  np : p ≠ wl
  w : LW K H lw ws
  nw : lw ≠ wl
  g : LG K H lg gs
  nlg : lg ≠ wl
  r : H lr = some (.lst vs)
  nr : lr ≠ wl
  ra : All2 (RowT wl H) vs rss
theorem RowT.go {wl : Addr} {T : List (Addr × Str)} {H H' : Hp} {v : V} {rs : List Int} (h : RowT wl H v rs) (g : Go wl T H H') : RowT wl H' v rs := by
  obtain ⟨a, e, n, ha⟩ := h
  exact ⟨a, e, n, g.d _ _ n ha (fun ps z => by cases z)⟩
theorem LW.go {K : PySem.W.Frag} {wl l : Addr} {T : List (Addr × Str)} {H H' : Hp} {ws : List Wr} (h : LW K H l ws) (n : l ≠ wl) (W : WellAt wl H) (g : Go wl T H H') : LW K H' l ws := by
  obtain ⟨vs, q, a⟩ := h
  exact ⟨vs, g.d _ _ n q (fun ps z => by cases z), a.imp fun _ _ r => r.tk (TK.go W g)⟩
theorem LG.go {K : PySem.W.Frag} {wl l : Addr} {T : List (Addr × Str)} {H H' : Hp} {gs : List Gt} (h : LG K H l gs) (n : l ≠ wl) (W : WellAt wl H) (g : Go wl T H H') : LG K H' l gs := by
  obtain ⟨vs, q, a⟩ := h
  exact ⟨vs, g.d _ _ n q (fun ps z => by cases z), a.imp fun _ _ r => r.tk (TK.go W g)⟩
theorem NetAt.go {K : PySem.W.Frag} {C wl p ng nw : Addr} {T : List (Addr × Str)} {H H' : Hp} {gs : List Gt} {ws : List Wr} (n : NetAt K C H p ng nw gs ws) (np : p ≠ wl) (n1 : ng ≠ wl) (n2 : nw ≠ wl) (W : WellAt wl H) (g : Go wl T H H') : NetAt K C H' p ng nw gs ws := by
  obtain ⟨dx, h⟩ := n.ob
  exact ⟨⟨dx, g.d _ _ np h (fun ps z => by cases z)⟩, n.g.go n1 W g, n.w.go n2 W g, n.ne⟩
theorem Fz.go {K : PySem.W.Frag} {C wl : Addr} {T : List (Addr × Str)} {gs : List Gt} {ws : List Wr} {p lg lw lr : Addr} {vs : List V} {rss : List (List Int)} {H H' : Hp} (f : Fz K C wl T gs ws p lg lw lr vs rss H) (W : WellAt wl H) (g : Go wl T H H') : Fz K C wl T gs ws p lg lw lr vs rss H' := by
  obtain ⟨ng, nw, na, n1, n2⟩ := f.n
  exact ⟨⟨ng, nw, na.go f.np n1 n2 W g, n1, n2⟩, f.np, f.w.go f.nw W g, f.nw, f.g.go f.nlg W g, f.nlg, g.d _ _ f.nr f.r (fun ps z => by cases z), f.nr, f.ra.imp fun _ _ r => r.go g⟩
theorem run_wok {gs : List Gt} : ∀ {rss : List (List Int)} {ws we : List Wr} {tss : List (List Int)}, Run gs ws rss tss we → ∀ ts ∈ tss, WOk1 ts
  | [], _, _, _, h, ts, ht => by rw [h.1] at ht; simp at ht
  | r :: rss, _, _, _, h, ts, ht => by
    obtain ⟨t, tl, h1, _, h3, h4⟩ := h
    rw [h1] at ht
    rcases List.mem_cons.mp ht with e | e
    · rw [e]
      exact h3
    · exact run_wok h4 ts e
/-- the worths and the outs as data -/
def befD (gs : List Gt) (ts : List Int) (tss : List (List Int)) : PyData := .tuple [numsD ts, rowsD (tss.map (outsOf gs))]
theorem nums_tx0 {ts : List Int} (h : WOk1 ts) (hl : ts.length ≤ 20) : Tx 1 20 (numsD ts) := Tx.list (n := 20) (b := 0) (k := 0) (by rw [List.length_map]; exact hl) (nums_tx h)
theorem bef_tx {gs : List Gt} {ts : List Int} {tss : List (List Int)} (hg : gs.length ≤ 20) (h : WOk1 ts) (hl : ts.length ≤ 20) (h2 : ∀ t ∈ tss, WOk1 t) (hl2 : tss.length ≤ 20) : Tx 3 1000 (befD gs ts tss) := by
  refine (Tx.tuple (n := 2) (b := 20 * 21) (k := 2) (Nat.le_refl _) fun e he => ?_).mono (by decide) (by decide)
  simp only [List.mem_cons, List.not_mem_nil, or_false] at he
  rcases he with rfl | rfl
  · exact (nums_tx0 h hl).mono (by decide) (by decide)
  · refine Tx.list (n := 20) (b := 20) (k := 1) (by rw [List.length_map, List.length_map]; exact hl2) fun e he => ?_
    obtain ⟨o, ho, rfl⟩ := List.mem_map.mp he
    obtain ⟨t, ht, rfl⟩ := List.mem_map.mp ho
    refine nums_tx0 (fun y hy => ?_) ?_
    · unfold outsOf at hy
      obtain ⟨g, _, rfl⟩ := List.mem_map.mp hy
      exact wok_getD (h2 t ht) g
    · unfold outsOf
      rw [List.length_map]
      have := plc_len gs "out" gs.length
      omega
theorem bef_dx {K : PySem.W.Frag} {H H0 : Hp} {gs : List Gt} {ts : List Int} {tss : List (List Int)} {l lo t : Addr} {as : List Addr} (h1 : H l = some (.lst (ts.map V.int))) (h2 : LL H0 H lo (tss.map (outsOf gs)) as) (h3 : H t = some (.tup [.ref l, .ref lo])) : Dx K Any H (.ref t) (befD gs ts tss) := by
  refine .tup (SqT.of h3) (.cons (.lst h1 trivial (dxs_ints ts)) (.cons (.lst h2.at_ trivial (DxAll.from2 ⟨?_, fun i v d hv hd => ?_⟩)) .nil))
  · rw [List.length_map, List.length_map]
    exact h2.al.1
  · rw [List.getElem?_map] at hv hd
    cases e : as[i]? with
    | none =>
      rw [e] at hv
      cases hv
    | some a =>
      rw [e] at hv
      cases hv
      cases e2 : (tss.map (outsOf gs))[i]? with
      | none =>
        rw [e2] at hd
        cases hd
      | some o =>
        rw [e2] at hd
        cases hd
        exact .lst (h2.al.2 i a o e e2) trivial (dxs_ints o)
end Lag

set_option maxRecDepth 100000
set_option maxHeartbeats 8000000
namespace Lag
open PySem PySem.Spec PyProof.Rows L2
theorem reps (n : Nat) : (List.replicate n [V.int 96]).flatten = (List.replicate n (96 : Int)).map V.int := by
  induction n with
  | zero => rfl
  | succ n ih =>
    rw [List.replicate_succ, List.replicate_succ, List.flatten_cons, ih, List.map_cons]
    rfl
/-- what is no list of rows -/
inductive OddT (K : PySem.W.Frag) (wl : Addr) (H : Hp) : V → Prop
  | odd {v : V} {d : PyData} (h : Dx K (· ≠ wl) H v d) (n : dL d = false) : OddT K wl H v
  | lst {a : Addr} {z : Int} {zs : List Int} (h : H a = some (.lst ((z :: zs).map V.int))) (n : a ≠ wl) (l : zs.length ≤ 30) : OddT K wl H (.ref a)
theorem OddT.go {K : PySem.W.Frag} {wl : Addr} {T : List (Addr × Str)} {H H' : Hp} {v : V} (h : OddT K wl H v) (W : WellAt wl H) (g : Go wl T H H') : OddT K wl H' v := by
  cases h with
  | odd h n => exact .odd (Dx.move (.go W g) _ h) n
  | lst h n l => exact .lst (g.d _ _ n h fun ps z => by cases z) n l
theorem OddT.same {K : PySem.W.Frag} {wl : Addr} {H H' : Hp} {v : V} (h : OddT K wl H v) (s : Same H H') : OddT K wl H' v := by
  cases h with
  | odd h n => exact .odd (h.same s) n
  | lst h n l => exact .lst (s _ _ h) n l
theorem OddT.run {K : PySem.W.Frag} {wl : Addr} {H : Hp} {v : V} (h : OddT K wl H v) (gs : List Gt) : (∃ d, Dx K Any H v d ∧ dL d = false) ∨ ∃ (lr : Addr) (xs : List V) (rss : List (List Int)) (n : Nat) (u : V) (d : PyData), v = .ref lr ∧ H lr = some (.lst xs) ∧ xs.length ≤ 1000 ∧ All2 (RowV K H) (xs.take n) rss ∧ (∀ rs ∈ rss, RowOk gs rs) ∧ xs[n]? = some u ∧ Dx K Any H u d ∧ rowD (plc gs "in" gs.length).length d = false := by
  cases h with
  | odd h n => exact .inl ⟨_, h.any, n⟩
  | @lst a z zs h n l => exact .inr ⟨a, _, [], 0, .int z, .int z, rfl, h, (by rw [List.length_map, List.length_cons]; omega), All2.nil, (fun r hr => by cases hr), rfl, .int z, rfl⟩
theorem rows_dx {K : PySem.W.Frag} {wl : Addr} {H : Hp} {vs : List V} {rows : List (List Int)} (h : All2 (RowT wl H) vs rows) : DxAll K (· ≠ wl) H vs (rows.map numsD) := by
  refine DxAll.from2 ⟨by rw [List.length_map]; exact h.1, fun i v d hv hd => ?_⟩
  rw [List.getElem?_map] at hd
  cases e : rows[i]? with
  | none =>
    rw [e] at hd
    cases hd
  | some r =>
    rw [e] at hd
    cases hd
    obtain ⟨a, rfl, n, ha⟩ := h.2 i v r hv e
    exact .lst ha n (dxs_ints r)
/-- the name of the lambdas -/
def qLam : Str := ("_law_right" : Str) ++ ".<locals>." ++ "<lambda>"
abbrev TT (Pt : Addr) : List (Addr × Str) := [(Pt, qLam)]
def spRightT (Pt : Addr) : Sp := fun vs H Q _ => ∃ wl : Addr, vs = [.ref wl] ∧ WellAt wl H ∧ LamX.Tabs (TT Pt) H ∧ ∀ H', Go wl (TT Pt) H H' → Q (.bl true) H'
section
variable {P : Program} {w : World} {K : PySem.W.Frag} {mg : Str → Option Value} {base : Heap}
abbrev nRight : List Str := ["_law_well_here", "_law_gates", "_law_wires", "_law_rows_here", "_law_row", "_law_kept", "_law_before", "_law_at", "_law_bad_here", "_law_net", "_law_odd", "_law_some"]
theorem scRight : FnScope nRight ["_law_well_here"] (defScope sRight) := ⟨rfl, rfl, rfl, by decide +kernel, rfl, by decide +kernel, by decide +kernel⟩
theorem ok_right {f C C0 CR CW c Pt fD fO fP fB fRo fW fBe fR fF fI fE fOu fN : Addr} {fdD fdO fdP fdB fdRo fdW fdBe fdR fdI fdE fdOu fdN : FuncData} {oc kV doc pm ct : Value} {od an : Option Addr} {osl : Array (Option Value)} {ocF kVF docF pmF cdvF ctF : Value} {odF anF : Option Addr} {oslF : Array (Option Value)}
    (lk : K.lookup f = some ⟨oc, od, .func (PySem.W.fnOf "_law_right" "_law_right" (defArgs sRight) (defBody sRight) (defScope sRight) .none kV doc pm an (.ref c) ct), osl⟩) (hcd : PySem.W.codeIn K (.ref c) "_law_right" = true) (TB : LamX.TabB base mg c Pt)
    (lkF : K.lookup fF = some ⟨ocF, odF, .func (PySem.W.fnOf "_law_refused" "_law_refused" (defArgs sRefused) (defBody sRefused) (defScope sRefused) .none kVF docF pmF anF cdvF ctF), oslF⟩) (cdF : PySem.W.codeIn K cdvF "_law_refused" = true) (mF : mg "_law_refused" = some (.ref fF)) (kF : PySem.W.keepIn K (.ref fF) = true) (bF : Binds K (PySem.W.fnOf "_law_refused" "_law_refused" (defArgs sRefused) (defBody sRefused) (defScope sRefused) .none kVF docF pmF anF cdvF ctF) ["_law_ask"] []) (R : RefC K mg C0 CR CW)
    (B : Bt mg) (mR : mg "repr" = none) (Z : NC P w K mg base C fI fE fOu fdI fdE fdOu) (ins : FnOk P w K mg base CX0 2 fN fdN ["self"] (spPorts K C "in")) (mN : Meth K C "ins" fN) (bN : Binds K fdN ["self"] [])
    (DD : DDraw P w K mg base fD fdD) (DO : DOne P w K mg base fO fdO) (DPa : DParts P w K mg base fP fdP) (DBa : DBad P w K mg base fB fdB) (DRo : DRows P w K mg base fRo fdRo) (DWo : DWorths P w K mg base C fW fdW) (DBe : DBeat P w K mg base C fBe fdBe) (DRu : DRun P w K mg base C fR fdR)
    (DWX : FnOk P w K mg base (L2.CX P w) 5 fW fdW ["net", "row"] (spRowX K C CR)) (DBX : FnOk P w K mg base (L2.CX P w) 9 fBe fdBe ["net", "row"] (spRowX K C CR)) (DRX : FnOk P w K mg base (L2.CX P w) 10 fR fdR ["net", "rows"] (spRunX K C CR)) :
    FnG P w K mg base CX0 13 f (PySem.W.fnOf "_law_right" "_law_right" (defArgs sRight) (defBody sRight) (defScope sRight) .none kV doc pm an (.ref c) ct) ["_law_well_here"] (spRightT Pt) := by
  refine fnG_of lk hcd scRight (fun vs H Q E h => ?_) (fun A outer s H vs Q E gd0 hr h => ?_)
  · obtain ⟨wl, rfl, _⟩ := h
    rfl
  · obtain ⟨wl, rfl, hw, hT, q⟩ := h
    suffices hh : ∃ t, PSs (cxOf CX0 P w K mg base nRight "_law_right" (defScope sRight) f (.ref c) A outer s H E).nox (defBody sRight) t ∧ t { nx := fun _ H' => Q .non H', rt := Q } (L2.start nRight [.ref wl]) H by
      obtain ⟨t, h, q⟩ := hh
      exact ⟨t, h.nox, q⟩
    have nd := scRight.nd
    have gd : (A.deeper (envOfC "_law_right" (defScope sRight) s.heap.objs.size f (.ref c))).guards = some [] := gd0
    have hu : (A.deeper (envOfC "_law_right" (defScope sRight) s.heap.objs.size f (.ref c))).units + 65 < cLine := by have := hr.un; omega
    have hq : ∀ p ∈ TT Pt, p.1 = Pt → p.2 = qLam := fun p hp _ => by rw [List.mem_singleton.mp hp]
    refine ⟨_, pss_cons (ps_asg (pe_call DPa.ok (hr.mono (by decide)) (by rfl) DPa.mg DPa.kp DPa.bd .nil pass0 (pa_cons (pv 0) (pa_cons pe_int pa_nil))) (pg_tup rfl (pgs_cons (pg_name (i := 1) nd rfl (.inl rfl)) (pgs_cons (pg_name (i := 2) nd rfl (.inl rfl)) pgs_nil)))) <|
        pss_cons (ps_set (i := 9) nd rfl (.inr rfl) (pe_make Z.mk0 Z.init (hr.mono (by decide)) (by rfl) Z.T.mg Z.bI .nil pass0 (pa_cons (pv 1) (pa_cons (pv 2) pa_nil)))) <|
        pss_cons (ps_set (i := 3) nd rfl (.inl rfl) (pe_op op_cat (pe_call DRo.ok (hr.mono (by decide)) (by rfl) DRo.mg DRo.kp DRo.bd .nil pass0 (pa_cons (pv 0) (pa_cons (pv 1) (pa_cons pe_int pa_nil)))) (pe_lst (pa_cons (pe_op op_rep (pe_lst (pa_cons pe_int pa_nil)) (pe_callB call_len_seq (by rfl) B.len PySem.boot_len (pa_cons (pe_meth0 (pv 9) Z.T.cl mN ins (hr.mono (by decide)) bN .nil pass0) pa_nil))) pa_nil)))) <|
        pss_cons (ps_set (i := 4) nd rfl (.inl rfl) (pe_ix ix_list (pv 3) pe_int (fun _ _ => rfl))) <|
        pss_cons (ps_set (i := 8) nd rfl (.inr rfl) (pe_call DBa.ok (hr.mono (by decide)) (by rfl) DBa.mg DBa.kp DBa.bd .nil pass0 (pa_cons (pv 0) (pa_cons (pv 4) pa_nil)))) <|
        pss_cons (ps_set (i := 5) nd rfl (.inl rfl) (pe_callB (call_reprX gd hu) (by rfl) mR (by decide +kernel) (pa_cons (pv 8) pa_nil))) <|
        pss_cons (ps_set (i := 6) nd rfl (.inl rfl) (pe_callB (call_reprX gd hu) (by rfl) mR (by decide +kernel) (pa_cons (pe_tup (pa_cons (pe_call DWo.ok (hr.mono (by decide)) (by rfl) DWo.mg DWo.kp DWo.bd .nil pass0 (pa_cons (pv 9) (pa_cons (pv 4) pa_nil))) (pa_cons (pe_ix ix_tup (pe_call DRu.ok (hr.mono (by decide)) (by rfl) DRu.mg DRu.kp DRu.bd .nil pass0 (pa_cons (pv 9) (pa_cons (pv 3) pa_nil))) pe_int (fun _ _ => rfl)) pa_nil))) pa_nil))) <|
        pss_cons (ps_if (pt_not (pt_val (LamX.pe_lamcall (T := TT Pt) (TT := TRef CR) (k := 10) (t := fun E => tCallS (spRowX K C CR) (fun _ => E) (tCons (tVar 9) (tCons (tVar 8) tNil))) (by rfl) mF kF lkF cdF bF scRefused rfl (.inl rfl) (refused_gives R) TB rfl (List.mem_singleton.mpr rfl) hq (hr.mono (by decide)) (LamX.lamS_by (sc := defScope sRight) (by decide +kernel)) rfl (fun _ _ _ _ _ => rfl) (fun A outer s H E f c' hr' => pe_callS DWX (hr'.mono (by decide)) (by rfl) DWo.mg DWo.kp DWo.bd (fun σ => passAt (W := fun cls d _ H => E cls d H) (takes_of rfl rfl rfl rfl) σ) (pa_cons (pv 9) (pa_cons (pv 8) pa_nil)))))) (pss_one (ps_ret pe_bl)) pss_nil) <|
        pss_cons (ps_if (pt_not (pt_val (LamX.pe_lamcall (T := TT Pt) (TT := TRef CR) (k := 10) (t := fun E => tCallS (spRowX K C CR) (fun _ => E) (tCons (tVar 9) (tCons (tVar 8) tNil))) (by rfl) mF kF lkF cdF bF scRefused rfl (.inl rfl) (refused_gives R) TB rfl (List.mem_singleton.mpr rfl) hq (hr.mono (by decide)) (LamX.lamS_by (sc := defScope sRight) (by decide +kernel)) rfl (fun _ _ _ _ _ => rfl) (fun A outer s H E f c' hr' => pe_callS DBX (hr'.mono (by decide)) (by rfl) DBe.mg DBe.kp DBe.bd (fun σ => passAt (W := fun cls d _ H => E cls d H) (takes_of rfl rfl rfl rfl) σ) (pa_cons (pv 9) (pa_cons (pv 8) pa_nil)))))) (pss_one (ps_ret pe_bl)) pss_nil) <|
        pss_cons (ps_set (i := 7) nd rfl (.inl rfl) (pe_call DD.ok (hr.mono (by decide)) (by rfl) DD.mg DD.kp DD.bd .nil pass0 (pa_cons (pv 0) (pa_cons (pe_op op_add (pe_callB call_len_seq (by rfl) B.len PySem.boot_len (pa_cons (pv 3) pa_nil)) pe_int) pa_nil)))) <|
        pss_cons (ps_set (i := 11) nd rfl (.inr rfl) (pe_op op_cat (pe_op op_cat (pe_slice sl_list (pv 3) po_none (po_some (pv 7))) (pe_lst (pa_cons (pv 8) pa_nil))) (pe_slice sl_list (pv 3) (po_some (pv 7)) po_none))) <|
        pss_cons (ps_set (i := 10) nd rfl (.inr rfl) (pe_call DO.ok (hr.mono (by decide)) (by rfl) DO.mg DO.kp DO.bd .nil pass0 (pa_cons (pv 0) (pa_cons (pe_lst (pa_cons pe_non (pa_cons (pe_callTy call_tuple_of (by rfl) B.tuple (by decide +kernel) (pa_cons (pv 3) pa_nil)) (pa_cons pe_str (pa_cons pe_int (pa_cons pe_dnewK (pa_cons (pe_op op_cat (pv 4) (pe_lst (pa_cons pe_int pa_nil))) pa_nil))))))) pa_nil)))) <|
        pss_cons (ps_if (pt_not (pt_val (LamX.pe_lamcall (T := TT Pt) (TT := TRef CR) (k := 10) (t := fun E => tCallS (spRunX K C CR) (fun _ => E) (tCons (tVar 9) (tCons (tVar 11) tNil))) (by rfl) mF kF lkF cdF bF scRefused rfl (.inl rfl) (refused_gives R) TB rfl (List.mem_singleton.mpr rfl) hq (hr.mono (by decide)) (LamX.lamS_by (sc := defScope sRight) (by decide +kernel)) rfl (fun _ _ _ _ _ => rfl) (fun A outer s H E f c' hr' => pe_callS DRX (hr'.mono (by decide)) (by rfl) DRu.mg DRu.kp DRu.bd (fun σ => passAt (W := fun cls d _ H => E cls d H) (takes_of rfl rfl rfl rfl) σ) (pa_cons (pv 9) (pa_cons (pv 11) pa_nil)))))) (pss_one (ps_ret pe_bl)) pss_nil) <|
        pss_cons (ps_if (pt_not (pt_val (LamX.pe_lamcall (T := TT Pt) (TT := TRef CR) (k := 10) (t := fun E => tCallS (spRunX K C CR) (fun _ => E) (tCons (tVar 9) (tCons (tVar 10) tNil))) (by rfl) mF kF lkF cdF bF scRefused rfl (.inl rfl) (refused_gives R) TB rfl (List.mem_singleton.mpr rfl) hq (hr.mono (by decide)) (LamX.lamS_by (sc := defScope sRight) (by decide +kernel)) rfl (fun _ _ _ _ _ => rfl) (fun A outer s H E f c' hr' => pe_callS DRX (hr'.mono (by decide)) (by rfl) DRu.mg DRu.kp DRu.bd (fun σ => passAt (W := fun cls d _ H => E cls d H) (takes_of rfl rfl rfl rfl) σ) (pa_cons (pv 9) (pa_cons (pv 10) pa_nil)))))) (pss_one (ps_ret pe_bl)) pss_nil) <|
        pss_one (ps_ret (pe_and (pe_cmpR op_eq (pe_callB (call_reprX gd hu) (by rfl) mR (by decide +kernel) (pa_cons (pv 8) pa_nil)) (pv 5) (nomark _)) (pe_and (pe_cmpR op_eq (pv 6) (pe_callB (call_reprX gd hu) (by rfl) mR (by decide +kernel) (pa_cons (pe_tup (pa_cons (pe_call DWo.ok (hr.mono (by decide)) (by rfl) DWo.mg DWo.kp DWo.bd .nil pass0 (pa_cons (pv 9) (pa_cons (pv 4) pa_nil))) (pa_cons (pe_ix ix_tup (pe_call DRu.ok (hr.mono (by decide)) (by rfl) DRu.mg DRu.kp DRu.bd .nil pass0 (pa_cons (pv 9) (pa_cons (pv 3) pa_nil))) pe_int (fun _ _ => rfl)) pa_nil))) pa_nil)) (nomark _)) (pe_one (pe_cmpR (op_eqD hr.units) (pe_fld (pv 9) rfl) (pv 2) (nomark _)))))), ?_⟩
    have g0 : Go wl (TT Pt) H H := Go.refl hw hT
    -- parts, net
    refine ⟨_, rfl, wl, 7, rfl, by decide, by decide, hw, fun gs ws lg lw p0 H1 N hgl hwr hwl D1 hlg hlw nlw G1 W1 hp0 => ?_⟩
    have g1 := g0.dr D1
    have nlg : lg ≠ wl := (hw.ne hlg).symm
    have nlww : lw ≠ wl := (hw.ne hlw).symm
    refine ⟨p0, _, rfl, .inl (.inl hp0), rfl, _, _, rfl, _, _, rfl, rfl, ?_⟩
    refine gn_norm (σ' := [some (.ref wl), some (.ref lg), some (.ref lw), none, none, none, none, none, none, none, none, none]) rfl ?_
    refine ⟨_, rfl, _, rfl, ?_⟩
    refine net_in G1.rg W1.rw N fun p ng nw H2 NA2 s2 hp hng hnw => ?_
    have g2 := g1.same s2
    have np : p ≠ wl := (g1.w.ne hp).symm
    have nng : ng ≠ wl := (g1.w.ne hng).symm
    have nnw : nw ≠ wl := (g1.w.ne hnw).symm
    have G2 := G1.go nlg g1.w g2
    have W2 := W1.go nlww g1.w g2
    refine gn_norm (σ' := [some (.ref wl), some (.ref lg), some (.ref lw), none, none, none, none, none, none, some (.ref p), none, none]) rfl ?_
    -- rows
    refine ⟨_, rfl, _, rfl, wl, lg, 4, gs, rfl, g2.w, nlg, G2, by omega, by decide, fun rss l3 H3 as D3 hok hrl ll => ?_⟩
    have g3 := g2.dr D3
    have ra3 := ll.rows g2.w
    have el3 := ll.at_
    have nl3 : l3 ≠ wl := (g2.w.ne ll.ln).symm
    have NA3 := NA2.go np nng nnw g2.w g3
    have G3 := G2.go nlg g2.w g3
    have W3 := W2.go nlww g2.w g3
    refine ⟨(by show 1 ≤ sizeLine; decide), fun c4 hc4 => ?_⟩
    have s4 : Same H3 (upd H3 c4 (.lst [.int 96])) := same_new hc4
    have e4 : (upd H3 c4 (.lst [.int 96])) c4 = some (.lst [.int 96]) := upd_same
    generalize upd H3 c4 (.lst [.int 96]) = H4 at s4 e4
    have g4 := g3.same s4
    have NA4 := NA3.go np nng nnw g3.w g4
    obtain ⟨dx, ob⟩ := id NA4.ob
    have hpl := plc_len gs "in" gs.length
    refine ⟨_, rfl, p, dx, _, rfl, ob, nf_no _ _ (by decide +kernel) (by decide +kernel), p, ng, nw, gs, ws, rfl, NA4, by omega, fun l5 H5 hl5 s5 el5 => ?_⟩
    have g5 := g4.same s5
    refine ⟨l5, _, rfl, .inl (SqL.of el5), c4, _, _, rfl, rfl, s5 _ _ e4, by omega, by rw [List.length_map]; omega, ?_, fun c6 hc6 => ?_⟩
    · rw [List.length_map, Int.toNat_natCast]
      show 1 * _ ≤ sizeLine
      have : 1000 ≤ sizeLine := by decide
      omega
    rw [List.length_map, Int.toNat_natCast, reps]
    have s6 : Same H5 (upd H5 c6 (.lst ((List.replicate (plc gs "in" gs.length).length (96 : Int)).map V.int))) := same_new hc6
    have e6 : (upd H5 c6 (.lst ((List.replicate (plc gs "in" gs.length).length (96 : Int)).map V.int))) c6 = some (.lst ((List.replicate (plc gs "in" gs.length).length (96 : Int)).map V.int)) := upd_same
    generalize upd H5 c6 (.lst ((List.replicate (plc gs "in" gs.length).length (96 : Int)).map V.int)) = H6 at s6 e6
    have g6 := g5.same s6
    have n6 : c6 ≠ wl := (g5.w.ne hc6).symm
    refine ⟨(by show 1 ≤ sizeLine; decide), fun c7 hc7 => ?_⟩
    have s7 : Same H6 (upd H6 c7 (.lst [.ref c6])) := same_new hc7
    have e7 : (upd H6 c7 (.lst [.ref c6])) c7 = some (.lst [.ref c6]) := upd_same
    generalize upd H6 c7 (.lst [.ref c6]) = H7 at s7 e7
    have g7 := g6.same s7
    have s47 := ((s4.trans s5).trans s6).trans s7
    have hal : as.length = rss.length := ll.al.1
    refine ⟨l3, c7, _, _, rfl, rfl, s47 _ _ el3, e7, Nat.le_of_lt (small1000 (by rw [List.length_map, hal]; show _ + 1 ≤ _; omega)), fun c8 hc8 => ?_⟩
    have s8 : Same H7 (upd H7 c8 (.lst (as.map V.ref ++ [.ref c6]))) := same_new hc8
    have e8 : (upd H7 c8 (.lst (as.map V.ref ++ [.ref c6]))) c8 = some (.lst (as.map V.ref ++ [.ref c6])) := upd_same
    generalize upd H7 c8 (.lst (as.map V.ref ++ [.ref c6])) = H8 at s8 e8
    have g8 := g7.same s8
    have n8 : c8 ≠ wl := (g7.w.ne hc8).symm
    have s48 := s47.trans s8
    have g38 := g3.same s48
    have ra8 : All2 (RowT wl H8) (as.map V.ref ++ [.ref c6]) (rss ++ [List.replicate (plc gs "in" gs.length).length (96 : Int)]) := (ra3.imp fun _ _ r => r.go g38).append (.one ⟨c6, rfl, n6, (s7.trans s8) _ _ e6⟩)
    have hok8 : ∀ rs ∈ rss ++ [List.replicate (plc gs "in" gs.length).length (96 : Int)], RowOk gs rs := fun rs hrs => by
      rcases List.mem_append.mp hrs with hrs | hrs
      · exact hok rs hrs
      · rw [List.mem_singleton.mp hrs]
        refine ⟨List.length_replicate .., fun y hy => ?_⟩
        rw [List.eq_of_mem_replicate hy]
        decide
    have hrl8 : (rss ++ [List.replicate (plc gs "in" gs.length).length (96 : Int)]).length ≤ 5 := by
      rw [List.length_append]
      show _ + 1 ≤ _
      omega
    have hrp8 : 0 < (rss ++ [List.replicate (plc gs "in" gs.length).length (96 : Int)]).length := by
      rw [List.length_append]
      show 0 < _ + 1
      omega
    generalize as.map V.ref ++ [V.ref c6] = vs at ra8 e8
    generalize rss ++ [List.replicate (plc gs "in" gs.length).length (96 : Int)] = rows at ra8 hok8 hrl8 hrp8
    have F8 : Fz K C wl (TT Pt) gs ws p lg lw c8 vs rows H8 := ⟨⟨ng, nw, NA3.go np nng nnw g3.w g38, nng, nnw⟩, np, W3.go nlww g3.w g38, nlww, G3.go nlg g3.w g38, nlg, e8, n8, ra8⟩
    have gg8 : Go wl (TT Pt) H H8 := ((g1.trans g2).trans g3).trans g38
    clear g4 g5 g6 g7 s4 s5 s6 s7 s8 s47 s48 NA4 NA3 NA2 G1 G2 G3 W1 W2 W3 ra3 el3 el5 e4 e6 e7 e8 ob g38
    have hvl : vs.length = rows.length := ra8.1
    refine gn_norm (σ' := [some (.ref wl), some (.ref lg), some (.ref lw), some (.ref c8), none, none, none, none, none, some (.ref p), none, none]) rfl ?_
    obtain ⟨rs, hrs⟩ : ∃ rs, rows[0]? = some rs := ⟨_, List.getElem?_eq_getElem hrp8⟩
    obtain ⟨v0, hv0, lr, rfl, nlr, hlr⟩ := ra8.getR hrs
    have okr := hok8 rs (List.mem_of_getElem? hrs)
    refine ⟨_, rfl, c8, vs, 0, .ref lr, rfl, rfl, SqL.of F8.r, atI_nat (j := 0) hv0, ?_⟩
    refine gn_norm (σ' := [some (.ref wl), some (.ref lg), some (.ref lw), some (.ref c8), some (.ref lr), none, none, none, none, some (.ref p), none, none]) rfl ?_
    -- what is no row
    have hrl2 : rs.length ≤ 20 := by have := okr.1; omega
    refine ⟨_, rfl, _, rfl, wl, lr, rs, rfl, g8.w, nlr, hlr, hrl2, okr.2, fun vb H9 D9 hb => ?_⟩
    have g9 := g8.dr D9
    have F9 := F8.go g8.w g9
    have hlr9 : H9 lr = some (.lst (rs.map V.int)) := g9.d _ _ nlr hlr fun ps z => by cases z
    obtain ⟨db, hdb, bad, tdb⟩ := hb
    have bad0 : rowD (plc gs "in" gs.length).length db = false := by rw [← okr.1]; exact bad
    have gg9 := gg8.trans g9
    refine gn_norm (σ' := [some (.ref wl), some (.ref lg), some (.ref lw), some (.ref c8), some (.ref lr), none, none, none, some (vb), some (.ref p), none, none]) rfl ?_
    have tdd : db.depth < 64 := by have := tdb.dp; omega
    have tsz : db.shown.length ≤ sizeLine := tdb.fits (by decide)
    refine ⟨_, rfl, vb, db, rfl, hdb.any, tdb.sw, tdd, tsz, ?_⟩
    refine gn_norm (σ' := [some (.ref wl), some (.ref lg), some (.ref lw), some (.ref c8), some (.ref lr), some (.str db.shown), none, none, some (vb), some (.ref p), none, none]) rfl ?_
    -- before
    obtain ⟨ng9, nw9, NA9, _, _⟩ := id F9.n
    refine ⟨_, rfl, _, rfl, p, ng9, nw9, lr, gs, ws, rs, rfl, NA9, N, SqL.of hlr9, okr.1, okr.2, fun l10 H10 ts hl10 s10 isw wok10 el10 => ?_⟩
    have g10 := g9.same s10
    have F10 := F9.go g9.w g10
    have rv10 : RR K H10 c8 rows := ⟨vs, SqL.of F10.r, F10.ra.imp fun _ _ r => r.rv⟩
    refine ⟨_, rfl, _, rfl, p, ng9, nw9, c8, gs, ws, rows, rfl, NA9.same s10, N, rv10, hok8, by omega, fun t11 p' ng' nw' lo H11 tss we as2 s11 run11 NA' llo et _ _ _ => ?_⟩
    have g11 := g10.same s11
    refine ⟨t11, _, _, .ref lo, rfl, rfl, .inl (.inl et), atI_nat (j := 1) rfl, ?_⟩
    refine ⟨(by show 2 ≤ sizeLine; decide), fun c12 hc12 => ?_⟩
    have s12 : Same H11 (upd H11 c12 (.tup [.ref l10, .ref lo])) := same_new hc12
    have e12 : (upd H11 c12 (.tup [.ref l10, .ref lo])) c12 = some (.tup [.ref l10, .ref lo]) := upd_same
    generalize upd H11 c12 (.tup [.ref l10, .ref lo]) = H12 at s12 e12
    have g12 := g11.same s12
    have F12 := (F10.go g10.w g11).go g11.w g12
    have hts : ts.length ≤ 20 := by rw [isw.len]; omega
    have htl : tss.length ≤ 20 := by have := Run.len run11; omega
    have btx := bef_tx (gs := gs) (by omega) wok10 hts (run_wok run11) htl
    have bdd : (befD gs ts tss).depth < 64 := by have := btx.dp; omega
    have bsz : (befD gs ts tss).shown.length ≤ sizeLine := btx.fits (by decide)
    refine ⟨.ref c12, befD gs ts tss, rfl, bef_dx ((s11.trans s12) _ _ el10) (llo.same s12) e12, btx.sw, bdd, bsz, ?_⟩
    refine gn_norm (σ' := [some (.ref wl), some (.ref lg), some (.ref lw), some (.ref c8), some (.ref lr), some (.str db.shown), some (.str (befD gs ts tss).shown), none, some (vb), some (.ref p), none, none]) rfl ?_
    have g912 := (g10.trans g11).trans g12
    have gg12 := gg9.trans g912
    have hdb12 := Dx.move (.go g9.w g912) db hdb
    have hlr12 : H12 lr = some (.lst (rs.map V.int)) := g912.d _ _ nlr hlr9 fun ps z => by cases z
    clear g10 g11 g12 F10 F8 F9 s12 e12 s10 s11 NA9 llo et el10 rv10
    -- worths refused
    refine ⟨gg12.t, fun H13 x13 t13 => ?_⟩
    have g13 := gg12.ext x13 t13
    have F13 := F12.go gg12.w g13
    obtain ⟨ng13, nw13, NA13, _, _⟩ := id F13.n
    have hdb13 := Dx.move (.go gg12.w g13) db hdb12
    refine ⟨_, rfl, _, rfl, p, vb, rfl, ng13, nw13, gs, ws, db, NA13, by omega, hdb13.any, bad0, fun H14 s14 => ⟨rfl, rfl, ?_⟩⟩
    refine ⟨true, rfl, iteF ?_⟩
    have g14 := g13.same s14
    have F14 := F13.go g13.w g14
    have hdb14 := Dx.move (.go g13.w g14) db hdb13
    have g1214 := g13.trans g14
    have gg14 := gg12.trans g1214
    -- beat refused
    refine ⟨gg14.t, fun H15 x15 t15 => ?_⟩
    have g15 := gg14.ext x15 t15
    have F15 := F14.go gg14.w g15
    obtain ⟨ng15, nw15, NA15, _, _⟩ := id F15.n
    have hdb15 := Dx.move (.go gg14.w g15) db hdb14
    refine ⟨_, rfl, _, rfl, p, vb, rfl, ng15, nw15, gs, ws, db, NA15, by omega, hdb15.any, bad0, fun H16 s16 => ⟨rfl, rfl, ?_⟩⟩
    refine ⟨true, rfl, iteF ?_⟩
    have g16 := g15.same s16
    have F16 := F15.go g15.w g16
    have hdb16 := Dx.move (.go g15.w g16) db hdb15
    have g1216 := (g1214.trans g15).trans g16
    have gg16 := gg12.trans g1216
    have hlr16 : H16 lr = some (.lst (rs.map V.int)) := g1216.d _ _ nlr hlr12 fun ps z => by cases z
    -- rows with it among them
    refine ⟨_, rfl, _, rfl, c8, _, rfl, .inl (SqL.of F16.r), _, _, rfl, rfl, wl, _, rfl, by omega, by omega, gg16.w, fun d H17 d0 d1 D17 => ?_⟩
    obtain ⟨kN, rfl⟩ : ∃ n : Nat, d = (n : Int) := ⟨d.toNat, by omega⟩
    have hkN : kN ≤ vs.length := by omega
    have g17 := gg16.dr D17
    have gg17 := gg16.trans g17
    have F17 := F16.go gg16.w g17
    have hdb17 := Dx.move (.go gg16.w g17) db hdb16
    have hlr17 : H17 lr = some (.lst (rs.map V.int)) := g17.d _ _ nlr hlr16 fun ps z => by cases z
    refine gn_norm (σ' := [some (.ref wl), some (.ref lg), some (.ref lw), some (.ref c8), some (.ref lr), some (.str db.shown), some (.str (befD gs ts tss).shown), some (.int (kN : Nat)), some (vb), some (.ref p), none, none]) rfl ?_
    refine ⟨_, rfl, _, rfl, _, rfl, c8, _, rfl, SqL.of F17.r, fun c18 hc18 => ?_⟩
    rw [cut_to]
    have s18 : Same H17 (upd H17 c18 (.lst (vs.take kN))) := same_new hc18
    have e18 : (upd H17 c18 (.lst (vs.take kN))) c18 = some (.lst (vs.take kN)) := upd_same
    generalize upd H17 c18 (.lst (vs.take kN)) = H18 at s18 e18
    refine ⟨_, rfl, (by show 1 ≤ sizeLine; decide), fun c19 hc19 => ?_⟩
    have s19 : Same H18 (upd H18 c19 (.lst [vb])) := same_new hc19
    have e19 : (upd H18 c19 (.lst [vb])) c19 = some (.lst [vb]) := upd_same
    generalize upd H18 c19 (.lst [vb]) = H19 at s19 e19
    refine ⟨c18, c19, _, _, rfl, rfl, s19 _ _ e18, e19, Nat.le_of_lt (small1000 (by rw [List.length_take]; show _ + 1 ≤ _; omega)), fun c20 hc20 => ?_⟩
    have s20 : Same H19 (upd H19 c20 (.lst (vs.take kN ++ [vb]))) := same_new hc20
    have e20 : (upd H19 c20 (.lst (vs.take kN ++ [vb]))) c20 = some (.lst (vs.take kN ++ [vb])) := upd_same
    generalize upd H19 c20 (.lst (vs.take kN ++ [vb])) = H20 at s20 e20
    have s1720 := (s18.trans s19).trans s20
    refine ⟨_, rfl, _, rfl, _, rfl, c8, _, rfl, SqL.of (s1720 _ _ F17.r), fun c21 hc21 => ?_⟩
    rw [cut_from]
    have s21 : Same H20 (upd H20 c21 (.lst (vs.drop kN))) := same_new hc21
    have e21 : (upd H20 c21 (.lst (vs.drop kN))) c21 = some (.lst (vs.drop kN)) := upd_same
    generalize upd H20 c21 (.lst (vs.drop kN)) = H21 at s21 e21
    have s1721 := s1720.trans s21
    have g1721 := gg17.same s1721
    refine ⟨c20, c21, _, _, rfl, rfl, s21 _ _ e20, e21, Nat.le_of_lt (small1000 (by rw [List.length_append, List.length_take, List.length_drop]; show _ + 1 + _ ≤ _; omega)), fun c22 hc22 => ?_⟩
    have n22 : c22 ≠ wl := (g1721.w.ne hc22).symm
    have s22 : Same H21 (upd H21 c22 (.lst (vs.take kN ++ [vb] ++ vs.drop kN))) := same_new hc22
    have e22 : (upd H21 c22 (.lst (vs.take kN ++ [vb] ++ vs.drop kN))) c22 = some (.lst (vs.take kN ++ [vb] ++ vs.drop kN)) := upd_same
    generalize upd H21 c22 (.lst (vs.take kN ++ [vb] ++ vs.drop kN)) = H22 at s22 e22
    have s1722 := s1721.trans s22
    have g22 := gg17.same s1722
    refine gn_norm (σ' := [some (.ref wl), some (.ref lg), some (.ref lw), some (.ref c8), some (.ref lr), some (.str db.shown), some (.str (befD gs ts tss).shown), some (.int (kN : Nat)), some (vb), some (.ref p), none, some (.ref c22)]) rfl ?_
    -- what is no list of rows
    refine ⟨_, rfl, _, rfl, c8, _, rfl, .inl ⟨SqL.of (s1722 _ _ F17.r), fun c23 hc23 => ?_⟩⟩
    have s23 : Same H22 (upd H22 c23 (.tup vs)) := same_new hc23
    have e23 : (upd H22 c23 (.tup vs)) c23 = some (.tup vs) := upd_same
    generalize upd H22 c23 (.tup vs) = H23 at s23 e23
    intro c24 hc24
    have s24 : Same H23 (upd H23 c24 (.dK [])) := same_new hc24
    have e24 : (upd H23 c24 (.dK [])) c24 = some (.dK []) := upd_same
    generalize upd H23 c24 (.dK []) = H24 at s24 e24
    refine ⟨_, rfl, (by show 1 ≤ sizeLine; decide), fun c25 hc25 => ?_⟩
    have s25 : Same H24 (upd H24 c25 (.lst [.int 1])) := same_new hc25
    have e25 : (upd H24 c25 (.lst [.int 1])) c25 = some (.lst [.int 1]) := upd_same
    generalize upd H24 c25 (.lst [.int 1]) = H25 at s25 e25
    have s1725 := ((s1722.trans s23).trans s24).trans s25
    have g25 := gg17.same s1725
    refine ⟨lr, c25, _, _, rfl, rfl, s1725 _ _ hlr17, e25, Nat.le_of_lt (small1000 (by rw [List.length_map]; show _ + 1 ≤ _; omega)), fun c26 hc26 => ?_⟩
    have n26 : c26 ≠ wl := (g25.w.ne hc26).symm
    have s26 : Same H25 (upd H25 c26 (.lst (rs.map V.int ++ [.int 1]))) := same_new hc26
    have e26 : (upd H25 c26 (.lst (rs.map V.int ++ [.int 1]))) c26 = some (.lst (rs.map V.int ++ [.int 1])) := upd_same
    generalize upd H25 c26 (.lst (rs.map V.int ++ [.int 1])) = H26 at s26 e26
    have s1726 := s1725.trans s26
    have g26 := gg17.same s1726
    have F26 := F17.go gg17.w g26
    have ho : ∀ v ∈ [V.non, .ref c23, .str "rows", .int 3, .ref c24, .ref c26], OddT K wl H26 v := by
      intro v hv
      simp only [List.mem_cons, List.not_mem_nil, or_false] at hv
      rcases hv with rfl | rfl | rfl | rfl | rfl | rfl
      · exact .odd .non rfl
      · exact .odd (.tup (SqT.of (((s24.trans s25).trans s26) _ _ e23)) (rows_dx F26.ra)) rfl
      · exact .odd (.str _) rfl
      · exact .odd (.int _) rfl
      · exact .odd (.dic ((s25.trans s26) _ _ e24)) rfl
      · cases hrs0 : rs with
        | nil =>
          rw [hrs0] at e26
          exact .lst (z := 1) (zs := []) e26 n26 (Nat.zero_le _)
        | cons z zs =>
          rw [hrs0] at e26 hrl2
          refine .lst (z := z) (zs := zs ++ [1]) ?_ n26 ?_
          · rw [e26, List.map_cons, List.map_cons, List.map_append]
            rfl
          · rw [List.length_append]
            rw [List.length_cons] at hrl2
            show _ + 1 ≤ _
            omega
    refine ⟨(by show 6 ≤ sizeLine; decide), fun c27 hc27 => ?_⟩
    have n27 : c27 ≠ wl := (g26.w.ne hc27).symm
    have s27 : Same H26 (upd H26 c27 (.lst [.non, .ref c23, .str "rows", .int 3, .ref c24, .ref c26])) := same_new hc27
    have e27 : (upd H26 c27 (.lst [.non, .ref c23, .str "rows", .int 3, .ref c24, .ref c26])) c27 = some (.lst [.non, .ref c23, .str "rows", .int 3, .ref c24, .ref c26]) := upd_same
    generalize upd H26 c27 (.lst [.non, .ref c23, .str "rows", .int 3, .ref c24, .ref c26]) = H27 at s27 e27
    have g27 := g26.same s27
    refine ⟨wl, c27, _, rfl, n27, g27.w, SqL.of e27, by simp, by show 6 < 1000000; decide, fun vo H28 hvo D28 => ?_⟩
    have g28 := g27.dr D28
    have od28 := ((ho vo hvo).same s27).go g27.w g28
    have g1728 := (g26.trans g27).trans g28
    have gg28 := gg17.trans g1728
    have F28 := F17.go gg17.w g1728
    have hdb28 := Dx.move (.go gg17.w g1728) db hdb17
    have e22b : H28 c22 = some (.lst (vs.take kN ++ [vb] ++ vs.drop kN)) := D28.but _ _ n22 (((((s23.trans s24).trans s25).trans s26).trans s27) _ _ e22)
    refine gn_norm (σ' := [some (.ref wl), some (.ref lg), some (.ref lw), some (.ref c8), some (.ref lr), some (.str db.shown), some (.str (befD gs ts tss).shown), some (.int (kN : Nat)), some (vb), some (.ref p), some (vo), some (.ref c22)]) rfl ?_
    clear ho e18 e19 e20 e21 e22 e23 e24 e25 e26 e27 s18 s19 s20 s21 s22 s23 s24 s25 s26 s27 s1720 s1721 s1722 s1725 s1726 F26 hvo g22 g25 g1721
    -- run refused
    refine ⟨gg28.t, fun H29 x29 t29 => ?_⟩
    have g29 := gg28.ext x29 t29
    have F29 := F28.go gg28.w g29
    obtain ⟨ng29, nw29, NA29, _, _⟩ := id F29.n
    have hdb29 := Dx.move (.go gg28.w g29) db hdb28
    have e22c : H29 c22 = some (.lst (vs.take kN ++ [vb] ++ vs.drop kN)) := g29.d _ _ n22 e22b fun ps z => by cases z
    have tkl : (vs.take kN).length = kN := by rw [List.length_take]; omega
    refine ⟨_, rfl, _, rfl, p, ng29, nw29, .ref c22, gs, ws, rfl, NA29, N, .inr ⟨c22, _, rows.take kN, kN, vb, db, rfl, e22c, ?_, ?_, fun r hr => hok8 r (List.mem_of_mem_take hr), ?_, hdb29.any, bad0⟩, fun H30 s30 => ⟨rfl, rfl, ?_⟩⟩
    · rw [List.length_append, List.length_append, tkl, List.length_drop]
      show _ + 1 + _ ≤ _
      omega
    · rw [List.append_assoc, List.take_left' tkl]
      exact (F29.ra.imp fun _ _ r => r.rv).take kN
    · rw [List.append_assoc, List.getElem?_append_right (by omega), tkl, Nat.sub_self]
      rfl
    refine ⟨true, rfl, iteF ?_⟩
    have g30 := g29.same s30
    have g2830 := g29.trans g30
    have gg30 := gg28.trans g2830
    have F30 := F28.go gg28.w g2830
    have hdb30 := Dx.move (.go gg28.w g2830) db hdb28
    have od30 := od28.go gg28.w g2830
    refine ⟨gg30.t, fun H31 x31 t31 => ?_⟩
    have g31 := gg30.ext x31 t31
    have F31 := F30.go gg30.w g31
    obtain ⟨ng31, nw31, NA31, _, _⟩ := id F31.n
    refine ⟨_, rfl, _, rfl, p, ng31, nw31, vo, gs, ws, rfl, NA31, N, (od30.go gg30.w g31).run gs, fun H32 s32 => ⟨rfl, rfl, ?_⟩⟩
    refine ⟨true, rfl, iteF ?_⟩
    have g32 := g31.same s32
    have g3032 := g31.trans g32
    have gg32 := gg30.trans g3032
    have F32 := F30.go gg30.w g3032
    have hdb32 := Dx.move (.go gg30.w g3032) db hdb30
    -- all as before
    refine ⟨_, rfl, vb, db, rfl, hdb32.any, tdb.sw, tdd, tsz, ?_⟩
    refine ⟨_, rfl, rfl, _, rfl, ite2 (fun _ => ?_) (fun e => absurd (decide_eq_true rfl) e)⟩
    obtain ⟨ng32, nw32, NA32, _, _⟩ := id F32.n
    have hlr32 : H32 lr = some (.lst (rs.map V.int)) := ((g1728.trans g2830).trans g3032).d lr _ nlr hlr17 fun ps z => by cases z
    refine ⟨_, rfl, _, rfl, _, rfl, p, ng32, nw32, lr, gs, ws, rs, rfl, NA32, N, SqL.of hlr32, okr.1, okr.2, fun l33 H33 ts2 hl33 s33 isw2 wok33 el33 => ?_⟩
    have g33 := g32.same s33
    have F33 := F32.go gg32.w g33
    have rv33 : RR K H33 c8 rows := ⟨vs, SqL.of F33.r, F33.ra.imp fun _ _ r => r.rv⟩
    refine ⟨_, rfl, _, rfl, p, ng32, nw32, c8, gs, ws, rows, rfl, NA32.same s33, N, rv33, hok8, by omega, fun t34 p2 ng2 nw2 lo2 H34 tss2 we2 as3 s34 run34 NA2' llo2 et2 _ _ _ => ?_⟩
    have g34 := g33.same s34
    refine ⟨t34, _, _, .ref lo2, rfl, rfl, .inl (.inl et2), atI_nat (j := 1) rfl, ?_⟩
    refine ⟨(by show 2 ≤ sizeLine; decide), fun c35 hc35 => ?_⟩
    have s35 : Same H34 (upd H34 c35 (.tup [.ref l33, .ref lo2])) := same_new hc35
    have e35 : (upd H34 c35 (.tup [.ref l33, .ref lo2])) c35 = some (.tup [.ref l33, .ref lo2]) := upd_same
    generalize upd H34 c35 (.tup [.ref l33, .ref lo2]) = H35 at s35 e35
    have g35 := g34.same s35
    have g3235 := (g33.trans g34).trans g35
    have gg35 := gg32.trans g3235
    have F35 := F32.go gg32.w g3235
    obtain rfl : ts2 = ts := IsW.unique N okr.1 isw2 isw
    obtain ⟨rfl, _⟩ := Run.unique N hok8 run34 run11
    refine ⟨.ref c35, befD gs ts2 tss2, rfl, bef_dx ((s34.trans s35) _ _ el33) (llo2.same s35) e35, btx.sw, bdd, bsz, ?_⟩
    refine ⟨rfl, _, rfl, ite2 (fun _ => ?_) (fun e => absurd (decide_eq_true rfl) e)⟩
    obtain ⟨ng35, nw35, NA35, _, _⟩ := id F35.n
    obtain ⟨dx35, ob35⟩ := id NA35.ob
    refine ⟨_, rfl, p, C, dx35, _, _, rfl, ob35, Z.T.cl, Z.T.nW, nf_wires _ _, _, rfl, wiresD ws, wiresD ws, NA35.w.rw.dp, F35.w.rw.dp, Sh.ok (sh_wires _) (by decide), Sh.ok (sh_wires _) (by decide), ?_⟩
    rw [wiresD_eq, decide_eq_true rfl]
    exact q H35 (gg8.trans (g9.trans (g912.trans (g1216.trans (g17.trans (g1728.trans (g2830.trans (g3032.trans g3235))))))))
end
end Lag

set_option maxRecDepth 100000
set_option maxHeartbeats 8000000
namespace Lag
open PySem PySem.Spec PyProof.Rows L2
abbrev sLaw : Stmt := topS 58 -- @law
def spLawT (K : PySem.W.Frag) (Pt : Addr) : Sp := fun vs H Q _ => ∃ (a : Addr) (ns : List Int), vs = [.ref a] ∧ H Pt = some (.tbl #[]) ∧ SqL K H a (ns.map V.int) ∧ ns.length ≤ 63 ∧ ∀ H', Q (.bl true) H'
section
variable {P : Program} {w : World} {K : PySem.W.Frag} {mg : Str → Option Value} {base : Heap}
theorem scLaw : FnScope ["_law_script", "_law_cell"] ["_law_script"] (defScope sLaw) := ⟨rfl, rfl, rfl, by decide +kernel, rfl, by decide +kernel, by decide +kernel⟩
theorem ok_law {f fC fW fR Pt : Addr} {fd fdC fdW fdR : FuncData} (F : Fun K "law" "law" sLaw f fd) (DC : DCellAt P w K mg base fC fdC) (DW : DWell P w K mg base fW fdW) (FR : FnG P w K mg base CX0 13 fR fdR ["_law_well_here"] (spRightT Pt)) (mR : mg "_law_right" = some (.ref fR)) (kR : PySem.W.keepIn K (.ref fR) = true) (bR : Binds K fdR ["_law_well_here"] []) : FnG P w K mg base CX0 14 f fd ["_law_script"] (spLawT K Pt) := by
  refine fun_okG F scLaw (fun vs H Q E h => ?_) (fun cdv A outer s H vs Q E gd hr h => ?_)
  · obtain ⟨a, ns, rfl, _⟩ := h
    rfl
  · obtain ⟨a, ns, rfl, hPt, hS, hlen, q⟩ := h
    have nd := scLaw.nd
    have hr1 : Room 1 _ := hr.mono (by decide)
    refine ⟨_, pss_cons (ps_for PassesOwn.never rfl (pi_list (pe_op op_cat (pe_lst (pa_cons (pe_call DC.ok hr1 (by rfl) DC.mg DC.kp DC.bd .nil pass0 (pa_cons (pv 0) (pa_cons pe_int pa_nil))) pa_nil)) (pe_slice sl_list (pv 0) (po_some pe_int) (po_some pe_int)))) (pg_name (i := 1) nd rfl (.inl rfl)) <|
        pss_one <| ps_if (pt_not (pt_val (pe_callG FR gd hr (by rfl) mR kR bR .nil pass0 (pa_cons (pe_call DW.ok hr1 (by rfl) DW.mg DW.kp DW.bd .nil pass0 (pa_cons (pv 1) pa_nil)) pa_nil)))) (pss_one (ps_ret pe_bl)) pss_nil) <|
      pss_one (ps_ret pe_bl), ?_⟩
    refine ⟨_, rfl, a, ns, 0, rfl, Int.le_refl 0, hS, fun z => ?_⟩
    refine ⟨(by show 1 ≤ sizeLine; decide), fun l1 hl1 => ?_⟩
    have s1 : Same H (upd H l1 (.lst [.int z])) := same_new hl1
    refine ⟨_, rfl, _, rfl, _, rfl, a, _, rfl, s1.seq hS, fun l2 hl2 => ?_⟩
    have hcl : (cutV (ns.map V.int) (some 1) (some 10)).length ≤ 63 := by
      have := cutV_length (ns.map V.int) (some 1) (some 10)
      rw [List.length_map] at this
      omega
    refine ⟨l1, l2, _, _, rfl, rfl, same_new hl2 _ _ upd_same, upd_same, ?_, fun l3 hl3 => ?_⟩
    · show 1 + _ ≤ sizeLine
      exact Nat.le_of_lt (small1000 (by omega))
    have T0 : LamX.Tabs (TT Pt) H := fun p hp => by
      rw [List.mem_singleton.mp hp]
      exact LamX.TabS.nil hPt
    have T3 := ((T0.ext (same_new (o := .lst [.int z]) hl1)).ext (same_new (o := .lst (cutV (ns.map V.int) (some 1) (some 10))) hl2)).ext (same_new (o := .lst ([.int z] ++ cutV (ns.map V.int) (some 1) (some 10))) hl3)
    refine ⟨l3, rfl, ⟨_, SqL.of upd_same⟩, for_list (K := K) (a := l3) (xs := [.int z] ++ cutV (ns.map V.int) (some 1) (some 10)) (fun i σ H' => ∃ s1 : Option V, σ = [some (.ref a), s1] ∧ H' l3 = some (.lst ([.int z] ++ cutV (ns.map V.int) (some 1) (some 10))) ∧ LamX.Tabs (TT Pt) H')
      ⟨_, rfl, upd_same, T3⟩ (fun i σ H' _ ⟨_, _, e, _⟩ => SqL.of e) ?_ ?_⟩
    · rintro i x σ H' hx ⟨s1', rfl, e3, T4⟩
      obtain ⟨c, rfl⟩ : ∃ c, x = V.int c := by
        rcases List.mem_append.mp (List.mem_of_getElem? hx) with hm | hm
        · simp at hm
          exact ⟨z, hm⟩
        · obtain ⟨c, _, rfl⟩ := List.mem_map.mp (mem_cut hm)
          exact ⟨c, rfl⟩
      refine ⟨_, rfl, c, rfl, fun wl H1 hwl sm W => ?_⟩
      refine ⟨wl, rfl, W, T4.ext sm, fun H2 D => ⟨true, rfl, iteF ⟨_, rfl, ?_, D.t⟩⟩⟩
      exact D.d _ _ (ne_of_none e3 hwl) (sm _ _ e3) fun ps z => by cases z
    · rintro σ H' ⟨s1', rfl, e3, _⟩
      exact q H'
end
/-! ### the end: a law whose promise is kept where no guard is up, and a table of code objects that stands in another def -/
theorem lawGT_call {P : Program} {w : World} {K : PySem.W.Frag} {mg mb : Str → Option Value} {CX : CXT} {k : Nat} {fa a c T : Addr} {fd : FuncData} {x : Str} {sp : Sp} {s : Shared} {vs : List Value} {ns : List Int}
    (KX : K.In s.heap) (hns : s.heap.Ns mainGlobals mg) (hb : s.heap.Ns builtinsNs mb) (hbb : ∀ x : Str, x ≠ "__name__" → mb x = bootBuiltins x) (hlim : s.heap.NoLimit) (hg : s.gens = #[])
    (hT : s.heap.get? T = some { cls := .none, data := .fields #[] }) (nT : K.lookup T = none) (C : PySem.W.CodeHd s.heap c T)
    (hbm : ∃ (bm : Addr) (ob : Obj), mg "__builtins__" = some (.ref bm) ∧ bm ≠ builtinsNs ∧ s.heap.get? bm = some ob ∧ ob.cls = .type "module" ∧ ob.dict = some builtinsNs ∧ ob.data = .plain)
    (ha : s.heap.get? a = some { cls := .type "list", data := .seq vs.toArray }) (hi : IntsAre vs ns) (hl : ns.length ≤ sizeLine) (hr : Room k callerA)
    (F : ∀ base : Heap, K.In base → base.Ns mainGlobals mg → LamX.TabB base mg c T → FnG P w K mg base CX k fa fd [x] sp) (hbind : ∀ (s : Shared) (u : Value), BindsTo s fd ⟨[u], []⟩ [(x, u)])
    (hsp : ∀ H : Hp, H T = some (.tbl #[]) → SqL K H a (ns.map V.int) → sp [.ref a] H (fun v _ => v = .bl true) fun _ _ _ => False)
    (hCX : ∀ H e s', CX [] H s (fun _ _ _ => False) e s' → False) :
    codeAny (model P w) callerA (.call (.ref fa) ⟨[.ref a], []⟩) (fun r s' => r = .ok (.ret (.bool true)) ∧ OldK s.heap s'.heap ∧ s'.os = s.os ∧ AllBare s'.gens) s := by
  obtain ⟨H0, only, sq0, hok0, own⟩ := script_at (P := P) (w := w) KX ha hi hl
  have aT : a ≠ T := fun z => by
    rw [z, hT] at ha
    have e : Data.fields #[] = Data.seq vs.toArray 0 := congrArg Obj.data (Option.some.inj ha)
    cases e
  have H0T : H0 T = none := by
    cases q : H0 T with
    | none => rfl
    | some u => exact absurd (own T u q).1.symm aT
  have sm : Same H0 (upd H0 T (.tbl #[])) := same_new H0T
  have hHT : (upd H0 T (.tbl #[])) T = some (.tbl #[]) := upd_same
  have sq := sm.seq sq0
  have hof : ∀ b, b ≠ T → (upd H0 T (.tbl #[])) b = H0 b := fun b n => upd_ne n
  have hok : HOk P w (upd H0 T (.tbl #[])) s.heap := fun b u z => by
    by_cases hbT : b = T
    · subst hbT
      rw [upd_same] at z
      cases z
      exact hT
    · rw [upd_ne hbT] at z
      rcases only b with e | ⟨ob, xs, e⟩
      · rw [e] at z
        cases z
      · rw [e] at z
        cases z
        exact hok0 b _ e
  generalize upd H0 T (.tbl #[]) = H at sm hHT sq hof hok
  have free : ∀ {b : Addr} {o : Obj}, s.heap.get? b = some o → b ≠ T → (b = a → K.lookup b ≠ none ∨ ∀ l n, o.data ≠ .seq l n) → H b = none := fun {b o} e nb h => by
    rw [hof b nb]
    cases q : H0 b with
    | none => rfl
    | some u =>
      obtain ⟨e1, e2⟩ := own b u q
      rcases h e1 with z | z
      · exact absurd e2 z
      · rw [e1, ha] at e
        exact absurd (congrArg Obj.data (Option.some.inj e)).symm (z _ _)
  have inB : ∀ {b : Addr} {o : Obj}, s.heap.get? b = some o → H b = none → (hidT s.heap H).get? b = some o := fun e n => hidT_get e n
  have notT : ∀ {b : Addr} {o : Obj}, s.heap.get? b = some o → o.data ≠ .fields #[] → b ≠ T := fun {b o} e n z => by
    rw [z, hT] at e
    exact n (congrArg Obj.data (Option.some.inj e)).symm
  have nsB : ∀ {b : Addr} {m : Str → Option Value}, s.heap.Ns b m → (hidT s.heap H).Ns b m := fun ⟨o, es, ep, e, d, r⟩ => ⟨o, es, ep, inB e (free e (notT e (by rw [d]; intro z; cases z)) fun _ => .inr fun l n => by rw [d]; intro z; cases z), d, r⟩
  have KB : K.In (hidT s.heap H) := fun b o e => inB (KX b o e) (free (KX b o e) (fun z => by
    rw [z, nT] at e
    cases e) fun _ => .inl (by rw [e]; intro z; cases z))
  have TB : LamX.TabB (hidT s.heap H) mg c T := by
    refine ⟨?_, ?_, fun z => ?_⟩
    · obtain ⟨o, us, file, tf, flags, tg, inF, text, tt, e1, r1, r2, r3, r4, r5, r6, r7, r8, hne⟩ := id C
      exact ⟨o, us, file, tf, flags, tg, inF, text, tt, inB e1 (free e1 hne fun _ => .inr fun l n => by rw [r2]; intro z; cases z), r1, r2, r3, r4, r5, r6, r7, r8, hne⟩
    · obtain ⟨bm, ob, b1, b2, b3, b4, b5, b6⟩ := hbm
      have nG : bm ≠ mainGlobals := fun q => by
        obtain ⟨o, es, ep, e, hd, _⟩ := hns
        rw [q, e] at b3
        cases b3
        rw [hd] at b6
        cases b6
      have nP : bm ≠ T := notT b3 (by rw [b6]; intro z; cases z)
      exact ⟨bm, ob, b1, b2, nG, nP, inB b3 (free b3 nP fun _ => .inr fun l n => by rw [b6]; intro z; cases z), b4, b5, b6⟩
    · obtain ⟨o, es, ep, e, hd, _⟩ := hns
      exact notT e (by rw [hd]; intro y; cases y) z
  obtain ⟨mc, l1, l2⟩ := hlim
  have e0 : Env0 P w K mg (hidT s.heap H) callerA [] s H :=
    { frames := rfl, mod := ⟨KB, nsB hns, ⟨mb, nsB hb, hbb⟩, ⟨mc, nsB l1, l2⟩⟩, bs := fun b o e => of_hidT e, bsz := Nat.le_of_eq (hidT_size _ _), funs := trivial, frf := (fun b z => by cases z), hok := hok, bare := .of_eq hg }
  refine codeAny_mono ((F _ KB (nsB hns) TB).run callerA [] s H ⟨[.ref a], []⟩ [.ref a] [.ref a] _ _ rfl hr e0 (hbind s (.ref a)) (.cons rfl .nil) (hsp H hHT sq)) fun r s' h => ?_
  match r, h with
  | .error e, h => exact (hCX H e s' h).elim
  | .ok (.ret u), ⟨v, H', os, bare, un, hok', rv, q⟩ =>
    have q' : v = .bl true := q
    subst q'
    cases rv
    obtain ⟨more, hm⟩ : ∃ more : Array Value, s'.heap.get? T = some { cls := .none, data := .fields more } := by
      obtain ⟨m, z⟩ := un.tbls T #[] hHT
      exact ⟨_, hok' T _ z⟩
    have key : ∀ b o, b ≠ T → s.heap.get? b = some o → s'.heap.get? b = some o := fun b o nb e => by
      rcases only b with z | ⟨ob, xs, z⟩
      · exact un.keep b o e (by rw [hof b nb]; exact z) (by intro z; cases z) (by simp)
      · have z2 : H b = some (.frz ob (.lst xs)) := by rw [hof b nb]; exact z
        obtain ⟨e1, _⟩ := hok b _ z2
        obtain ⟨e2, _⟩ := hok' b _ (un.frzs b ob _ z2)
        rw [e] at e1
        cases e1
        exact e2
    refine ⟨rfl, ⟨fun b o e => ?_, fun b o e => ?_⟩, os, bare⟩
    · by_cases hbT : b = T
      · subst hbT
        rw [hT] at e
        cases e
        exact .inr (.inl ⟨(C.tab hT).isCodeTable, rfl, #[], more, rfl, by rw [Array.empty_append]; exact hm⟩)
      · exact .inl (key b o hbT e)
    · by_cases hbT : b = T
      · exact ⟨_, by rw [hbT]; exact hm⟩
      · exact ⟨o, key b o hbT e⟩
/-- what is known of the law's promise at the head's heap h -/
def LawAtG (l : PySem.W.OpenLaw) (w : World) (K : PySem.W.Frag) (CX : CXT) (k n : Nat) (x : Str) (mg : Str → Option Value) (fa : Addr) (h : Heap) : Prop :=
  ∃ (fd : FuncData) (c T : Addr) (sp : Sp), h.get? T = some { cls := .none, data := .fields #[] } ∧ K.lookup T = none ∧ PySem.W.CodeHd h c T ∧ (∀ (s : Shared) (u : Value), BindsTo s fd ⟨[u], []⟩ [(x, u)]) ∧
    (∀ (H : Hp) (a : Addr) (ns : List Int), ns.length ≤ n → H T = some (.tbl #[]) → SqL K H a (ns.map V.int) → sp [.ref a] H (fun v _ => v = .bl true) fun _ _ _ => False) ∧
    ∀ base : Heap, K.In base → base.Ns mainGlobals mg → LamX.TabB base mg c T → FnG l.prog w K mg base CX k fa fd [x] sp
theorem walkGT_of {l : PySem.W.OpenLaw} {n k : Nat} {q : Program} {loose : List Str} {XP : (Str → Option Value) → Heap → Prop} {YP : World → Heap → Prop} {d : DefRec} {K : Params → PySem.W.Frag} {CX : World → CXT} {x y : Str}
    (hn : l.most = some n) (hn2 : n ≤ sizeLine) (hdf : d.params.defaults = []) (hr : Room k callerA) (hrec : ((recsOf q).any fun e => e.name == y) = true) (hY : ∀ (w : World) (h : Heap), YP w h → (K w.params).In h)
    (F : ∀ (w : World) (mg : Str → Option Value) (fa : Addr) (h : Heap), YP w h → (K w.params).In h → h.Ns mainGlobals mg → mg d.name = some (.ref fa) → (∀ fr : Addr, mg y = some (.ref fr) → LamX.OwnTab (K w.params) fr h) → LawAtG l w (K w.params) (CX w) k n x mg fa h)
    (hCX : ∀ (w : World) (H : Hp) (s : Shared) (e : Value) (s' : Shared), CX w [] H s (fun _ _ _ => False) e s' → False) :
    PySem.W.WalkO q loose XP YP l.row.toRowW d [] (fun f vs => PySem.call f vs) :=
  Att.attach_callB hn hdf fun w s₀ s₁ mg mb fa o pm cd doc a vs ns G Y ho hd hcd hmg hobj hints hlen hbits hg => by
    have KX := hY w _ Y
    obtain ⟨dL, hm, hn1⟩ := List.any_eq_true.mp hrec
    have hn2' : dL.name = y := beq_iff_eq.mp hn1
    obtain ⟨a', o', fd', c', P', h1, h2, h3, h4, h5, h6⟩ := G.T.tab dL hm
    rw [hn2'] at h1
    have own : ∀ fr : Addr, mg y = some (.ref fr) → LamX.OwnTab (K w.params) fr s₁.heap := fun fr hfr c P o1 fd1 e dd vs1 sl k1 k2 k3 k4 k5 => by
      have ea : a' = fr := by
        rw [h1] at hfr
        exact Value.ref.inj (Option.some.inj hfr)
      obtain ⟨⟨oc, vc, e1, _, e3, e4⟩, hP⟩ := h6
      have eo : o' = o1 := by
        have z := KX _ _ k1
        rw [← ea, h2] at z
        exact Option.some.inj z
      have efd : fd' = fd1 := by
        rw [eo, k2] at h3
        exact (Data.func.inj h3).symm
      have ec : c' = c := by
        rw [efd, k3] at h4
        exact (Value.ref.inj h4).symm
      have z := KX _ _ k4
      rw [← ec, e1] at z
      have eoc := Option.some.inj z
      have evs : vc = vs1 := by
        rw [eoc] at e3
        exact (Data.fields.inj e3).symm
      rw [evs, k5] at e4
      have eP : P = P' := Value.ref.inj (Option.some.inj e4)
      rw [eP]
      exact hP
    obtain ⟨fd, c, T, sp, hT, nT, C, hb, hsp, hF⟩ := F w mg fa _ Y KX G.T.g hmg own
    exact lawGT_call KX G.T.g G.T.b G.T.builtins G.T.nolimit hg hT nT C G.T.bmain hobj hints (Nat.le_trans hlen hn2) hr hF hb (fun H hH hS => hsp H a ns hlen hH hS) fun H e s' => hCX w H s₁ e s'
end Lag

set_option maxRecDepth 100000
set_option maxHeartbeats 8000000
namespace Lag
open PySem PySem.Spec PyProof.Rows L2
theorem kind_of : ∀ k ∈ kinds, k = "in" ∨ k = "out" ∨ k = "sum" ∨ k = "times" ∨ k = "most" ∨ k = "least" ∨ k = "first" ∨ k = "one" := by decide +kernel
theorem exm_of {K : PySem.W.Frag} {S C : Addr} (h1 : PySem.W.subIn K (.ref C) (.type "BaseException") = some true) (h2 : PySem.W.isClsIn K C = true) (h3 : PySem.W.typeIn K (.ref C) = some (.type "type")) (h4 : PySem.W.subIn K (.ref S) (.ref C) = some true) :
    PySem.W.exmOne K (.ref S) (.ref C) = some true := by
  have e1 : (PySem.W.subIn K (.ref C) (.type "BaseException") == some true) = true := by rw [h1] <;> rfl
  have e2 : ((PySem.W.clsIn K C).isSome && PySem.W.typeIn K (.ref C) == some (.type "type")) = true := by
    have h2' : (PySem.W.clsIn K C).isSome = true := h2
    rw [h2', h3] <;> rfl
  show (if (PySem.W.subIn K (.ref C) (.type "BaseException") == some true) = true then (if ((PySem.W.clsIn K C).isSome && PySem.W.typeIn K (.ref C) == some (.type "type")) = true then PySem.W.subIn K (.ref S) (.ref C) else none) else none) = some true
  rw [if_pos e1, if_pos e2]
  exact h4
theorem kit_type {K : PySem.W.Frag} {S : Addr} {T : String} {b : Bool} (h1 : PySem.W.kitMeta T = true) (h2 : PySem.W.subIn K (.ref S) (.type T) = some b) : PySem.W.kitOne K (.ref S) (.type T) = some b := by
  have e0 : ((Value.ref S) == (Value.type T)) = false := rfl
  show (if ((Value.ref S) == (Value.type T)) = true then some true else (if PySem.W.kitMeta T = true then PySem.W.subIn K (.ref S) (.type T) else none)) = some b
  rw [e0, if_neg (by decide), if_pos h1]
  exact h2
theorem kit_not {K : PySem.W.Frag} {S C : Addr} (h2 : PySem.W.isClsIn K C = true) (h3 : PySem.W.typeIn K (.ref C) = some (.type "type")) (h4 : PySem.W.subIn K (.ref S) (.ref S) = some true) (h5 : PySem.W.subIn K (.ref S) (.ref C) = some false) :
    PySem.W.kitOne K (.ref S) (.ref C) = some false := by
  have ne : ¬ (((Value.ref S) == (Value.ref C)) = true) := fun z => by
    have z' : S = C := by
      have z2 := beq_iff_eq.mp z
      cases z2
      rfl
    rw [z'] at h4 h5
    rw [h4] at h5
    cases h5
  have e2 : ((PySem.W.clsIn K C).isSome && PySem.W.typeIn K (.ref C) == some (.type "type")) = true := by
    have h2' : (PySem.W.clsIn K C).isSome = true := h2
    rw [h2', h3] <;> rfl
  show (if ((Value.ref S) == (Value.ref C)) = true then some true else (if ((PySem.W.clsIn K C).isSome && PySem.W.typeIn K (.ref C) == some (.type "type")) = true then PySem.W.subIn K (.ref S) (.ref C) else none)) = some false
  rw [if_neg ne, if_pos e2]
  exact h5
theorem all_mk {l : PySem.W.OpenLaw} {w : World} {K : PySem.W.Frag} {h : Heap} {mg : Str → Option Value} {fa C : Addr} (X : K.In h) (G : h.Ns mainGlobals mg) (hfa : mg "law" = some (.ref fa)) (own : ∀ fr : Addr, mg "_law_right" = some (.ref fr) → LamX.OwnTab K fr h)
    {C0 CR CW cL Pt : Addr} {eL : Value} {ddL : Option Addr} {vsL : Array Value} {sxL : Array (Option Value)}
    {fd0 : Addr} {odd0 and0 : Option Addr} {sld0 : Array (Option Value)} {ocd0 kVd0 dcd0 pmd0 cdd0 ctd0 : Value}
    {fd1 : Addr} {odd1 and1 : Option Addr} {sld1 : Array (Option Value)} {ocd1 kVd1 dcd1 pmd1 cdd1 ctd1 : Value}
    {fd2 : Addr} {odd2 and2 : Option Addr} {sld2 : Array (Option Value)} {ocd2 kVd2 dcd2 pmd2 cdd2 ctd2 : Value}
    {fd3 : Addr} {odd3 and3 : Option Addr} {sld3 : Array (Option Value)} {ocd3 kVd3 dcd3 pmd3 cdd3 ctd3 : Value}
    {fd4 : Addr} {odd4 and4 : Option Addr} {sld4 : Array (Option Value)} {ocd4 kVd4 dcd4 pmd4 cdd4 ctd4 : Value}
    {fd5 : Addr} {odd5 and5 : Option Addr} {sld5 : Array (Option Value)} {ocd5 kVd5 dcd5 pmd5 cdd5 ctd5 : Value}
    {fd6 : Addr} {odd6 and6 : Option Addr} {sld6 : Array (Option Value)} {ocd6 kVd6 dcd6 pmd6 cdd6 ctd6 : Value}
    {fd7 : Addr} {odd7 and7 : Option Addr} {sld7 : Array (Option Value)} {ocd7 kVd7 dcd7 pmd7 cdd7 ctd7 : Value}
    {fd8 : Addr} {odd8 and8 : Option Addr} {sld8 : Array (Option Value)} {ocd8 kVd8 dcd8 pmd8 cdd8 ctd8 : Value}
    {fd9 : Addr} {odd9 and9 : Option Addr} {sld9 : Array (Option Value)} {ocd9 kVd9 dcd9 pmd9 cdd9 ctd9 : Value}
    {fd10 : Addr} {odd10 and10 : Option Addr} {sld10 : Array (Option Value)} {ocd10 kVd10 dcd10 pmd10 cdd10 ctd10 : Value}
    {fd11 : Addr} {odd11 and11 : Option Addr} {sld11 : Array (Option Value)} {ocd11 kVd11 dcd11 pmd11 cdd11 ctd11 : Value}
    {fd12 : Addr} {odd12 and12 : Option Addr} {sld12 : Array (Option Value)} {ocd12 kVd12 dcd12 pmd12 cdd12 ctd12 : Value}
    {fd13 : Addr} {odd13 and13 : Option Addr} {sld13 : Array (Option Value)} {ocd13 kVd13 dcd13 pmd13 cdd13 ctd13 : Value}
    {fd14 : Addr} {odd14 and14 : Option Addr} {sld14 : Array (Option Value)} {ocd14 kVd14 dcd14 pmd14 cdd14 ctd14 : Value}
    {fd15 : Addr} {odd15 and15 : Option Addr} {sld15 : Array (Option Value)} {ocd15 kVd15 dcd15 pmd15 cdd15 ctd15 : Value}
    {fd16 : Addr} {odd16 and16 : Option Addr} {sld16 : Array (Option Value)} {ocd16 kVd16 dcd16 pmd16 cdd16 ctd16 : Value}
    {fd17 : Addr} {odd17 and17 : Option Addr} {sld17 : Array (Option Value)} {ocd17 kVd17 dcd17 pmd17 cdd17 ctd17 : Value}
    {fd18 : Addr} {odd18 and18 : Option Addr} {sld18 : Array (Option Value)} {ocd18 kVd18 dcd18 pmd18 cdd18 ctd18 : Value}
    {fd19 : Addr} {odd19 and19 : Option Addr} {sld19 : Array (Option Value)} {ocd19 kVd19 dcd19 pmd19 cdd19 ctd19 : Value}
    {fd20 : Addr} {odd20 and20 : Option Addr} {sld20 : Array (Option Value)} {ocd20 kVd20 dcd20 pmd20 cdd20 ctd20 : Value}
    {fd21 : Addr} {odd21 and21 : Option Addr} {sld21 : Array (Option Value)} {ocd21 kVd21 dcd21 pmd21 cdd21 ctd21 : Value}
    {fd22 : Addr} {odd22 and22 : Option Addr} {sld22 : Array (Option Value)} {ocd22 kVd22 dcd22 pmd22 cdd22 ctd22 : Value}
    {fd23 : Addr} {odd23 and23 : Option Addr} {sld23 : Array (Option Value)} {ocd23 kVd23 dcd23 pmd23 cdd23 ctd23 : Value}
    {fd24 : Addr} {odd24 and24 : Option Addr} {sld24 : Array (Option Value)} {ocd24 kVd24 dcd24 pmd24 cdd24 ctd24 : Value}
    {fd25 : Addr} {odd25 and25 : Option Addr} {sld25 : Array (Option Value)} {ocd25 kVd25 dcd25 pmd25 cdd25 ctd25 : Value}
    {fd26 : Addr} {odd26 and26 : Option Addr} {sld26 : Array (Option Value)} {ocd26 kVd26 dcd26 pmd26 cdd26 ctd26 : Value}
    {fd27 : Addr} {odd27 and27 : Option Addr} {sld27 : Array (Option Value)} {ocd27 kVd27 dcd27 pmd27 cdd27 ctd27 : Value}
    {fd28 : Addr} {odd28 and28 : Option Addr} {sld28 : Array (Option Value)} {ocd28 kVd28 dcd28 pmd28 cdd28 ctd28 : Value}
    {fd29 : Addr} {odd29 and29 : Option Addr} {sld29 : Array (Option Value)} {ocd29 kVd29 dcd29 pmd29 cdd29 ctd29 : Value}
    {fd30 : Addr} {odd30 and30 : Option Addr} {sld30 : Array (Option Value)} {ocd30 kVd30 dcd30 pmd30 cdd30 ctd30 : Value}
    {fd31 : Addr} {odd31 and31 : Option Addr} {sld31 : Array (Option Value)} {ocd31 kVd31 dcd31 pmd31 cdd31 ctd31 : Value}
    {fd32 : Addr} {odd32 and32 : Option Addr} {sld32 : Array (Option Value)} {ocd32 kVd32 dcd32 pmd32 cdd32 ctd32 : Value}
    {fd33 : Addr} {odd33 and33 : Option Addr} {sld33 : Array (Option Value)} {ocd33 kVd33 dcd33 pmd33 cdd33 ctd33 : Value}
    {fd34 : Addr} {odd34 and34 : Option Addr} {sld34 : Array (Option Value)} {ocd34 kVd34 dcd34 pmd34 cdd34 ctd34 : Value}
    {fd35 : Addr} {odd35 and35 : Option Addr} {sld35 : Array (Option Value)} {ocd35 kVd35 dcd35 pmd35 cdd35 ctd35 : Value}
    {fd36 : Addr} {odd36 and36 : Option Addr} {sld36 : Array (Option Value)} {ocd36 kVd36 dcd36 pmd36 ctd36 : Value}
    {fd37 : Addr} {odd37 and37 : Option Addr} {sld37 : Array (Option Value)} {ocd37 kVd37 dcd37 pmd37 cdd37 ctd37 : Value}
    {fm0 : Addr} {odm0 anm0 : Option Addr} {slm0 : Array (Option Value)} {ocm0 kVm0 dcm0 pmm0 cdm0 ctm0 : Value}
    {fm1 : Addr} {odm1 anm1 : Option Addr} {slm1 : Array (Option Value)} {ocm1 kVm1 dcm1 pmm1 cdm1 ctm1 : Value}
    {fm2 : Addr} {odm2 anm2 : Option Addr} {slm2 : Array (Option Value)} {ocm2 kVm2 dcm2 pmm2 cdm2 ctm2 : Value}
    {fm3 : Addr} {odm3 anm3 : Option Addr} {slm3 : Array (Option Value)} {ocm3 kVm3 dcm3 pmm3 cdm3 ctm3 : Value}
    {tGW tGA tGD : Tok}
    {aK nnK : Nat} {ddK : Option Addr} {ssK : Array (Option Value)} {tK0 tK1 tK2 tK3 tK4 tK5 tK6 tK7 : Tok}
    {aW nnW : Nat} {ddW : Option Addr} {ssW : Array (Option Value)} {tW0 tW1 : Tok}
    {aF nnF : Nat} {ddF : Option Addr} {ssF : Array (Option Value)} {tF0 tF1 : Tok}
    {aR nnR : Nat} {esR : Array DictEntry}
    (aC : PySem.W.nsIn K mainGlobals "Net" = some (some (.ref C)))
    (ad0 : PySem.W.nsIn K mainGlobals "is_whole" = some (some (.ref fd0)))
    (ld0 : K.lookup fd0 = some ⟨ocd0, odd0, .func (PySem.W.fnOf "is_whole" "is_whole" (defArgs sWhole) (defBody sWhole) (defScope sWhole) .none kVd0 dcd0 pmd0 and0 cdd0 ctd0), sld0⟩)
    (cd0 : PySem.W.codeIn K cdd0 "is_whole" = true)
    (kd0 : PySem.W.keepIn K (.ref fd0) = true)
    (ad1 : PySem.W.nsIn K mainGlobals "is_whole_from_to" = some (some (.ref fd1)))
    (ld1 : K.lookup fd1 = some ⟨ocd1, odd1, .func (PySem.W.fnOf "is_whole_from_to" "is_whole_from_to" (defArgs sFromTo) (defBody sFromTo) (defScope sFromTo) .none kVd1 dcd1 pmd1 and1 cdd1 ctd1), sld1⟩)
    (cd1 : PySem.W.codeIn K cdd1 "is_whole_from_to" = true)
    (kd1 : PySem.W.keepIn K (.ref fd1) = true)
    (ad2 : PySem.W.nsIn K mainGlobals "is_worth" = some (some (.ref fd2)))
    (ld2 : K.lookup fd2 = some ⟨ocd2, odd2, .func (PySem.W.fnOf "is_worth" "is_worth" (defArgs sWorth) (defBody sWorth) (defScope sWorth) .none kVd2 dcd2 pmd2 and2 cdd2 ctd2), sld2⟩)
    (cd2 : PySem.W.codeIn K cdd2 "is_worth" = true)
    (kd2 : PySem.W.keepIn K (.ref fd2) = true)
    (ad3 : PySem.W.nsIn K mainGlobals "is_gate" = some (some (.ref fd3)))
    (ld3 : K.lookup fd3 = some ⟨ocd3, odd3, .func (PySem.W.fnOf "is_gate" "is_gate" (defArgs sIsGate) (defBody sIsGate) (defScope sIsGate) .none kVd3 dcd3 pmd3 and3 cdd3 ctd3), sld3⟩)
    (cd3 : PySem.W.codeIn K cdd3 "is_gate" = true)
    (kd3 : PySem.W.keepIn K (.ref fd3) = true)
    (ad4 : PySem.W.nsIn K mainGlobals "check_gates" = some (some (.ref fd4)))
    (ld4 : K.lookup fd4 = some ⟨ocd4, odd4, .func (PySem.W.fnOf "check_gates" "check_gates" (defArgs sChkGates) (defBody sChkGates) (defScope sChkGates) .none kVd4 dcd4 pmd4 and4 cdd4 ctd4), sld4⟩)
    (cd4 : PySem.W.codeIn K cdd4 "check_gates" = true)
    (kd4 : PySem.W.keepIn K (.ref fd4) = true)
    (ad5 : PySem.W.nsIn K mainGlobals "is_wire" = some (some (.ref fd5)))
    (ld5 : K.lookup fd5 = some ⟨ocd5, odd5, .func (PySem.W.fnOf "is_wire" "is_wire" (defArgs sIsWire) (defBody sIsWire) (defScope sIsWire) .none kVd5 dcd5 pmd5 and5 cdd5 ctd5), sld5⟩)
    (cd5 : PySem.W.codeIn K cdd5 "is_wire" = true)
    (kd5 : PySem.W.keepIn K (.ref fd5) = true)
    (ad6 : PySem.W.nsIn K mainGlobals "is_taken" = some (some (.ref fd6)))
    (ld6 : K.lookup fd6 = some ⟨ocd6, odd6, .func (PySem.W.fnOf "is_taken" "is_taken" (defArgs sTaken) (defBody sTaken) (defScope sTaken) .none kVd6 dcd6 pmd6 and6 cdd6 ctd6), sld6⟩)
    (cd6 : PySem.W.codeIn K cdd6 "is_taken" = true)
    (kd6 : PySem.W.keepIn K (.ref fd6) = true)
    (ad7 : PySem.W.nsIn K mainGlobals "check_wires" = some (some (.ref fd7)))
    (ld7 : K.lookup fd7 = some ⟨ocd7, odd7, .func (PySem.W.fnOf "check_wires" "check_wires" (defArgs sChkWires) (defBody sChkWires) (defScope sChkWires) .none kVd7 dcd7 pmd7 and7 cdd7 ctd7), sld7⟩)
    (cd7 : PySem.W.codeIn K cdd7 "check_wires" = true)
    (kd7 : PySem.W.keepIn K (.ref fd7) = true)
    (ad8 : PySem.W.nsIn K mainGlobals "order_along" = some (some (.ref fd8)))
    (ld8 : K.lookup fd8 = some ⟨ocd8, odd8, .func (PySem.W.fnOf "order_along" "order_along" (defArgs sAlong) (defBody sAlong) (defScope sAlong) .none kVd8 dcd8 pmd8 and8 cdd8 ctd8), sld8⟩)
    (cd8 : PySem.W.codeIn K cdd8 "order_along" = true)
    (kd8 : PySem.W.keepIn K (.ref fd8) = true)
    (ad9 : PySem.W.nsIn K mainGlobals "bare_order" = some (some (.ref fd9)))
    (ld9 : K.lookup fd9 = some ⟨ocd9, odd9, .func (PySem.W.fnOf "bare_order" "bare_order" (defArgs sOrder) (defBody sOrder) (defScope sOrder) .none kVd9 dcd9 pmd9 and9 cdd9 ctd9), sld9⟩)
    (cd9 : PySem.W.codeIn K cdd9 "bare_order" = true)
    (kd9 : PySem.W.keepIn K (.ref fd9) = true)
    (ad10 : PySem.W.nsIn K mainGlobals "check_rings" = some (some (.ref fd10)))
    (ld10 : K.lookup fd10 = some ⟨ocd10, odd10, .func (PySem.W.fnOf "check_rings" "check_rings" (defArgs sChkRings) (defBody sChkRings) (defScope sChkRings) .none kVd10 dcd10 pmd10 and10 cdd10 ctd10), sld10⟩)
    (cd10 : PySem.W.codeIn K cdd10 "check_rings" = true)
    (kd10 : PySem.W.keepIn K (.ref fd10) = true)
    (ad11 : PySem.W.nsIn K mainGlobals "places_of" = some (some (.ref fd11)))
    (ld11 : K.lookup fd11 = some ⟨ocd11, odd11, .func (PySem.W.fnOf "places_of" "places_of" (defArgs sPlaces) (defBody sPlaces) (defScope sPlaces) .none kVd11 dcd11 pmd11 and11 cdd11 ctd11), sld11⟩)
    (cd11 : PySem.W.codeIn K cdd11 "places_of" = true)
    (kd11 : PySem.W.keepIn K (.ref fd11) = true)
    (ad12 : PySem.W.nsIn K mainGlobals "sum_of" = some (some (.ref fd12)))
    (ld12 : K.lookup fd12 = some ⟨ocd12, odd12, .func (PySem.W.fnOf "sum_of" "sum_of" (defArgs sSumOf) (defBody sSumOf) (defScope sSumOf) .none kVd12 dcd12 pmd12 and12 cdd12 ctd12), sld12⟩)
    (cd12 : PySem.W.codeIn K cdd12 "sum_of" = true)
    (kd12 : PySem.W.keepIn K (.ref fd12) = true)
    (ad13 : PySem.W.nsIn K mainGlobals "product_of" = some (some (.ref fd13)))
    (ld13 : K.lookup fd13 = some ⟨ocd13, odd13, .func (PySem.W.fnOf "product_of" "product_of" (defArgs sProdOf) (defBody sProdOf) (defScope sProdOf) .none kVd13 dcd13 pmd13 and13 cdd13 ctd13), sld13⟩)
    (cd13 : PySem.W.codeIn K cdd13 "product_of" = true)
    (kd13 : PySem.W.keepIn K (.ref fd13) = true)
    (ad14 : PySem.W.nsIn K mainGlobals "most_of" = some (some (.ref fd14)))
    (ld14 : K.lookup fd14 = some ⟨ocd14, odd14, .func (PySem.W.fnOf "most_of" "most_of" (defArgs sMostOf) (defBody sMostOf) (defScope sMostOf) .none kVd14 dcd14 pmd14 and14 cdd14 ctd14), sld14⟩)
    (cd14 : PySem.W.codeIn K cdd14 "most_of" = true)
    (kd14 : PySem.W.keepIn K (.ref fd14) = true)
    (ad15 : PySem.W.nsIn K mainGlobals "least_of" = some (some (.ref fd15)))
    (ld15 : K.lookup fd15 = some ⟨ocd15, odd15, .func (PySem.W.fnOf "least_of" "least_of" (defArgs sLeastOf) (defBody sLeastOf) (defScope sLeastOf) .none kVd15 dcd15 pmd15 and15 cdd15 ctd15), sld15⟩)
    (cd15 : PySem.W.codeIn K cdd15 "least_of" = true)
    (kd15 : PySem.W.keepIn K (.ref fd15) = true)
    (ad16 : PySem.W.nsIn K mainGlobals "first_of" = some (some (.ref fd16)))
    (ld16 : K.lookup fd16 = some ⟨ocd16, odd16, .func (PySem.W.fnOf "first_of" "first_of" (defArgs sFirstOf) (defBody sFirstOf) (defScope sFirstOf) .none kVd16 dcd16 pmd16 and16 cdd16 ctd16), sld16⟩)
    (cd16 : PySem.W.codeIn K cdd16 "first_of" = true)
    (kd16 : PySem.W.keepIn K (.ref fd16) = true)
    (ad17 : PySem.W.nsIn K mainGlobals "one_of" = some (some (.ref fd17)))
    (ld17 : K.lookup fd17 = some ⟨ocd17, odd17, .func (PySem.W.fnOf "one_of" "one_of" (defArgs sOneOf) (defBody sOneOf) (defScope sOneOf) .none kVd17 dcd17 pmd17 and17 cdd17 ctd17), sld17⟩)
    (cd17 : PySem.W.codeIn K cdd17 "one_of" = true)
    (kd17 : PySem.W.keepIn K (.ref fd17) = true)
    (ad18 : PySem.W.nsIn K mainGlobals "wire_worth" = some (some (.ref fd18)))
    (ld18 : K.lookup fd18 = some ⟨ocd18, odd18, .func (PySem.W.fnOf "wire_worth" "wire_worth" (defArgs sWireWorth) (defBody sWireWorth) (defScope sWireWorth) .none kVd18 dcd18 pmd18 and18 cdd18 ctd18), sld18⟩)
    (cd18 : PySem.W.codeIn K cdd18 "wire_worth" = true)
    (kd18 : PySem.W.keepIn K (.ref fd18) = true)
    (ad19 : PySem.W.nsIn K mainGlobals "coming_to" = some (some (.ref fd19)))
    (ld19 : K.lookup fd19 = some ⟨ocd19, odd19, .func (PySem.W.fnOf "coming_to" "coming_to" (defArgs sComing) (defBody sComing) (defScope sComing) .none kVd19 dcd19 pmd19 and19 cdd19 ctd19), sld19⟩)
    (cd19 : PySem.W.codeIn K cdd19 "coming_to" = true)
    (kd19 : PySem.W.keepIn K (.ref fd19) = true)
    (ad20 : PySem.W.nsIn K mainGlobals "check_row" = some (some (.ref fd20)))
    (ld20 : K.lookup fd20 = some ⟨ocd20, odd20, .func (PySem.W.fnOf "check_row" "check_row" (defArgs sChkRow) (defBody sChkRow) (defScope sChkRow) .none kVd20 dcd20 pmd20 and20 cdd20 ctd20), sld20⟩)
    (cd20 : PySem.W.codeIn K cdd20 "check_row" = true)
    (kd20 : PySem.W.keepIn K (.ref fd20) = true)
    (ad21 : PySem.W.nsIn K mainGlobals "worths" = some (some (.ref fd21)))
    (ld21 : K.lookup fd21 = some ⟨ocd21, odd21, .func (PySem.W.fnOf "worths" "worths" (defArgs sWorths) (defBody sWorths) (defScope sWorths) .none kVd21 dcd21 pmd21 and21 cdd21 ctd21), sld21⟩)
    (cd21 : PySem.W.codeIn K cdd21 "worths" = true)
    (kd21 : PySem.W.keepIn K (.ref fd21) = true)
    (ad22 : PySem.W.nsIn K mainGlobals "wire_behind" = some (some (.ref fd22)))
    (ld22 : K.lookup fd22 = some ⟨ocd22, odd22, .func (PySem.W.fnOf "wire_behind" "wire_behind" (defArgs sBehind) (defBody sBehind) (defScope sBehind) .none kVd22 dcd22 pmd22 and22 cdd22 ctd22), sld22⟩)
    (cd22 : PySem.W.codeIn K cdd22 "wire_behind" = true)
    (kd22 : PySem.W.keepIn K (.ref fd22) = true)
    (ad23 : PySem.W.nsIn K mainGlobals "net_behind" = some (some (.ref fd23)))
    (ld23 : K.lookup fd23 = some ⟨ocd23, odd23, .func (PySem.W.fnOf "net_behind" "net_behind" (defArgs sNetBehind) (defBody sNetBehind) (defScope sNetBehind) .none kVd23 dcd23 pmd23 and23 cdd23 ctd23), sld23⟩)
    (cd23 : PySem.W.codeIn K cdd23 "net_behind" = true)
    (kd23 : PySem.W.keepIn K (.ref fd23) = true)
    (ad24 : PySem.W.nsIn K mainGlobals "beat" = some (some (.ref fd24)))
    (ld24 : K.lookup fd24 = some ⟨ocd24, odd24, .func (PySem.W.fnOf "beat" "beat" (defArgs sBeat) (defBody sBeat) (defScope sBeat) .none kVd24 dcd24 pmd24 and24 cdd24 ctd24), sld24⟩)
    (cd24 : PySem.W.codeIn K cdd24 "beat" = true)
    (kd24 : PySem.W.keepIn K (.ref fd24) = true)
    (ad25 : PySem.W.nsIn K mainGlobals "run" = some (some (.ref fd25)))
    (ld25 : K.lookup fd25 = some ⟨ocd25, odd25, .func (PySem.W.fnOf "run" "run" (defArgs sRun) (defBody sRun) (defScope sRun) .none kVd25 dcd25 pmd25 and25 cdd25 ctd25), sld25⟩)
    (cd25 : PySem.W.codeIn K cdd25 "run" = true)
    (kd25 : PySem.W.keepIn K (.ref fd25) = true)
    (ad26 : PySem.W.nsIn K mainGlobals "_law_cell_at" = some (some (.ref fd26)))
    (ld26 : K.lookup fd26 = some ⟨ocd26, odd26, .func (PySem.W.fnOf "_law_cell_at" "_law_cell_at" (defArgs sCellAt) (defBody sCellAt) (defScope sCellAt) .none kVd26 dcd26 pmd26 and26 cdd26 ctd26), sld26⟩)
    (cd26 : PySem.W.codeIn K cdd26 "_law_cell_at" = true)
    (kd26 : PySem.W.keepIn K (.ref fd26) = true)
    (ad27 : PySem.W.nsIn K mainGlobals "_law_well" = some (some (.ref fd27)))
    (ld27 : K.lookup fd27 = some ⟨ocd27, odd27, .func (PySem.W.fnOf "_law_well" "_law_well" (defArgs sWell) (defBody sWell) (defScope sWell) .none kVd27 dcd27 pmd27 and27 cdd27 ctd27), sld27⟩)
    (cd27 : PySem.W.codeIn K cdd27 "_law_well" = true)
    (kd27 : PySem.W.keepIn K (.ref fd27) = true)
    (ad28 : PySem.W.nsIn K mainGlobals "_law_draw" = some (some (.ref fd28)))
    (ld28 : K.lookup fd28 = some ⟨ocd28, odd28, .func (PySem.W.fnOf "_law_draw" "_law_draw" (defArgs sDraw) (defBody sDraw) (defScope sDraw) .none kVd28 dcd28 pmd28 and28 cdd28 ctd28), sld28⟩)
    (cd28 : PySem.W.codeIn K cdd28 "_law_draw" = true)
    (kd28 : PySem.W.keepIn K (.ref fd28) = true)
    (ad29 : PySem.W.nsIn K mainGlobals "_law_one" = some (some (.ref fd29)))
    (ld29 : K.lookup fd29 = some ⟨ocd29, odd29, .func (PySem.W.fnOf "_law_one" "_law_one" (defArgs sOne) (defBody sOne) (defScope sOne) .none kVd29 dcd29 pmd29 and29 cdd29 ctd29), sld29⟩)
    (cd29 : PySem.W.codeIn K cdd29 "_law_one" = true)
    (kd29 : PySem.W.keepIn K (.ref fd29) = true)
    (ad30 : PySem.W.nsIn K mainGlobals "_law_gate" = some (some (.ref fd30)))
    (ld30 : K.lookup fd30 = some ⟨ocd30, odd30, .func (PySem.W.fnOf "_law_gate" "_law_gate" (defArgs sGate) (defBody sGate) (defScope sGate) .none kVd30 dcd30 pmd30 and30 cdd30 ctd30), sld30⟩)
    (cd30 : PySem.W.codeIn K cdd30 "_law_gate" = true)
    (kd30 : PySem.W.keepIn K (.ref fd30) = true)
    (ad31 : PySem.W.nsIn K mainGlobals "_law_wire" = some (some (.ref fd31)))
    (ld31 : K.lookup fd31 = some ⟨ocd31, odd31, .func (PySem.W.fnOf "_law_wire" "_law_wire" (defArgs sWire) (defBody sWire) (defScope sWire) .none kVd31 dcd31 pmd31 and31 cdd31 ctd31), sld31⟩)
    (cd31 : PySem.W.codeIn K cdd31 "_law_wire" = true)
    (kd31 : PySem.W.keepIn K (.ref fd31) = true)
    (ad32 : PySem.W.nsIn K mainGlobals "_law_parts" = some (some (.ref fd32)))
    (ld32 : K.lookup fd32 = some ⟨ocd32, odd32, .func (PySem.W.fnOf "_law_parts" "_law_parts" (defArgs sParts) (defBody sParts) (defScope sParts) .none kVd32 dcd32 pmd32 and32 cdd32 ctd32), sld32⟩)
    (cd32 : PySem.W.codeIn K cdd32 "_law_parts" = true)
    (kd32 : PySem.W.keepIn K (.ref fd32) = true)
    (ad33 : PySem.W.nsIn K mainGlobals "_law_rows" = some (some (.ref fd33)))
    (ld33 : K.lookup fd33 = some ⟨ocd33, odd33, .func (PySem.W.fnOf "_law_rows" "_law_rows" (defArgs sRows) (defBody sRows) (defScope sRows) .none kVd33 dcd33 pmd33 and33 cdd33 ctd33), sld33⟩)
    (cd33 : PySem.W.codeIn K cdd33 "_law_rows" = true)
    (kd33 : PySem.W.keepIn K (.ref fd33) = true)
    (ad34 : PySem.W.nsIn K mainGlobals "_law_bad" = some (some (.ref fd34)))
    (ld34 : K.lookup fd34 = some ⟨ocd34, odd34, .func (PySem.W.fnOf "_law_bad" "_law_bad" (defArgs sBad) (defBody sBad) (defScope sBad) .none kVd34 dcd34 pmd34 and34 cdd34 ctd34), sld34⟩)
    (cd34 : PySem.W.codeIn K cdd34 "_law_bad" = true)
    (kd34 : PySem.W.keepIn K (.ref fd34) = true)
    (ad35 : PySem.W.nsIn K mainGlobals "_law_refused" = some (some (.ref fd35)))
    (ld35 : K.lookup fd35 = some ⟨ocd35, odd35, .func (PySem.W.fnOf "_law_refused" "_law_refused" (defArgs sRefused) (defBody sRefused) (defScope sRefused) .none kVd35 dcd35 pmd35 and35 cdd35 ctd35), sld35⟩)
    (cd35 : PySem.W.codeIn K cdd35 "_law_refused" = true)
    (kd35 : PySem.W.keepIn K (.ref fd35) = true)
    (ad36 : PySem.W.nsIn K mainGlobals "_law_right" = some (some (.ref fd36)))
    (ld36 : K.lookup fd36 = some ⟨ocd36, odd36, .func (PySem.W.fnOf "_law_right" "_law_right" (defArgs sRight) (defBody sRight) (defScope sRight) .none kVd36 dcd36 pmd36 and36 (.ref cL) ctd36), sld36⟩)
    (cd36 : PySem.W.codeIn K (.ref cL) "_law_right" = true)
    (kd36 : PySem.W.keepIn K (.ref fd36) = true)
    (ad37 : PySem.W.nsIn K mainGlobals "law" = some (some (.ref fd37)))
    (ld37 : K.lookup fd37 = some ⟨ocd37, odd37, .func (PySem.W.fnOf "law" "law" (defArgs sLaw) (defBody sLaw) (defScope sLaw) .none kVd37 dcd37 pmd37 and37 cdd37 ctd37), sld37⟩)
    (cd37 : PySem.W.codeIn K cdd37 "law" = true)
    (kd37 : PySem.W.keepIn K (.ref fd37) = true)
    (am0 : PySem.W.findIn K (.ref C) "__init__" = some (some (.ref fm0)))
    (im0 : PySem.W.isFn K (.ref fm0) = true)
    (lm0 : K.lookup fm0 = some ⟨ocm0, odm0, .func (PySem.W.fnOf "__init__" "Net.__init__" (defArgs sInit) (defBody sInit) (defScope sInit) .none kVm0 dcm0 pmm0 anm0 cdm0 ctm0), slm0⟩)
    (cm0 : PySem.W.codeIn K cdm0 "Net.__init__" = true)
    (km0 : PySem.W.keepIn K (.ref fm0) = true)
    (am1 : PySem.W.findIn K (.ref C) "ins" = some (some (.ref fm1)))
    (im1 : PySem.W.isFn K (.ref fm1) = true)
    (lm1 : K.lookup fm1 = some ⟨ocm1, odm1, .func (PySem.W.fnOf "ins" "Net.ins" (defArgs sIns) (defBody sIns) (defScope sIns) .none kVm1 dcm1 pmm1 anm1 cdm1 ctm1), slm1⟩)
    (cm1 : PySem.W.codeIn K cdm1 "Net.ins" = true)
    (km1 : PySem.W.keepIn K (.ref fm1) = true)
    (am2 : PySem.W.findIn K (.ref C) "outs" = some (some (.ref fm2)))
    (im2 : PySem.W.isFn K (.ref fm2) = true)
    (lm2 : K.lookup fm2 = some ⟨ocm2, odm2, .func (PySem.W.fnOf "outs" "Net.outs" (defArgs sOuts) (defBody sOuts) (defScope sOuts) .none kVm2 dcm2 pmm2 anm2 cdm2 ctm2), slm2⟩)
    (cm2 : PySem.W.codeIn K cdm2 "Net.outs" = true)
    (km2 : PySem.W.keepIn K (.ref fm2) = true)
    (am3 : PySem.W.findIn K (.ref C) "__eq__" = some (some (.ref fm3)))
    (im3 : PySem.W.isFn K (.ref fm3) = true)
    (lm3 : K.lookup fm3 = some ⟨ocm3, odm3, .func (PySem.W.fnOf "__eq__" "Net.__eq__" (defArgs sEq) (defBody sEq) (defScope sEq) .none kVm3 dcm3 pmm3 anm3 cdm3 ctm3), slm3⟩)
    (cm3 : PySem.W.codeIn K cdm3 "Net.__eq__" = true)
    (km3 : PySem.W.keepIn K (.ref fm3) = true)
    (pgC : PySem.W.plainGet K C Str.empty = true)
    (hdC : PySem.W.hasDictIn K C = true)
    (poC : PySem.W.plainOver K C = true)
    (saC : PySem.W.findIn K (.ref C) "__setattr__" = some (some (.builtin "object.__setattr__")))
    (mkC : PySem.W.makesIn K C = true)
    (kcC : PySem.W.keepIn K (.ref C) = true)
    (nG : PySem.W.findIn K (.ref C) "gates" = some none)
    (nW : PySem.W.findIn K (.ref C) "wires" = some none)
    (ha : PySem.W.findIn K (.ref C) "__class__" = some (some (.builtin "object.__class__")))
    (hn : PySem.W.specialIn K (.builtin "object.__class__") "__get__" = some (some (.builtin "getset_descriptor.__get__")))
    (htk : PySem.W.takesIn K (.builtin "object.__class__") = some true)
    (hmo : PySem.W.mroIn K C (.type "object") = some true)
    (zisi : PySem.W.nsIn K mainGlobals "isinstance" = some none)
    (zint : PySem.W.nsIn K mainGlobals "int" = some none)
    (zbool : PySem.W.nsIn K mainGlobals "bool" = some none)
    (zlen : PySem.W.nsIn K mainGlobals "len" = some none)
    (ztuple : PySem.W.nsIn K mainGlobals "tuple" = some none)
    (zstr : PySem.W.nsIn K mainGlobals "str" = some none)
    (zlist : PySem.W.nsIn K mainGlobals "list" = some none)
    (zall : PySem.W.nsIn K mainGlobals "all" = some none)
    (zenum : PySem.W.nsIn K mainGlobals "enumerate" = some none)
    (zzip : PySem.W.nsIn K mainGlobals "zip" = some none)
    (zrange : PySem.W.nsIn K mainGlobals "range" = some none)
    (zmax : PySem.W.nsIn K mainGlobals "max" = some none)
    (zsum : PySem.W.nsIn K mainGlobals "sum" = some none)
    (zmin : PySem.W.nsIn K mainGlobals "min" = some none)
    (zrepr : PySem.W.nsIn K mainGlobals "repr" = some none)
    (zVE : PySem.W.nsIn K mainGlobals "ValueError" = some none)
    (gGW : PySem.W.nsIn K mainGlobals "GREATEST_WORTH" = some (some (.int 96 tGW)))
    (gGA : PySem.W.nsIn K mainGlobals "GREATEST_WAIT" = some (some (.int 100 tGA)))
    (gGD : PySem.W.nsIn K mainGlobals "DIVISOR" = some (some (.int 97 tGD)))
    (aNR : PySem.W.nsIn K mainGlobals "NoRow" = some (some (.ref CR)))
    (qNR : PySem.W.excIn K CR [.type "ValueError", .type "Exception", .type "BaseException", .type "object"] "ValueError.__new__" = true)
    (kkNR : PySem.W.keepIn K (.ref CR) = true)
    (eNR : PySem.W.subIn K (.ref CR) (.type "BaseException") = some true)
    (ttNR : PySem.W.typeIn K (.ref CR) = some (.type "type"))
    (ciNR : PySem.W.isClsIn K CR = true)
    (sNR : PySem.W.subIn K (.ref CR) (.ref CR) = some true)
    (xgNR : PySem.W.findIn K (.ref CR) "__getattribute__" = some (some (.builtin "BaseException.__getattribute__")))
    (xkNR : PySem.W.findIn K (.ref CR) "__getattr__" = some none)
    (xdNR : PySem.W.hasDictIn K CR = true)
    (xaNR : PySem.W.findIn K (.ref CR) "__class__" = some (some (.builtin "object.__class__")))
    (xmNR : PySem.W.mroIn K CR (.type "object") = some true)
    (aL0 : PySem.W.nsIn K mainGlobals "LagError" = some (some (.ref C0)))
    (aNW : PySem.W.nsIn K mainGlobals "NoWires" = some (some (.ref CW)))
    (iNW : PySem.W.isClsIn K CW = true)
    (tNW : PySem.W.typeIn K (.ref CW) = some (.type "type"))
    (sRW : PySem.W.subIn K (.ref CR) (.ref CW) = some false)
    (sRV : PySem.W.subIn K (.ref CR) (.type "ValueError") = some true)
    (xn : PySem.W.specialIn K (.builtin "object.__class__") "__get__" = some (some (.builtin "getset_descriptor.__get__")))
    (xt : PySem.W.takesIn K (.builtin "object.__class__") = some true)
    (ccL : K.lookup cL = some ⟨eL, ddL, .fields vsL, sxL⟩)
    (h11 : vsL[11]? = some (.ref Pt))
    (hPt : K.lookup Pt = none)
    (hch : PySem.W.codeHdIn K cL Pt = true)
    (gK : PySem.W.nsIn K mainGlobals "KINDS" = some (some (.ref aK)))
    (oK : K.lookup aK = some ⟨.type "tuple", ddK, .seq #[.str "in" tK0, .str "out" tK1, .str "sum" tK2, .str "times" tK3, .str "most" tK4, .str "least" tK5, .str "first" tK6, .str "one" tK7] nnK, ssK⟩)
    (gW : PySem.W.nsIn K mainGlobals "OUTER_KINDS" = some (some (.ref aW)))
    (oW : K.lookup aW = some ⟨.type "tuple", ddW, .seq #[.str "in" tW0, .str "out" tW1] nnW, ssW⟩)
    (gF : PySem.W.nsIn K mainGlobals "KINDS_WITH_A_WIRE" = some (some (.ref aF)))
    (oF : K.lookup aF = some ⟨.type "tuple", ddF, .seq #[.str "out" tF0, .str "first" tF1] nnF, ssF⟩)
    (gR : PySem.W.nsIn K mainGlobals "RULES" = some (some (.ref aR)))
    (oR : K.lookup aR = some ⟨.type "dict", none, .dict esR nnR, #[]⟩)
    (lR : PySem.W.KeysLit w.params esR.toList)
    (r0 : PySem.W.nsIn K aR "out" = some (some (.ref fd16)))
    (r1 : PySem.W.nsIn K aR "sum" = some (some (.ref fd12)))
    (r2 : PySem.W.nsIn K aR "times" = some (some (.ref fd13)))
    (r3 : PySem.W.nsIn K aR "most" = some (some (.ref fd14)))
    (r4 : PySem.W.nsIn K aR "least" = some (some (.ref fd15)))
    (r5 : PySem.W.nsIn K aR "first" = some (some (.ref fd16)))
    (r6 : PySem.W.nsIn K aR "one" = some (some (.ref fd17))) :
    LawAtG l w K CX0 14 63 "_law_script" mg fa h := by
  have e := hfa.symm.trans (PySem.W.mg_of X G ad37)
  cases e
  have Fd0 := fun_mk (st := sWhole) ld0 cd0 kd0
  have Fd1 := fun_mk (st := sFromTo) ld1 cd1 kd1
  have Fd2 := fun_mk (st := sWorth) ld2 cd2 kd2
  have Fd3 := fun_mk (st := sIsGate) ld3 cd3 kd3
  have Fd4 := fun_mk (st := sChkGates) ld4 cd4 kd4
  have Fd5 := fun_mk (st := sIsWire) ld5 cd5 kd5
  have Fd6 := fun_mk (st := sTaken) ld6 cd6 kd6
  have Fd7 := fun_mk (st := sChkWires) ld7 cd7 kd7
  have Fd8 := fun_mk (st := sAlong) ld8 cd8 kd8
  have Fd9 := fun_mk (st := sOrder) ld9 cd9 kd9
  have Fd10 := fun_mk (st := sChkRings) ld10 cd10 kd10
  have Fd11 := fun_mk (st := sPlaces) ld11 cd11 kd11
  have Fd12 := fun_mk (st := sSumOf) ld12 cd12 kd12
  have Fd13 := fun_mk (st := sProdOf) ld13 cd13 kd13
  have Fd14 := fun_mk (st := sMostOf) ld14 cd14 kd14
  have Fd15 := fun_mk (st := sLeastOf) ld15 cd15 kd15
  have Fd16 := fun_mk (st := sFirstOf) ld16 cd16 kd16
  have Fd17 := fun_mk (st := sOneOf) ld17 cd17 kd17
  have Fd18 := fun_mk (st := sWireWorth) ld18 cd18 kd18
  have Fd19 := fun_mk (st := sComing) ld19 cd19 kd19
  have Fd20 := fun_mk (st := sChkRow) ld20 cd20 kd20
  have Fd21 := fun_mk (st := sWorths) ld21 cd21 kd21
  have Fd22 := fun_mk (st := sBehind) ld22 cd22 kd22
  have Fd23 := fun_mk (st := sNetBehind) ld23 cd23 kd23
  have Fd24 := fun_mk (st := sBeat) ld24 cd24 kd24
  have Fd25 := fun_mk (st := sRun) ld25 cd25 kd25
  have Fd26 := fun_mk (st := sCellAt) ld26 cd26 kd26
  have Fd27 := fun_mk (st := sWell) ld27 cd27 kd27
  have Fd28 := fun_mk (st := sDraw) ld28 cd28 kd28
  have Fd29 := fun_mk (st := sOne) ld29 cd29 kd29
  have Fd30 := fun_mk (st := sGate) ld30 cd30 kd30
  have Fd31 := fun_mk (st := sWire) ld31 cd31 kd31
  have Fd32 := fun_mk (st := sParts) ld32 cd32 kd32
  have Fd33 := fun_mk (st := sRows) ld33 cd33 kd33
  have Fd34 := fun_mk (st := sBad) ld34 cd34 kd34
  have Fd35 := fun_mk (st := sRefused) ld35 cd35 kd35
  have Fd36 := fun_mk (st := sRight) ld36 cd36 kd36
  have Fd37 := fun_mk (st := sLaw) ld37 cd37 kd37
  have Fm0 := fun_mk (st := sInit) lm0 cm0 km0
  have Fm1 := fun_mk (st := sIns) lm1 cm1 km1
  have Fm2 := fun_mk (st := sOuts) lm2 cm2 km2
  have Fm3 := fun_mk (st := sEq) lm3 cm3 km3
  have B : Bt mg := ⟨PySem.W.mg_none_of X G zisi, PySem.W.mg_none_of X G zint, PySem.W.mg_none_of X G zbool, PySem.W.mg_none_of X G zlen, PySem.W.mg_none_of X G ztuple, PySem.W.mg_none_of X G zstr, PySem.W.mg_none_of X G zlist, PySem.W.mg_none_of X G zall, PySem.W.mg_none_of X G zenum, PySem.W.mg_none_of X G zzip, PySem.W.mg_none_of X G zrange, PySem.W.mg_none_of X G zmax⟩
  have Cn : Cns K mg aK aW aF := ⟨⟨_, PySem.W.mg_of X G gGW⟩, ⟨_, PySem.W.mg_of X G gGA⟩, PySem.W.mg_of X G gK, fun _ => .inr ⟨_, _, _, oK, rfl, rfl, (by show 8 ≤ sizeLine; decide), .cons ⟨_, rfl⟩ (.cons ⟨_, rfl⟩ (.cons ⟨_, rfl⟩ (.cons ⟨_, rfl⟩ (.cons ⟨_, rfl⟩ (.cons ⟨_, rfl⟩ (.cons ⟨_, rfl⟩ (.cons ⟨_, rfl⟩ (.nil))))))))⟩, PySem.W.mg_of X G gW, fun _ => .inr ⟨_, _, _, oW, rfl, rfl, (by show 2 ≤ sizeLine; decide), .cons ⟨_, rfl⟩ (.cons ⟨_, rfl⟩ (.nil))⟩, PySem.W.mg_of X G gF, fun _ => .inr ⟨_, _, _, oF, rfl, rfl, (by show 2 ≤ sizeLine; decide), .cons ⟨_, rfl⟩ (.cons ⟨_, rfl⟩ (.nil))⟩⟩
  have T : NT K mg C := ⟨⟨pgC, hdC, poC, saC⟩, nG, nW, PySem.W.mg_of X G aC⟩
  have Y : NTy K C := ⟨ha, hn, htk, hmo⟩
  have bm0 := Fm0.binds (ps := ["self", "gates", "wires"]) fun _ _ _ _ _ _ us hl => match us, hl with | [_, _, _], _ => rfl
  have bm1 := Fm1.binds (ps := ["self"]) fun _ _ _ _ _ _ us hl => match us, hl with | [_], _ => rfl
  have bm2 := Fm2.binds (ps := ["self"]) fun _ _ _ _ _ _ us hl => match us, hl with | [_], _ => rfl
  have bm3 := Fm3.binds (ps := ["self", "other"]) fun _ _ _ _ _ _ us hl => match us, hl with | [_, _], _ => rfl
  have bd16 := Fd16.binds (ps := ["coming"]) fun _ _ _ _ _ _ us hl => match us, hl with | [_], _ => rfl
  have bd15 := Fd15.binds (ps := ["coming"]) fun _ _ _ _ _ _ us hl => match us, hl with | [_], _ => rfl
  have bd14 := Fd14.binds (ps := ["coming"]) fun _ _ _ _ _ _ us hl => match us, hl with | [_], _ => rfl
  have bd17 := Fd17.binds (ps := ["coming"]) fun _ _ _ _ _ _ us hl => match us, hl with | [_], _ => rfl
  have bd13 := Fd13.binds (ps := ["coming"]) fun _ _ _ _ _ _ us hl => match us, hl with | [_], _ => rfl
  have bd12 := Fd12.binds (ps := ["coming"]) fun _ _ _ _ _ _ us hl => match us, hl with | [_], _ => rfl
  refine ⟨PySem.W.fnOf "law" "law" (defArgs sLaw) (defBody sLaw) (defScope sLaw) .none kVd37 dcd37 pmd37 and37 cdd37 ctd37, cL, Pt, spLawT K Pt, own _ (PySem.W.mg_of X G ad36) cL Pt _ _ _ _ _ _ ld36 rfl rfl ccL h11, hPt, PySem.W.codeHd_of_K X hch, fun s v => .of_eq rfl, fun H a ns hl hH hS => ⟨a, ns, rfl, hH, hS, hl, fun _ => rfl⟩, fun base _ _ TB => ?_⟩
  have whole := ok_whole (P := l.prog) (w := w) (base := base) Fd0 (PySem.W.mg_of X G ad0) B
  have ft := ok_fromTo (P := l.prog) (w := w) (base := base) Fd1 (PySem.W.mg_of X G ad1) whole
  have wo := ok_worth (P := l.prog) (w := w) (base := base) Fd2 (PySem.W.mg_of X G ad2) Cn ft
  have ig := ok_isGate (P := l.prog) (w := w) (base := base) Fd3 (PySem.W.mg_of X G ad3) B Cn ft
  have cg := ok_chkGates (P := l.prog) (w := w) (base := base) Fd4 (PySem.W.mg_of X G ad4) B ig
  have iw := ok_isWire (P := l.prog) (w := w) (base := base) Fd5 (PySem.W.mg_of X G ad5) B ft wo
  have tk := ok_taken (P := l.prog) (w := w) (base := base) Fd6 (PySem.W.mg_of X G ad6)
  have cw := ok_chkWires (P := l.prog) (w := w) (base := base) Fd7 (PySem.W.mg_of X G ad7) B Cn iw tk
  have al := ok_along (P := l.prog) (w := w) (base := base) Fd8 (PySem.W.mg_of X G ad8) B
  have od := ok_order (P := l.prog) (w := w) (base := base) Fd9 (PySem.W.mg_of X G ad9) B al
  have cr := ok_chkRings (P := l.prog) (w := w) (base := base) Fd10 (PySem.W.mg_of X G ad10) B od
  have pl := ok_places (P := l.prog) (w := w) (base := base) Fd11 (PySem.W.mg_of X G ad11) B
  have ca := ok_cellAt (P := l.prog) (w := w) (base := base) Fd26 (PySem.W.mg_of X G ad26) B.len
  have we := ok_well (P := l.prog) (w := w) (base := base) Fd27 (PySem.W.mg_of X G ad27) B.int
  have dr := ok_draw (P := l.prog) (w := w) (base := base) Fd28 (PySem.W.mg_of X G ad28)
  have on := ok_one (P := l.prog) (w := w) (base := base) Fd29 (PySem.W.mg_of X G ad29) dr B.len
  have ga := ok_gate (P := l.prog) (w := w) (base := base) Fd30 (PySem.W.mg_of X G ad30) dr on
  have wi := ok_wire (P := l.prog) (w := w) (base := base) Fd31 (PySem.W.mg_of X G ad31) dr on B.max B.tuple B.range
  have pa := ok_parts (P := l.prog) (w := w) (base := base) Fd32 (PySem.W.mg_of X G ad32) dr on ga wi B.enum B.range B.len B.list
  have md : ∃ t, mg "DIVISOR" = some (.int 97 t) := ⟨_, PySem.W.mg_of X G gGD⟩
  have RL : Rl l.prog w K mg base aR := by
    refine ⟨PySem.W.mg_of X G gR, fun k hk hki => ?_⟩
    rcases kind_of k hk with h | h | h | h | h | h | h | h
    · exact absurd h hki
    · subst h
      exact ⟨fd16, _, ⟨esR, nnR, _, oR, lR, r0, rfl⟩, ok_firstOf (k := "out") (.inl rfl) Fd16, kd16, bd16⟩
    · subst h
      exact ⟨fd12, _, ⟨esR, nnR, _, oR, lR, r1, rfl⟩, ok_sumOf Fd12 (PySem.W.mg_none_of X G zsum) md, kd12, bd12⟩
    · subst h
      exact ⟨fd13, _, ⟨esR, nnR, _, oR, lR, r2, rfl⟩, ok_prodOf Fd13 md, kd13, bd13⟩
    · subst h
      exact ⟨fd14, _, ⟨esR, nnR, _, oR, lR, r3, rfl⟩, ok_mostOf Fd14 B.max, kd14, bd14⟩
    · subst h
      exact ⟨fd15, _, ⟨esR, nnR, _, oR, lR, r4, rfl⟩, ok_leastOf Fd15 (PySem.W.mg_none_of X G zmin) ⟨_, PySem.W.mg_of X G gGW⟩, kd15, bd15⟩
    · subst h
      exact ⟨fd16, _, ⟨esR, nnR, _, oR, lR, r5, rfl⟩, ok_firstOf (k := "first") (.inr rfl) Fd16, kd16, bd16⟩
    · subst h
      exact ⟨fd17, _, ⟨esR, nnR, _, oR, lR, r6, rfl⟩, ok_oneOf Fd17 B.max, kd17, bd17⟩
  have init := ok_init (P := l.prog) (w := w) (base := base) Fm0 T B cg cw cr
  have MK : Mk K C fm0 := ⟨mkC, am0, im0, kcC⟩
  have ins := ok_ins (P := l.prog) (w := w) (base := base) Fm1 T pl
  have outs := ok_outs (P := l.prog) (w := w) (base := base) Fm2 T pl
  have mN : Meth K C "ins" fm1 := ⟨am1, im1, km1⟩
  have mO : Meth K C "outs" fm2 := ⟨am2, im2, km2⟩
  have ww := ok_wireWorth (P := l.prog) (w := w) (base := base) Fd18 (PySem.W.mg_of X G ad18) B
  have cm := ok_coming (P := l.prog) (w := w) (base := base) Fd19 (PySem.W.mg_of X G ad19) ww
  have chr := ok_chkRow (P := l.prog) (w := w) (base := base) Fd20 (PySem.W.mg_of X G ad20) B T wo ins mN bm1
  have wsx := ok_worths (P := l.prog) (w := w) (base := base) Fd21 (PySem.W.mg_of X G ad21) B T RL chr od cm ins mN bm1
  have bhd := ok_behind (P := l.prog) (w := w) (base := base) Fd22 (PySem.W.mg_of X G ad22) B
  have nbh := ok_netBehind (P := l.prog) (w := w) (base := base) Fd23 (PySem.W.mg_of X G ad23) T bhd MK init bm0
  have bt := ok_beat (P := l.prog) (w := w) (base := base) Fd24 (PySem.W.mg_of X G ad24) T wsx nbh outs mO bm2
  have rn := ok_run (P := l.prog) (w := w) (base := base) Fd25 (PySem.W.mg_of X G ad25) B T bt MK init bm0
  have rws := ok_rows (P := l.prog) (w := w) (base := base) Fd33 (PySem.W.mg_of X G ad33) B dr on
  have Z : NC l.prog w K mg base C fm0 fm3 fm2 _ _ _ := ⟨T, Y, MK, init, bm0, ok_eqN Fm3 T Y B, am3, im3, bm3, outs, mO, bm2⟩
  have NR : PEx K mg "NoRow" CR := ⟨PySem.W.mg_of X G aNR, qNR, kkNR, eNR, ttNR, exm_self eNR ciNR ttNR sNR⟩
  have whD := ok_wholeD (P := l.prog) (w := w) (base := base) Fd0 B
  have ftD := ok_fromToD (P := l.prog) (w := w) (base := base) Fd1 whole whD
  have woD := ok_worthD (P := l.prog) (w := w) (base := base) Fd2 Cn ft ftD
  have crX := ok_chkRowX (P := l.prog) (w := w) (base := base) Fd20 B T wo woD ins mN bm1 NR
  have wsX := ok_worthsX (P := l.prog) (w := w) (base := base) Fd21 chr crX
  have btX := ok_beatX (P := l.prog) (w := w) (base := base) Fd24 wsx wsX
  have rnX := ok_runX (P := l.prog) (w := w) (base := base) Fd25 B T bt btX MK init bm0 NR
  have bad := ok_bad (P := l.prog) (w := w) (base := base) Fd34 (PySem.W.mg_of X G ad34) B dr on
  have bF := Fd35.binds (ps := ["_law_ask"]) fun _ _ _ _ _ _ us hl => match us, hl with | [_], _ => rfl
  have bRi := Fd36.binds (ps := ["_law_well_here"]) fun _ _ _ _ _ _ us hl => match us, hl with | [_], _ => rfl
  have RC : RefC K mg C0 CR CW := ⟨PySem.W.mg_of X G aL0, PySem.W.mg_of X G aNR, PySem.W.mg_of X G aNW, PySem.W.mg_none_of X G zVE, B.isi, exm_self eNR ciNR ttNR sNR, kit_type (by decide +kernel) sRV, kit_not iNW tNW sNR sRW, ⟨xgNR, xkNR, eNR, xdNR, xaNR, xn, xt, xmNR⟩⟩
  have FR := ok_right (P := l.prog) (w := w) (base := base) ld36 cd36 TB ld35 cd35 (PySem.W.mg_of X G ad35) kd35 bF RC B (PySem.W.mg_none_of X G zrepr) Z ins mN bm1 dr on pa bad rws wsx bt rn wsX btX rnX
  exact ok_law Fd37 ca we FR (PySem.W.mg_of X G ad36) kd36 bRi
end Lag

set_option maxRecDepth 100000
open PySem PySem.W PyProof.Rows
set_option maxRecDepth 100000 in
set_option maxHeartbeats 0 in
theorem PySem.Challenge.cw_lagshift_k13_rows_refused_holds : PySem.Challenge.rw_lagshift_k13_rows_refused.Holds := by
  w_on; o_law; k_head; (case hw => w_witness2)
  k_fill
  refine Lag.walkGT_of (l := PySem.Challenge.rw_lagshift_k13_rows_refused) (n := 63) (k := 14) (x := "_law_script") (y := "_law_right") (CX := fun _ => L2.CX0) rfl (by decide) rfl ⟨rfl, by decide, by decide⟩ (by decide +kernel) (fun w h Y => PySem.W.km_in_of Y) ?F (fun _ _ _ _ _ h => h)
  case F =>
    intro w mg fa h Y KX G hmg own
    refine' Lag.all_mk KX G hmg own ?aC ?ad0 ?ld0 ?cd0 ?kd0 ?ad1 ?ld1 ?cd1 ?kd1 ?ad2 ?ld2 ?cd2 ?kd2 ?ad3 ?ld3 ?cd3 ?kd3 ?ad4 ?ld4 ?cd4 ?kd4 ?ad5 ?ld5 ?cd5 ?kd5 ?ad6 ?ld6 ?cd6 ?kd6 ?ad7 ?ld7 ?cd7 ?kd7 ?ad8 ?ld8 ?cd8 ?kd8 ?ad9 ?ld9 ?cd9 ?kd9 ?ad10 ?ld10 ?cd10 ?kd10 ?ad11 ?ld11 ?cd11 ?kd11 ?ad12 ?ld12 ?cd12 ?kd12 ?ad13 ?ld13 ?cd13 ?kd13 ?ad14 ?ld14 ?cd14 ?kd14 ?ad15 ?ld15 ?cd15 ?kd15 ?ad16 ?ld16 ?cd16 ?kd16 ?ad17 ?ld17 ?cd17 ?kd17 ?ad18 ?ld18 ?cd18 ?kd18 ?ad19 ?ld19 ?cd19 ?kd19 ?ad20 ?ld20 ?cd20 ?kd20 ?ad21 ?ld21 ?cd21 ?kd21 ?ad22 ?ld22 ?cd22 ?kd22 ?ad23 ?ld23 ?cd23 ?kd23 ?ad24 ?ld24 ?cd24 ?kd24 ?ad25 ?ld25 ?cd25 ?kd25 ?ad26 ?ld26 ?cd26 ?kd26 ?ad27 ?ld27 ?cd27 ?kd27 ?ad28 ?ld28 ?cd28 ?kd28 ?ad29 ?ld29 ?cd29 ?kd29 ?ad30 ?ld30 ?cd30 ?kd30 ?ad31 ?ld31 ?cd31 ?kd31 ?ad32 ?ld32 ?cd32 ?kd32 ?ad33 ?ld33 ?cd33 ?kd33 ?ad34 ?ld34 ?cd34 ?kd34 ?ad35 ?ld35 ?cd35 ?kd35 ?ad36 ?ld36 ?cd36 ?kd36 ?ad37 ?ld37 ?cd37 ?kd37 ?am0 ?im0 ?lm0 ?cm0 ?km0 ?am1 ?im1 ?lm1 ?cm1 ?km1 ?am2 ?im2 ?lm2 ?cm2 ?km2 ?am3 ?im3 ?lm3 ?cm3 ?km3 ?pgC ?hdC ?poC ?saC ?mkC ?kcC ?nG ?nW ?ha ?hn ?htk ?hmo ?zisi ?zint ?zbool ?zlen ?ztuple ?zstr ?zlist ?zall ?zenum ?zzip ?zrange ?zmax ?zsum ?zmin ?zrepr ?zVE ?gGW ?gGA ?gGD ?aNR ?qNR ?kkNR ?eNR ?ttNR ?ciNR ?sNR ?xgNR ?xkNR ?xdNR ?xaNR ?xmNR ?aL0 ?aNW ?iNW ?tNW ?sRW ?sRV ?xn ?xt ?ccL ?h11 ?hPt ?hch ?gK ?oK ?gW ?oW ?gF ?oF ?gR ?oR ?lR ?r0 ?r1 ?r2 ?r3 ?r4 ?r5 ?r6
    (case aC => k_is)
    (case ad0 => k_is)
    (case ld0 => k_is)
    (case cd0 => k_is)
    (case kd0 => k_is)
    (case ad1 => k_is)
    (case ld1 => k_is)
    (case cd1 => k_is)
    (case kd1 => k_is)
    (case ad2 => k_is)
    (case ld2 => k_is)
    (case cd2 => k_is)
    (case kd2 => k_is)
    (case ad3 => k_is)
    (case ld3 => k_is)
    (case cd3 => k_is)
    (case kd3 => k_is)
    (case ad4 => k_is)
    (case ld4 => k_is)
    (case cd4 => k_is)
    (case kd4 => k_is)
    (case ad5 => k_is)
    (case ld5 => k_is)
    (case cd5 => k_is)
    (case kd5 => k_is)
    (case ad6 => k_is)
    (case ld6 => k_is)
    (case cd6 => k_is)
    (case kd6 => k_is)
    (case ad7 => k_is)
    (case ld7 => k_is)
    (case cd7 => k_is)
    (case kd7 => k_is)
    (case ad8 => k_is)
    (case ld8 => k_is)
    (case cd8 => k_is)
    (case kd8 => k_is)
    (case ad9 => k_is)
    (case ld9 => k_is)
    (case cd9 => k_is)
    (case kd9 => k_is)
    (case ad10 => k_is)
    (case ld10 => k_is)
    (case cd10 => k_is)
    (case kd10 => k_is)
    (case ad11 => k_is)
    (case ld11 => k_is)
    (case cd11 => k_is)
    (case kd11 => k_is)
    (case ad12 => k_is)
    (case ld12 => k_is)
    (case cd12 => k_is)
    (case kd12 => k_is)
    (case ad13 => k_is)
    (case ld13 => k_is)
    (case cd13 => k_is)
    (case kd13 => k_is)
    (case ad14 => k_is)
    (case ld14 => k_is)
    (case cd14 => k_is)
    (case kd14 => k_is)
    (case ad15 => k_is)
    (case ld15 => k_is)
    (case cd15 => k_is)
    (case kd15 => k_is)
    (case ad16 => k_is)
    (case ld16 => k_is)
    (case cd16 => k_is)
    (case kd16 => k_is)
    (case ad17 => k_is)
    (case ld17 => k_is)
    (case cd17 => k_is)
    (case kd17 => k_is)
    (case ad18 => k_is)
    (case ld18 => k_is)
    (case cd18 => k_is)
    (case kd18 => k_is)
    (case ad19 => k_is)
    (case ld19 => k_is)
    (case cd19 => k_is)
    (case kd19 => k_is)
    (case ad20 => k_is)
    (case ld20 => k_is)
    (case cd20 => k_is)
    (case kd20 => k_is)
    (case ad21 => k_is)
    (case ld21 => k_is)
    (case cd21 => k_is)
    (case kd21 => k_is)
    (case ad22 => k_is)
    (case ld22 => k_is)
    (case cd22 => k_is)
    (case kd22 => k_is)
    (case ad23 => k_is)
    (case ld23 => k_is)
    (case cd23 => k_is)
    (case kd23 => k_is)
    (case ad24 => k_is)
    (case ld24 => k_is)
    (case cd24 => k_is)
    (case kd24 => k_is)
    (case ad25 => k_is)
    (case ld25 => k_is)
    (case cd25 => k_is)
    (case kd25 => k_is)
    (case ad26 => k_is)
    (case ld26 => k_is)
    (case cd26 => k_is)
    (case kd26 => k_is)
    (case ad27 => k_is)
    (case ld27 => k_is)
    (case cd27 => k_is)
    (case kd27 => k_is)
    (case ad28 => k_is)
    (case ld28 => k_is)
    (case cd28 => k_is)
    (case kd28 => k_is)
    (case ad29 => k_is)
    (case ld29 => k_is)
    (case cd29 => k_is)
    (case kd29 => k_is)
    (case ad30 => k_is)
    (case ld30 => k_is)
    (case cd30 => k_is)
    (case kd30 => k_is)
    (case ad31 => k_is)
    (case ld31 => k_is)
    (case cd31 => k_is)
    (case kd31 => k_is)
    (case ad32 => k_is)
    (case ld32 => k_is)
    (case cd32 => k_is)
    (case kd32 => k_is)
    (case ad33 => k_is)
    (case ld33 => k_is)
    (case cd33 => k_is)
    (case kd33 => k_is)
    (case ad34 => k_is)
    (case ld34 => k_is)
    (case cd34 => k_is)
    (case kd34 => k_is)
    (case ad35 => k_is)
    (case ld35 => k_is)
    (case cd35 => k_is)
    (case kd35 => k_is)
    (case ad36 => k_is)
    (case ld36 => k_is)
    (case cd36 => k_is)
    (case kd36 => k_is)
    (case ad37 => k_is)
    (case ld37 => k_is)
    (case cd37 => k_is)
    (case kd37 => k_is)
    (case am0 => k_is)
    (case im0 => k_is)
    (case lm0 => k_is)
    (case cm0 => k_is)
    (case km0 => k_is)
    (case am1 => k_is)
    (case im1 => k_is)
    (case lm1 => k_is)
    (case cm1 => k_is)
    (case km1 => k_is)
    (case am2 => k_is)
    (case im2 => k_is)
    (case lm2 => k_is)
    (case cm2 => k_is)
    (case km2 => k_is)
    (case am3 => k_is)
    (case im3 => k_is)
    (case lm3 => k_is)
    (case cm3 => k_is)
    (case km3 => k_is)
    (case pgC => k_is)
    (case hdC => k_is)
    (case poC => k_is)
    (case saC => k_is)
    (case mkC => k_is)
    (case kcC => k_is)
    (case nG => k_is)
    (case nW => k_is)
    (case ha => k_is)
    (case hn => k_is)
    (case htk => k_is)
    (case hmo => k_is)
    (case zisi => k_is)
    (case zint => k_is)
    (case zbool => k_is)
    (case zlen => k_is)
    (case ztuple => k_is)
    (case zstr => k_is)
    (case zlist => k_is)
    (case zall => k_is)
    (case zenum => k_is)
    (case zzip => k_is)
    (case zrange => k_is)
    (case zmax => k_is)
    (case zsum => k_is)
    (case zmin => k_is)
    (case zrepr => k_is)
    (case zVE => k_is)
    (case gGW => k_is)
    (case gGA => k_is)
    (case gGD => k_is)
    (case aNR => k_is)
    (case qNR => k_exc)
    (case kkNR => k_is)
    (case eNR => k_is)
    (case ttNR => k_is)
    (case ciNR => k_is)
    (case sNR => k_is)
    (case xgNR => k_is)
    (case xkNR => k_is)
    (case xdNR => k_is)
    (case xaNR => k_is)
    (case xmNR => k_is)
    (case aL0 => k_is)
    (case aNW => k_is)
    (case iNW => k_is)
    (case tNW => k_is)
    (case sRW => k_is)
    (case sRV => k_is)
    (case xn => k_is)
    (case xt => k_is)
    (case ccL => k_is)
    (case h11 => rfl)
    (case hPt => first | kernel_rfl | rfl)
    (case hch => first | kernel_rfl | rfl)
    (case gK => k_is)
    (case oK => k_is)
    (case gW => k_is)
    (case oW => k_is)
    (case gF => k_is)
    (case oF => k_is)
    (case gR => k_is)
    (case oR => k_is)
    (case lR => exact ⟨⟨_, _, rfl, rfl⟩, ⟨_, _, rfl, rfl⟩, ⟨_, _, rfl, rfl⟩, ⟨_, _, rfl, rfl⟩, ⟨_, _, rfl, rfl⟩, ⟨_, _, rfl, rfl⟩, ⟨_, _, rfl, rfl⟩, trivial⟩)
    (case r0 => k_is)
    (case r1 => k_is)
    (case r2 => k_is)
    (case r3 => k_is)
    (case r4 => k_is)
    (case r5 => k_is)
    (case r6 => k_is)

