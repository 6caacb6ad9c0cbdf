import PyProof.Rows.All
import Wide.All
import OpenK.AllK
import Wide.FinOn
import HandS.ForMost
import HandS.IsInst
import HandS.Evl
import HandS.Flow
import HandS.Conv
import HandS.Wide
import HandS.Walk
import HandS.Zip
import HandS.OwnEq
import HandS.Style
import HandS.TupAny
import PyProof.Rows.NestShow
import HandS.WordsExc
import HandS.ExcOwn
import HandS.ExcField
import HandS.ExcInit
import HandS.TryOnly
import HandS.ExcIs
import HandS.TryMany
import KE.KNestM
import PySem.Challenge.RW_lagshift_k03_rings_without_registers
set_option Elab.async false
set_option linter.all false
set_option maxRecDepth 100000
set_option maxHeartbeats 4000000
namespace Lag
open PySem PySem.Spec PyProof.Rows L2
/-! ### the text by its places -/
def topS (i : Nat) : Stmt := PySem.Challenge.pw_lagshift_k03_rings_without_registers.main.body.getD i (.Pass ⟨0, 0, 0, 0⟩)
abbrev sCellAt : Stmt := topS 29
abbrev sWell : Stmt := topS 30
abbrev sDraw : Stmt := topS 31
abbrev sOne : Stmt := topS 32
/-! ### heaps -/
/-- all stands as it stood but at w -/
def But (w : Addr) (H H' : Hp) : Prop := ∀ b o, b ≠ w → H b = some o → H' b = some o
theorem But.refl (w : Addr) (H : Hp) : But w H H := fun _ _ _ h => h
theorem But.trans {w : Addr} {H H1 H2 : Hp} (a : But w H H1) (b : But w H1 H2) : But w H H2 := fun c o n h => b c o n (a c o n h)
theorem But.same {w : Addr} {H H1 : Hp} (a : Same H H1) : But w H H1 := fun c o _ h => a c o h
theorem But.upd {w : Addr} {H : Hp} {o : HO} : But w H (upd H w o) := fun c u n h => by rw [upd_ne n]; exact h
theorem But.new {w p : Addr} {H : Hp} {o : HO} (h : H p = none) : But w H (L2.upd H p o) := fun c u n e => by rw [upd_ne (ne_of_none e h)]; exact e
theorem same_new {H : Hp} {p : Addr} {o : HO} (h : H p = none) : Same H (upd H p o) := fun b x e => by rw [upd_ne (ne_of_none e h)]; exact e
/-- an object that H does not know may be changed -/
theorem same_mut {H H' : Hp} {p : Addr} {o : HO} (e : Same H H') (h : H p = none) : Same H (upd H' p o) := fun a u ha => by rw [upd_ne (ne_of_none ha h)]; exact e a u ha
theorem But.mut {w p : Addr} {H H' : Hp} {o : HO} (e : But w H H') (h : H p = none) : But w H (L2.upd H' p o) := fun a u n ha => by rw [upd_ne (ne_of_none ha h)]; exact e a u n ha
theorem But.seq {K : PySem.W.Frag} {w a : Addr} {H H' : Hp} {xs : List V} (e : But w H H') (n : a ≠ w) (h : SqL K H a xs) : SqL K H' a xs := by
  rcases h with (h | ⟨o, h⟩) | h
  · exact .inl (.inl (e _ _ n h))
  · exact .inl (.inr ⟨o, e _ _ n h⟩)
  · exact .inr h
/-- at w the well: three numbers -/
def WellAt (w : Addr) (H : Hp) : Prop := ∃ a b c : Int, H w = some (.lst [.int a, .int b, .int c])
theorem WellAt.new {w p : Addr} {H : Hp} {o : HO} (W : WellAt w H) (h : H p = none) : WellAt w (upd H p o) := by
  obtain ⟨a, b, c, e⟩ := W
  exact ⟨a, b, c, by rw [upd_ne (ne_of_none e h)]; exact e⟩
theorem WellAt.same {w : Addr} {H H' : Hp} (W : WellAt w H) (s : Same H H') : WellAt w H' := by
  obtain ⟨a, b, c, e⟩ := W
  exact ⟨a, b, c, s _ _ e⟩
theorem WellAt.ne {w p : Addr} {H : Hp} (W : WellAt w H) (h : H p = none) : w ≠ p := by
  obtain ⟨a, b, c, e⟩ := W
  exact ne_of_none e h
theorem WellAt.tup {K : PySem.W.Frag} {w p : Addr} {H : Hp} {xs : List V} (W : WellAt w H) (h : H p = some (.tup xs)) : p ≠ w := by
  obtain ⟨a, b, c, e⟩ := W
  exact ne_of h e (by intro q; cases q)
/-- a draw of the well: what stood stands, the well is one -/
structure Dr (w : Addr) (H H' : Hp) : Prop where
  but : But w H H'
  well : WellAt w H'
theorem Dr.trans {w : Addr} {H H1 H2 : Hp} (a : Dr w H H1) (b : Dr w H1 H2) : Dr w H H2 := ⟨a.but.trans b.but, b.well⟩
theorem Dr.free {w p : Addr} {H H' : Hp} (d : Dr w H H') (W : WellAt w H) (h : H' p = none) : H p = none := by
  cases q : H p with
  | none => rfl
  | some o =>
    have n : p ≠ w := (d.well.ne h).symm
    rw [d.but _ _ n q] at h
    cases h
/-! ### the promises of the draws -/
def spCellAt (K : PySem.W.Frag) : Sp := fun vs H Q _ => ∃ (a : Addr) (ns : List Int) (k : Int), vs = [.ref a, .int k] ∧ 0 ≤ k ∧ SqL K H a (ns.map V.int) ∧ ∀ z : Int, Q (.int z) H
def spWell : Sp := fun vs H Q _ => ∃ z : Int, vs = [.int z] ∧ ∀ p H', H p = none → Same H H' → WellAt p H' → Q (.ref p) H'
def spDraw : Sp := fun vs H Q _ => ∃ (w : Addr) (n : Int), vs = [.ref w, .int n] ∧ 0 < n ∧ n < 1000000 ∧ WellAt w H ∧ ∀ d H', 0 ≤ d → d < n → Dr w H H' → Q (.int d) H'
def spOne (K : PySem.W.Frag) : Sp := fun vs H Q _ => ∃ (w l : Addr) (xs : List V), vs = [.ref w, .ref l] ∧ l ≠ w ∧ WellAt w H ∧ SqL K H l xs ∧ xs ≠ [] ∧ xs.length < 1000000 ∧ ∀ v H', v ∈ xs → Dr w H H' → Q v H'
section
variable {P : Program} {w : World} {K : PySem.W.Frag} {mg : Str → Option Value} {base : Heap}
/-- a def at its name: it keeps its promise, its name holds it, its arguments bind -/
structure Df (P : Program) (w : World) (K : PySem.W.Frag) (mg : Str → Option Value) (base : Heap) (k : Nat) (name : Str) (ps : List Str) (sp : Sp) (f : Addr) (fd : FuncData) : Prop where
  ok : FnOk P w K mg base CX0 k f fd ps sp
  mg : mg name = some (.ref f)
  kp : PySem.W.keepIn K (.ref f) = true
  bd : Binds K fd ps []
/-! ### _law_cell_at -/
theorem scCellAt : FnScope ["_law_script", "_law_k"] ["_law_script", "_law_k"] (defScope sCellAt) := ⟨rfl, rfl, rfl, by decide +kernel, rfl, by decide +kernel, by decide +kernel⟩
abbrev DCellAt (P : Program) (w : World) (K : PySem.W.Frag) (mg : Str → Option Value) (base : Heap) := Df P w K mg base 1 "_law_cell_at" ["_law_script", "_law_k"] (spCellAt K)
theorem ok_cellAt {f : Addr} {fd : FuncData} (F : Fun K "_law_cell_at" "_law_cell_at" sCellAt f fd) (hm : mg "_law_cell_at" = some (.ref f)) (ml : mg "len" = none) : DCellAt P w K mg base f fd := by
  refine ⟨?_, hm, F.kp, F.binds fun _ _ _ _ _ _ us hl => match us, hl with | [_, _], _ => rfl⟩
  refine F.ok scCellAt (fun vs H Q E h => ?_) (fun cdv A outer s H vs Q E hr h => ?_)
  · obtain ⟨a, ns, k, rfl, _⟩ := h
    rfl
  · obtain ⟨a, ns, k, rfl, hk, hS, q⟩ := h
    refine ⟨_, pss_cons (ps_if (pt_cmpR op_lt (pv 1) (pe_callB call_len_seq (by rfl) ml PySem.boot_len (pa_cons (pv 0) pa_nil)) (nomark _))
        (pss_one (ps_ret (pe_ix ix_list (pv 0) (pv 1) (fun _ _ => rfl)))) pss_nil)
      (pss_one (ps_ret pe_int)), ?_⟩
    refine ⟨_, rfl, .ref a, rfl, a, _, rfl, .inl hS, _, _, rfl, rfl, _, rfl, ite2 (fun e => ?_) (fun e => ?_)⟩
    · have e1 : k < ((ns.map V.int).length : Int) := of_decide_eq_true e
      rw [List.length_map] at e1
      have hj : k.toNat < ns.length := by omega
      refine ⟨_, rfl, _, rfl, a, _, k, .int (ns[k.toNat]), rfl, rfl, hS, at_of (j := k.toNat) (by omega) ?_, q _⟩
      rw [List.getElem?_map, List.getElem?_eq_getElem hj]
      rfl
    · exact q 0
/-! ### _law_well -/
theorem scWell : FnScope ["_law_cell"] ["_law_cell"] (defScope sWell) := ⟨rfl, rfl, rfl, by decide +kernel, rfl, by decide +kernel, by decide +kernel⟩
abbrev DWell (P : Program) (w : World) (K : PySem.W.Frag) (mg : Str → Option Value) (base : Heap) := Df P w K mg base 1 "_law_well" ["_law_cell"] spWell
theorem ok_well {f : Addr} {fd : FuncData} (F : Fun K "_law_well" "_law_well" sWell f fd) (hm : mg "_law_well" = some (.ref f)) (mi : mg "int" = none) : DWell P w K mg base f fd := by
  refine ⟨?_, hm, F.kp, F.binds fun _ _ _ _ _ _ us hl => match us, hl with | [_], _ => rfl⟩
  refine F.ok scWell (fun vs H Q E h => ?_) (fun cdv A outer s H vs Q E hr h => ?_)
  · obtain ⟨z, rfl, _⟩ := h
    rfl
  · obtain ⟨z, rfl, q⟩ := h
    refine ⟨_, pss_one (ps_ret (pe_lst (pa_cons (pe_op op_mul (pv 0) (pe_callTy call_int1 (by rfl) mi (by decide +kernel) (pa_cons (pe_cmpR op_ge (pv 0) (pe_op op_pow pe_int pe_int) (nomark _)) pa_nil)))
      (pa_cons (pe_op op_mod (pv 0) pe_int) (pa_cons pe_int pa_nil))))), ?_⟩
    refine ⟨_, rfl, _, rfl, _, _, rfl, rfl, ⟨by decide, by decide, by decide⟩, _, _, rfl, rfl, .inr ⟨_, rfl, _, _, rfl, rfl, .inr ?_, ?_⟩⟩
    · cases decide (10 ^ (18 : Int).toNat ≤ z) with
      | true => exact ⟨by decide, by decide⟩
      | false => exact ⟨by decide, by decide⟩
    · refine ⟨_, rfl, _, _, rfl, rfl, (by show (0 : Int) < 2147483629; decide), (by show 3 ≤ sizeLine; decide), fun p hp => ?_⟩
      exact q p _ hp (same_new hp) ⟨_, _, _, upd_same⟩
end
end Lag

set_option maxRecDepth 100000
set_option maxHeartbeats 4000000
namespace Lag
open PySem PySem.Spec PyProof.Rows L2
section
variable {P : Program} {w : World} {K : PySem.W.Frag} {mg : Str → Option Value} {base : Heap}
/-! ### _law_draw -/
theorem scDraw : FnScope ["_law_well_here", "_law_many", "_law_found", "_law_number"] ["_law_well_here", "_law_many"] (defScope sDraw) := ⟨rfl, rfl, rfl, by decide +kernel, rfl, by decide +kernel, by decide +kernel⟩
theorem mod_b {x n : Int} (h : 0 < n) (hn : n ≤ 4294967296) : -(2 ^ 64) < x % n ∧ x % n < 2 ^ 64 := by
  have h1 := Int.emod_nonneg x (show n ≠ 0 by omega)
  have h2 := Int.emod_lt_of_pos x h
  constructor
  · have e : (-(2 ^ 64) : Int) = -18446744073709551616 := by decide
    omega
  · have e : (2 ^ 64 : Int) = 18446744073709551616 := by decide
    omega
abbrev DDraw (P : Program) (w : World) (K : PySem.W.Frag) (mg : Str → Option Value) (base : Heap) := Df P w K mg base 1 "_law_draw" ["_law_well_here", "_law_many"] spDraw
theorem ok_draw {f : Addr} {fd : FuncData} (F : Fun K "_law_draw" "_law_draw" sDraw f fd) (hm : mg "_law_draw" = some (.ref f)) : DDraw P w K mg base f fd := by
  refine ⟨?_, hm, F.kp, F.binds fun _ _ _ _ _ _ us hl => match us, hl with | [_, _], _ => rfl⟩
  refine F.ok scDraw (fun vs H Q E h => ?_) (fun cdv A outer s H vs Q E hr h => ?_)
  · obtain ⟨wl, n, rfl, _⟩ := h
    rfl
  · obtain ⟨wl, n, rfl, hn, hn2, ⟨a, b, c, hw⟩, q⟩ := h
    refine ⟨_, pss_cons (ps_if (pt_cmpR op_gt (pe_ix ix_list (pv 0) pe_int (fun _ _ => rfl)) pe_int (nomark _))
        (pss_cons (ps_set (i := 2) scDraw.nd rfl (Or.inl rfl) (pe_op op_mod (pe_ix ix_list (pv 0) pe_int (fun _ _ => rfl)) (pv 1)))
        (pss_cons (ps_asg (pe_op op_fdiv (pe_ix ix_list (pv 0) pe_int (fun _ _ => rfl)) (pv 1)) (pg_sub (pv 0) pe_int set_list))
        (pss_one (ps_ret (pv 2))))) pss_nil)
      (pss_cons (ps_asg (pe_op op_add (pe_ix ix_list (pv 0) pe_int (fun _ _ => rfl)) pe_int) (pg_sub (pv 0) pe_int set_list))
      (pss_cons (ps_set (i := 3) scDraw.nd rfl (Or.inl rfl) (pe_op op_mod (pe_op op_mul (pe_op op_add (pe_op op_add (pe_ix ix_list (pv 0) pe_int (fun _ _ => rfl)) (pe_op op_mul pe_int (pe_ix ix_list (pv 0) pe_int (fun _ _ => rfl)))) pe_int) pe_int) pe_int))
      (pss_cons (ps_set (i := 3) scDraw.nd rfl (Or.inl rfl) (pe_op op_mod (pe_op op_mul (pv 3) (pe_op op_add (pe_op op_add (pe_op op_fdiv (pv 3) pe_int) pe_int) (pe_ix ix_list (pv 0) pe_int (fun _ _ => rfl)))) pe_int))
      (pss_one (ps_ret (pe_op op_mod (pe_op op_fdiv (pe_op op_mod (pe_op op_mul (pv 3) (pe_op op_add (pe_op op_fdiv (pv 3) pe_int) pe_int)) pe_int) pe_int) (pv 1))))))), ?_⟩
    refine ⟨_, rfl, wl, _, 0, .int a, rfl, rfl, SqL.of hw, atI_nat (j := 0) rfl, _, _, rfl, rfl, _, rfl, ite2 (fun e => ?_) (fun e => ?_)⟩
    · refine ⟨_, rfl, wl, _, 0, .int a, rfl, rfl, SqL.of hw, atI_nat (j := 0) rfl, _, rfl, _, _, rfl, rfl, hn, ?_⟩
      refine ⟨_, rfl, wl, _, 0, .int a, rfl, rfl, SqL.of hw, atI_nat (j := 0) rfl, _, rfl, _, _, rfl, rfl, ⟨hn, by omega⟩, ?_⟩
      refine ⟨_, rfl, wl, _, 0, 0, rfl, rfl, hw, rfl, ?_⟩
      refine ⟨_, rfl, ?_⟩
      exact q _ _ (Int.emod_nonneg _ (by omega)) (Int.emod_lt_of_pos _ hn) ⟨But.upd, ⟨_, _, _, upd_same⟩⟩
    · have h1 : (upd H wl (HO.lst [.int a, .int b, .int (c + 1)])) wl = some (.lst [.int a, .int b, .int (c + 1)]) := upd_same
      refine ⟨_, rfl, wl, _, 2, .int c, rfl, rfl, SqL.of hw, atI_nat (j := 2) rfl, _, _, rfl, rfl, ?_⟩
      refine ⟨_, rfl, wl, _, 2, 2, rfl, rfl, hw, rfl, ?_⟩
      refine ⟨_, rfl, wl, _, 1, .int b, rfl, rfl, SqL.of h1, atI_nat (j := 1) rfl, _, rfl, wl, _, 2, .int (c + 1), rfl, rfl, SqL.of h1, atI_nat (j := 2) rfl, _, _, rfl, rfl, .inl ⟨by decide, by decide⟩, _, _, rfl, rfl, _, _, rfl, rfl, _, _, rfl, rfl, .inr ⟨by decide, by decide⟩, _, _, rfl, rfl, (by show (0 : Int) < 2147483629; decide), ?_⟩
      refine ⟨_, rfl, _, rfl, _, _, rfl, rfl, ⟨by decide, by decide⟩, _, _, rfl, rfl, _, rfl, wl, _, 2, .int (c + 1), rfl, rfl, SqL.of h1, atI_nat (j := 2) rfl, _, _, rfl, rfl, _, _, rfl, rfl, .inl (mod_b (by decide) (by decide)), _, _, rfl, rfl, (by show (0 : Int) < 2147483587; decide), ?_⟩
      refine ⟨_, rfl, _, rfl, _, _, rfl, rfl, ⟨by decide, by decide⟩, _, _, rfl, rfl, _, _, rfl, rfl, .inl (mod_b (by decide) (by decide)), _, _, rfl, rfl, (by show (0 : Int) < 2147483563; decide), _, _, rfl, rfl, ⟨by decide, by decide⟩, _, rfl, _, _, rfl, rfl, hn, ?_⟩
      exact q _ _ (Int.emod_nonneg _ (by omega)) (Int.emod_lt_of_pos _ hn) ⟨But.upd, ⟨_, _, _, h1⟩⟩
/-! ### _law_one -/
theorem scOne : FnScope ["_law_well_here", "_law_some"] ["_law_well_here", "_law_some"] (defScope sOne) := ⟨rfl, rfl, rfl, by decide +kernel, rfl, by decide +kernel, by decide +kernel⟩
abbrev DOne (P : Program) (w : World) (K : PySem.W.Frag) (mg : Str → Option Value) (base : Heap) := Df P w K mg base 2 "_law_one" ["_law_well_here", "_law_some"] (spOne K)
theorem ok_one {f fD : Addr} {fd fdD : FuncData} (F : Fun K "_law_one" "_law_one" sOne f fd) (hm : mg "_law_one" = some (.ref f)) (D0 : DDraw P w K mg base fD fdD) (ml : mg "len" = none) : DOne P w K mg base f fd := by
  refine ⟨?_, hm, F.kp, F.binds fun _ _ _ _ _ _ us hl => match us, hl with | [_, _], _ => rfl⟩
  refine F.ok scOne (fun vs H Q E h => ?_) (fun cdv A outer s H vs Q E hr h => ?_)
  · obtain ⟨wl, l, xs, rfl, _⟩ := h
    rfl
  · obtain ⟨wl, l, xs, rfl, hl, hw, hS, h0, hz, q⟩ := h
    refine ⟨_, pss_one (ps_ret (pe_ix ix_list (pv 1) (pe_call D0.ok hr (by rfl) D0.mg D0.kp D0.bd .nil pass0 (pa_cons (pv 0) (pa_cons (pe_callB call_len_seq (by rfl) ml PySem.boot_len (pa_cons (pv 1) pa_nil)) pa_nil))) (fun _ _ => rfl))), ?_⟩
    have hp : 0 < xs.length := by
      cases xs with
      | nil => exact absurd rfl h0
      | cons x r => simp
    refine ⟨_, rfl, _, rfl, _, rfl, l, xs, rfl, .inl hS, wl, _, rfl, by omega, by omega, hw, fun d H' d0 d1 D => ?_⟩
    have hj : d.toNat < xs.length := by omega
    refine ⟨l, xs, d, xs[d.toNat], rfl, rfl, D.but.seq hl hS, at_of (j := d.toNat) (by omega) (List.getElem?_eq_getElem hj), ?_⟩
    exact q _ _ (List.getElem_mem hj) D
end
end Lag

set_option maxRecDepth 100000
set_option maxHeartbeats 4000000
namespace Lag
open PySem PySem.Spec PyProof.Rows L2
/-! ### what is kept of tuples -/
def isT : HO → Prop
  | .tup _ => True
  | .frz _ _ => True
  | _ => False
/-- tuples, and what is locked, stand as they stood -/
def TK (H H' : Hp) : Prop := ∀ a o, isT o → H a = some o → H' a = some o
theorem TK.refl (H : Hp) : TK H H := fun _ _ _ h => h
theorem TK.trans {H H1 H2 : Hp} (a : TK H H1) (b : TK H1 H2) : TK H H2 := fun c o t h => b c o t (a c o t h)
theorem TK.same {H H1 : Hp} (a : Same H H1) : TK H H1 := fun c o _ h => a c o h
theorem TK.new {p : Addr} {H : Hp} {o : HO} (h : H p = none) : TK H (upd H p o) := TK.same (same_new h)
theorem TK.lst {l : Addr} {H : Hp} {xs : List V} {o : HO} (h : H l = some (.lst xs)) : TK H (upd H l o) := fun c u t e => by
  have n : c ≠ l := fun z => by
    rw [z, h] at e
    cases e
    exact t
  rw [upd_ne n]
  exact e
theorem TK.dr {w : Addr} {H H' : Hp} (W : WellAt w H) (d : But w H H') : TK H H' := fun c u t e => by
  obtain ⟨x, y, z, h⟩ := W
  have n : c ≠ w := fun z => by
    rw [z, h] at e
    cases e
    exact t
  exact d _ _ n e
theorem TK.seq {K : PySem.W.Frag} {H H' : Hp} {a : Addr} {xs : List V} (t : TK H H') (h : SqT K H a xs) : SqT K H' a xs := by
  rcases h with (h | ⟨o, h⟩) | h
  · exact .inl (.inl (t _ _ trivial h))
  · exact .inl (.inr ⟨o, t _ _ trivial h⟩)
  · exact .inr h
/-! ### gates and wires as data -/
abbrev Gt := Str × Int
abbrev Wr := Nat × Nat × List Int
def kinds : List Str := ["in", "out", "sum", "times", "most", "least", "first", "one"]
def portK (k : Str) : Prop := k = "in" ∨ k = "out"
/-- a gate -/
def GOk (g : Gt) : Prop := g.1 ∈ kinds ∧ 0 ≤ g.2 ∧ g.2 ≤ 100 ∧ (portK g.1 → g.2 = 0)
def GateV (K : PySem.W.Frag) (H : Hp) (v : V) (g : Gt) : Prop := ∃ a, v = .ref a ∧ SqT K H a [.str g.1, .int g.2]
def WireV (K : PySem.W.Frag) (H : Hp) (v : V) (x : Wr) : Prop := ∃ a b, v = .ref a ∧ SqT K H a [.int x.1, .int x.2.1, .ref b] ∧ SqT K H b (x.2.2.map V.int)
theorem GateV.tk {K : PySem.W.Frag} {H H' : Hp} {v : V} {g : Gt} (t : TK H H') (h : GateV K H v g) : GateV K H' v g := by
  obtain ⟨a, e, s⟩ := h
  exact ⟨a, e, t.seq s⟩
theorem WireV.tk {K : PySem.W.Frag} {H H' : Hp} {v : V} {x : Wr} (t : TK H H') (h : WireV K H v x) : WireV K H' v x := by
  obtain ⟨a, b, e, s, s2⟩ := h
  exact ⟨a, b, e, t.seq s, t.seq s2⟩
/-! ### _law_gate -/
def kinds11 : List Str := ["in", "in", "sum", "times", "most", "least", "first", "one", "sum", "out", "out"]
theorem k11 : ∀ k ∈ kinds11, k ∈ kinds := by decide +kernel
def spGate (K : PySem.W.Frag) : Sp := fun vs H Q _ => ∃ (wl : Addr) (b : Bool), vs = [.ref wl, .bl b] ∧ WellAt wl H ∧ ∀ (g : Gt) p H', GOk g → (b = true → g.1 ≠ "out") → Dr wl H H' → H p = none → H' p = some (.tup [.str g.1, .int g.2]) → Q (.ref p) H'
section
variable {P : Program} {w : World} {K : PySem.W.Frag} {mg : Str → Option Value} {base : Heap}
abbrev DGate (P : Program) (w : World) (K : PySem.W.Frag) (mg : Str → Option Value) (base : Heap) := Df P w K mg base 3 "_law_gate" ["_law_well_here", "_law_first"] (spGate K)
theorem Dr.new {wl p : Addr} {H : Hp} {o : HO} (W : WellAt wl H) (h : H p = none) : Dr wl H (upd H p o) := ⟨But.new h, W.new h⟩
end
end Lag

set_option maxRecDepth 100000
set_option maxHeartbeats 4000000
namespace Lag
open PySem PySem.Spec PyProof.Rows L2
/-- registers' worths -/
def ROk (r : List Int) : Prop := ∀ x ∈ r, 0 ≤ x ∧ x ≤ 96
def spWire (K : PySem.W.Frag) : Sp := fun vs H Q _ => ∃ (wl : Addr) (a b : Nat), vs = [.ref wl, .int a, .int b] ∧ WellAt wl H ∧ ∀ (r : List Int) v H', ROk r → r.length ≤ 2 → (b ≤ a → r ≠ []) → Dr wl H H' → WireV K H' v (a, b, r) → Q v H'
/-- a comprehension without a test keeps each item -/
theorem tyes {σ : L2.St} {H : Hp} {A B : Hp → Prop} (h : A H) : tYes σ H (fun b H3 => if b = true then A H3 else B H3) := by
  show if true = true then A H else B H
  rw [if_pos rfl]
  exact h
theorem menu3 {d1 d2 : Int} {v : V} (hv : v ∈ [V.int d1, V.int d2, V.int 96]) (a1 : 0 ≤ d1) (b1 : d1 < 97) (a2 : 0 ≤ d2) (b2 : d2 < 97) : ∃ x, v = V.int x ∧ 0 ≤ x ∧ x ≤ 96 := by
  simp only [List.mem_cons, List.not_mem_nil, or_false] at hv
  rcases hv with rfl | rfl | rfl
  · exact ⟨d1, rfl, a1, by omega⟩
  · exact ⟨d2, rfl, a2, by omega⟩
  · exact ⟨96, rfl, by decide, by decide⟩
section
variable {P : Program} {w : World} {K : PySem.W.Frag} {mg : Str → Option Value} {base : Heap}
abbrev DWire (P : Program) (w : World) (K : PySem.W.Frag) (mg : Str → Option Value) (base : Heap) := Df P w K mg base 3 "_law_wire" ["_law_well_here", "_law_start", "_law_end"] (spWire K)
end
end Lag

set_option maxRecDepth 100000
set_option maxHeartbeats 4000000
namespace Lag
open PySem PySem.Spec PyProof.Rows L2
/-! ### two lists, place by place -/
def All2 {α β : Type} (R : α → β → Prop) (xs : List α) (ys : List β) : Prop := xs.length = ys.length ∧ ∀ (i : Nat) (x : α) (y : β), xs[i]? = some x → ys[i]? = some y → R x y
section
variable {α β : Type} {R S : α → β → Prop} {xs : List α} {ys : List β} {x : α} {y : β}
theorem All2.nil : All2 R [] [] := ⟨rfl, fun i x y h => by simp at h⟩
theorem All2.imp (h : All2 R xs ys) (f : ∀ x y, R x y → S x y) : All2 S xs ys := ⟨h.1, fun i x y a b => f x y (h.2 i x y a b)⟩
theorem All2.snoc (h : All2 R xs ys) (r : R x y) : All2 R (xs ++ [x]) (ys ++ [y]) := by
  refine ⟨by simp [h.1], fun i a b ha hb => ?_⟩
  by_cases hi : i < xs.length
  · rw [List.getElem?_append_left hi] at ha
    rw [List.getElem?_append_left (by rw [← h.1]; exact hi)] at hb
    exact h.2 i a b ha hb
  · rw [List.getElem?_append_right (by omega)] at ha
    rw [List.getElem?_append_right (by rw [← h.1]; omega), ← h.1] at hb
    cases e : i - xs.length with
    | zero =>
      rw [e] at ha hb
      simp at ha hb
      subst ha hb
      exact r
    | succ n =>
      rw [e] at ha
      simp at ha
theorem All2.cons (r : R x y) (h : All2 R xs ys) : All2 R (x :: xs) (y :: ys) := by
  refine ⟨by simp [h.1], fun i a b ha hb => ?_⟩
  cases i with
  | zero =>
    simp at ha hb
    subst ha hb
    exact r
  | succ n => exact h.2 n a b (by simpa using ha) (by simpa using hb)
theorem All2.head {x : α} {y : β} (h : All2 R (x :: xs) (y :: ys)) : R x y := h.2 0 x y rfl rfl
theorem All2.tail {x : α} {y : β} (h : All2 R (x :: xs) (y :: ys)) : All2 R xs ys := ⟨by have := h.1; simp at this; exact this, fun i a b ha hb => h.2 (i + 1) a b (by simpa using ha) (by simpa using hb)⟩
theorem All2.get (h : All2 R xs ys) {i : Nat} {x : α} (e : xs[i]? = some x) : ∃ y, ys[i]? = some y ∧ R x y := by
  have hi := (List.getElem?_eq_some_iff.mp e).1
  have hj : i < ys.length := by rw [← h.1]; exact hi
  exact ⟨ys[i], List.getElem?_eq_getElem hj, h.2 i x _ e (List.getElem?_eq_getElem hj)⟩
theorem All2.getR (h : All2 R xs ys) {i : Nat} {y : β} (e : ys[i]? = some y) : ∃ x, xs[i]? = some x ∧ R x y := by
  have hi := (List.getElem?_eq_some_iff.mp e).1
  have hj : i < xs.length := by rw [h.1]; exact hi
  exact ⟨xs[i], List.getElem?_eq_getElem hj, h.2 i _ y (List.getElem?_eq_getElem hj) e⟩
theorem All2.perm {xs' : List α} (p : xs'.Perm xs) : ∀ {ys : List β}, All2 R xs ys → ∃ ys', ys'.Perm ys ∧ All2 R xs' ys' := by
  induction p with
  | nil => intro ys h; exact ⟨ys, .refl _, h⟩
  | @cons a l1 l2 p ih =>
    intro ys h
    cases ys with
    | nil => have := h.1; simp at this
    | cons y ys =>
      obtain ⟨ys', p', h'⟩ := ih h.tail
      exact ⟨y :: ys', p'.cons y, h'.cons h.head⟩
  | swap a b l =>
    intro ys h
    match ys, h with
    | [], h => have := h.1; simp at this
    | [_], h => have := h.1; simp at this
    | y :: z :: ys, h => exact ⟨z :: y :: ys, .swap _ _ _, All2.cons h.tail.head (All2.cons h.head h.tail.tail)⟩
  | trans p1 p2 ih1 ih2 =>
    intro ys h
    obtain ⟨ys1, q1, h1⟩ := ih2 h
    obtain ⟨ys2, q2, h2⟩ := ih1 h1
    exact ⟨ys2, q2.trans q1, h2⟩
end
/-! ### nets as data -/
def kindAt (gs : List Gt) (i : Nat) : Str := (gs.getD i ("", 0)).1
def cnt (ws : List Wr) (e : Nat) : Nat := ws.countP (fun x => x.2.1 == e)
/-- a wire between these gates -/
structure WOk (gs : List Gt) (x : Wr) : Prop where
  s : x.1 < gs.length
  e : x.2.1 < gs.length
  ks : kindAt gs x.1 ≠ "out"
  ke : kindAt gs x.2.1 ≠ "in"
  r : ROk x.2.2
  rl : x.2.2.length ≤ 100
structure NetOk (gs : List Gt) (ws : List Wr) : Prop where
  ne : gs ≠ []
  gl : gs.length ≤ 100
  wl : ws.length ≤ 1000
  gok : ∀ g ∈ gs, GOk g
  wok : ∀ x ∈ ws, WOk gs x
  one : ∀ e, e < gs.length → kindAt gs e = "out" → cnt ws e = 1
  some : ∀ e, e < gs.length → kindAt gs e = "first" → 1 ≤ cnt ws e
  rank : ∃ ρ : Nat → Nat, ∀ x ∈ ws, x.2.2 = [] → ρ x.1 < ρ x.2.1
/-- numbered anew: the gate k is the old gate at left's place k -/
theorem NetOk.anew {gs : List Gt} {ws : List Wr} {left : List Nat} (N : NetOk gs ws) (p : left.Perm (List.range gs.length)) {ws' : List Wr} (pw : ws'.Perm ws) :
    NetOk (left.map fun k => gs.getD k ("", 0)) (ws'.map fun x => (left.idxOf x.1, left.idxOf x.2.1, x.2.2)) := by
  have hl : left.length = gs.length := by rw [p.length_eq, List.length_range]
  have nd : left.Nodup := p.nodup_iff.mpr List.nodup_range
  have mem : ∀ i, i < gs.length → i ∈ left := fun i hi => p.mem_iff.mpr (List.mem_range.mpr hi)
  have memb : ∀ i, i ∈ left → i < gs.length := fun i hi => List.mem_range.mp (p.mem_iff.mp hi)
  have il : ∀ i, i < gs.length → left.idxOf i < left.length := fun i hi => List.idxOf_lt_length_iff.mpr (mem i hi)
  have ge : ∀ i (h : i < gs.length), left[left.idxOf i]? = Option.some i := fun i h => by
    rw [List.getElem?_eq_getElem (il i h), List.getElem_idxOf]
  have kk : ∀ i, i < gs.length → kindAt (left.map fun k => gs.getD k ("", 0)) (left.idxOf i) = kindAt gs i := fun i h => by
    unfold kindAt
    rw [List.getD_eq_getElem?_getD, List.getElem?_map, ge i h]
    rfl
  have inj : ∀ i j, i < gs.length → j < gs.length → left.idxOf i = left.idxOf j → i = j := fun i j hi hj e => by
    have h1 := ge i hi
    rw [e, ge j hj] at h1
    exact (Option.some.inj h1).symm
  have cc : ∀ e, e < gs.length → cnt (ws'.map fun x => (left.idxOf x.1, left.idxOf x.2.1, x.2.2)) (left.idxOf e) = cnt ws e := fun e he => by
    unfold cnt
    rw [List.countP_map, ← pw.countP_eq]
    refine List.countP_congr fun x hx => ?_
    have := (N.wok x (pw.mem_iff.mp hx)).e
    simp only [Function.comp, beq_iff_eq]
    exact ⟨fun z => inj _ _ this he z, fun z => by rw [z]⟩
  have back : ∀ e, e < left.length → ∃ i, i < gs.length ∧ left.idxOf i = e := fun e he => by
    refine ⟨left[e], memb _ (List.getElem_mem he), ?_⟩
    exact List.Nodup.idxOf_getElem nd e he
  obtain ⟨ρ, hρ⟩ := N.rank
  refine ⟨?_, by simpa [hl] using N.gl, by simpa [pw.length_eq] using N.wl, ?_, ?_, ?_, ?_, ?_⟩
  · intro z
    have := congrArg List.length z
    simp [hl] at this
    exact N.ne this
  · intro g hg
    obtain ⟨k, hk, rfl⟩ := List.mem_map.mp hg
    refine N.gok _ ?_
    rw [List.getD_eq_getElem?_getD, List.getElem?_eq_getElem (memb k hk)]
    exact List.getElem_mem _
  · intro y hy
    obtain ⟨x, hx, rfl⟩ := List.mem_map.mp hy
    have W := N.wok x (pw.mem_iff.mp hx)
    refine ⟨by simpa using il _ W.s, by simpa using il _ W.e, ?_, ?_, W.r, W.rl⟩
    · show kindAt _ (left.idxOf x.1) ≠ _
      rw [kk _ W.s]
      exact W.ks
    · show kindAt _ (left.idxOf x.2.1) ≠ _
      rw [kk _ W.e]
      exact W.ke
  · intro e he hk
    obtain ⟨i, hi, rfl⟩ := back e (by simpa using he)
    rw [kk i hi] at hk
    rw [cc i hi]
    exact N.one i hi hk
  · intro e he hk
    obtain ⟨i, hi, rfl⟩ := back e (by simpa using he)
    rw [kk i hi] at hk
    rw [cc i hi]
    exact N.some i hi hk
  · refine ⟨fun k => ρ (left.getD k 0), fun y hy h => ?_⟩
    obtain ⟨x, hx, rfl⟩ := List.mem_map.mp hy
    have W := N.wok x (pw.mem_iff.mp hx)
    have := hρ x (pw.mem_iff.mp hx) h
    simp only [List.getD_eq_getElem?_getD, ge _ W.s, ge _ W.e, Option.getD_some]
    exact this
end Lag

set_option maxRecDepth 100000
set_option maxHeartbeats 4000000
namespace Lag
open PySem PySem.Spec PyProof.Rows L2
/-! ### [left.pop(draw(well, len(left))) for k in range(len(left))] -/
theorem set_well {wl D : Addr} {H0 H : Hp} {o : HO} (d : Dr wl H0 H) (h0 : H0 D = none) (n : D ≠ wl) : Dr wl H0 (upd H D o) := by
  refine ⟨fun c u nc e => ?_, ?_⟩
  · rw [upd_ne (ne_of_none e h0)]
    exact d.but c u nc e
  · obtain ⟨x1, x2, x3, hx⟩ := d.well
    exact ⟨x1, x2, x3, by rw [upd_ne n.symm]; exact hx⟩
theorem perm_erase {α : Type} : ∀ (l : List α) (k : Nat) (h : k < l.length), (l[k] :: l.eraseIdx k).Perm l
  | [], k, h => by simp at h
  | a :: l, 0, _ => .refl _
  | a :: l, k + 1, h => by
    have h' : k < l.length := by simpa using h
    show (l[k] :: a :: l.eraseIdx k).Perm (a :: l)
    exact (List.Perm.swap _ _ _).trans ((perm_erase l k h').cons a)
theorem perm_pop {α : Type} {acc rem xs : List α} {k : Nat} {y : α} (h : (acc ++ rem).Perm xs) (e : rem[k]? = some y) : ((acc ++ [y]) ++ rem.eraseIdx k).Perm xs := by
  obtain ⟨hk, rfl⟩ := List.getElem?_eq_some_iff.mp e
  refine List.Perm.trans ?_ h
  rw [List.append_assoc]
  refine List.Perm.append_left acc ?_
  exact perm_erase rem k hk
def tLen (K : PySem.W.Frag) (i : Nat) : TE := tCB (Evl.rLenS K) (tCons (tVar i) tNil)
def popT (K : PySem.W.Frag) : TE := tLc (iRng1 (tCons (tLen K 10) tNil)) (gName 3) tYes (tBM K "list" rPopAt (tVar 10) (tCons (tCall spDraw [] E0 (tCons (tVar 0) (tCons (tLen K 10) tNil))) tNil)) [3]
theorem popAll {K : PySem.W.Frag} {σ : L2.St} {H : Hp} {Q : VK} {wl L : Addr} {vs : List V} (h0 : σ[0]? = some (some (.ref wl))) (h10 : σ[10]? = some (some (.ref L))) (hL : H L = some (.lst vs)) (hw : WellAt wl H) (hn : L ≠ wl) (hz : vs.length ≤ 1000)
    (q : ∀ D vs' H', vs'.Perm vs → H D = none → H' D = some (.lst vs') → (∀ b o, b ≠ wl → b ≠ L → H b = some o → H' b = some o) → WellAt wl H' → Q (.ref D) H') : popT K σ H Q := by
  have s0 : ∀ x, (((wipe σ [3]).set 3 x))[0]? = some (some (.ref wl)) := fun x => by
    show (((σ.set 3 none).set 3 x))[0]? = _
    rw [List.getElem?_set_ne (by decide), List.getElem?_set_ne (by decide)]
    exact h0
  have s10 : ∀ x, (((wipe σ [3]).set 3 x))[10]? = some (some (.ref L)) := fun x => by
    show (((σ.set 3 none).set 3 x))[10]? = _
    rw [List.getElem?_set_ne (by decide), List.getElem?_set_ne (by decide)]
    exact h10
  refine ⟨_, h10, L, vs, rfl, .inl (SqL.of hL), _, rfl, by omega, by omega, fun D hD => ?_⟩
  have nDL : L ≠ D := ne_of_none hL hD
  have nDw : D ≠ wl := (hw.ne hD).symm
  refine lc_range (lo := 0) (n := ((vs.length : Int)).toNat) (fun i H3 => ∃ acc rem : List V, acc.length = i ∧ (acc ++ rem).Perm vs ∧ H3 D = some (.lst acc) ∧ H3 L = some (.lst rem) ∧ (∀ b o, b ≠ wl → b ≠ L → H b = some o → H3 b = some o) ∧ WellAt wl H3)
    ⟨[], vs, rfl, by simp, upd_same, by rw [upd_ne nDL]; exact hL, fun b o _ _ e => by rw [upd_ne (ne_of_none e hD)]; exact e, hw.new hD⟩ ?_ ?_
  · rintro i H3 hi ⟨acc, rem, hal, hp, hDa, hLr, hk, hw3⟩
    have hlen : acc.length + rem.length = vs.length := by
      have := hp.length_eq
      simpa using this
    have hrem : 0 < rem.length := by omega
    refine ⟨?_, tyes ?_⟩
    · show ((σ.set 3 none).set 3 _).set 3 none = σ.set 3 none
      simp
    refine ⟨_, s10 _, .inl ⟨rfl, _, SqL.of hLr⟩, _, s0 _, _, s10 _, L, rem, rfl, .inl (SqL.of hLr), wl, _, rfl, by omega, by omega, hw3, fun d H4 d0 d1 E1 => ?_⟩
    have hj : d.toNat < rem.length := by omega
    have hLr4 := E1.but _ _ hn hLr
    have hDa4 := E1.but _ _ nDw hDa
    have hg : rem[d.toNat]? = some rem[d.toNat] := List.getElem?_eq_getElem hj
    refine ⟨L, rem, d, d.toNat, rem[d.toNat], rfl, rfl, hLr4, by omega, by omega, PySem.seqIndex_of d0 d1, hg, ?_⟩
    refine ⟨acc, by rw [upd_ne nDL.symm]; exact hDa4, small1000 (by omega), acc ++ [rem[d.toNat]], rem.eraseIdx d.toNat, by simp [hal], perm_pop hp hg, upd_same, ?_, ?_, ?_⟩
    · rw [upd_ne nDL, upd_same]
    · intro b o nb nL e
      rw [upd_ne (ne_of_none e hD), upd_ne nL]
      exact E1.but _ _ nb (hk b o nb nL e)
    · obtain ⟨x1, x2, x3, hx⟩ := E1.well
      exact ⟨x1, x2, x3, by rw [upd_ne nDw.symm, upd_ne hn.symm]; exact hx⟩
  · rintro H3 ⟨acc, rem, hal, hp, hDa, hLr, hk, hw3⟩
    have hlen : acc.length + rem.length = vs.length := by
      have := hp.length_eq
      simpa using this
    have hr : rem = [] := by
      cases rem with
      | nil => rfl
      | cons _ _ => simp at hlen; omega
    subst hr
    rw [List.append_nil] at hp
    exact q D acc H3 hp hD hDa hk hw3
end Lag

set_option maxRecDepth 100000
set_option maxHeartbeats 4000000
namespace Lag
open PySem PySem.Spec PyProof.Rows L2
/-! ### what stands while the parts are made -/
structure PS1 (K : PySem.W.Frag) (wl : Addr) (H0 H : Hp) (g : Addr) (gs : List Gt) : Prop where
  w0 : WellAt wl H0
  dr : Dr wl H0 H
  gn : H0 g = none
  gl : ∃ vs, H g = some (.lst vs) ∧ All2 (GateV K H) vs gs
  gok : ∀ x ∈ gs, GOk x
  g0 : ∀ x : Gt, gs[0]? = some x → x.1 ≠ ("out" : Str)
theorem PS1.step {K : PySem.W.Frag} {wl g : Addr} {H0 H H' : Hp} {gs : List Gt} (p : PS1 K wl H0 H g gs) (d : Dr wl H H') : PS1 K wl H0 H' g gs := by
  obtain ⟨vs, h, a⟩ := p.gl
  exact ⟨p.w0, p.dr.trans d, p.gn, ⟨vs, d.but _ _ (p.w0.ne p.gn).symm h, a.imp fun _ _ r => r.tk (TK.dr p.dr.well d.but)⟩, p.gok, p.g0⟩
structure PS2 (K : PySem.W.Frag) (wl : Addr) (H0 H : Hp) (g st wi : Addr) (gs : List Gt) (sts : List Nat) (ws : List Wr) : Prop extends PS1 K wl H0 H g gs where
  sn : H0 st = none
  sl : H st = some (.lst (sts.map fun i => V.int (i : Nat)))
  wn : H0 wi = none
  wv : ∃ vs, H wi = some (.lst vs) ∧ All2 (WireV K H) vs ws
  nsw : st ≠ wi
  ngw : g ≠ wi
theorem PS2.step {K : PySem.W.Frag} {wl g st wi : Addr} {H0 H H' : Hp} {gs : List Gt} {sts : List Nat} {ws : List Wr} (p : PS2 K wl H0 H g st wi gs sts ws) (d : Dr wl H H') : PS2 K wl H0 H' g st wi gs sts ws := by
  obtain ⟨vs, h, a⟩ := p.wv
  exact ⟨p.toPS1.step d, p.sn, d.but _ _ (p.w0.ne p.sn).symm p.sl, p.wn, ⟨vs, d.but _ _ (p.w0.ne p.wn).symm h, a.imp fun _ _ r => r.tk (TK.dr p.dr.well d.but)⟩, p.nsw, p.ngw⟩
theorem PS2.app {K : PySem.W.Frag} {wl g st wi : Addr} {H0 H : Hp} {gs : List Gt} {sts : List Nat} {ws : List Wr} {vs : List V} {v : V} {x : Wr} (p : PS2 K wl H0 H g st wi gs sts ws) (hv : H wi = some (.lst vs)) (hx : WireV K H v x) :
    PS2 K wl H0 (upd H wi (.lst (vs ++ [v]))) g st wi gs sts (ws ++ [x]) := by
  obtain ⟨vs', h, a⟩ := p.wv
  obtain ⟨gv, hg, ag⟩ := p.gl
  rw [hv] at h
  cases h
  have t : TK H (upd H wi (.lst (vs ++ [v]))) := TK.lst hv
  exact ⟨⟨p.w0, set_well p.dr p.wn (p.w0.ne p.wn).symm, p.gn, ⟨gv, by rw [upd_ne p.ngw]; exact hg, ag.imp fun _ _ r => r.tk t⟩, p.gok, p.g0⟩, p.sn, by rw [upd_ne p.nsw]; exact p.sl, p.wn, ⟨_, upd_same, (a.imp fun _ _ r => r.tk t).snoc (hx.tk t)⟩, p.nsw, p.ngw⟩
/-- the wires into the gates ahead of i -/
structure WInv (gs : List Gt) (ws : List Wr) (i : Nat) : Prop where
  ok : ∀ x ∈ ws, WOk gs x ∧ (x.2.2 = [] → x.1 < x.2.1) ∧ x.2.1 < i
  one : ∀ e, e < i → kindAt gs e = "out" → cnt ws e = 1
  some : ∀ e, e < i → kindAt gs e = "first" → 1 ≤ cnt ws e
  len : ws.length ≤ 3 * i
  r2 : ∀ x ∈ ws, x.2.2.length ≤ 2
/-- .. and j wires into the gate i -/
structure WInv2 (gs : List Gt) (ws : List Wr) (i j : Nat) : Prop where
  ok : ∀ x ∈ ws, WOk gs x ∧ (x.2.2 = [] → x.1 < x.2.1) ∧ x.2.1 < i + 1
  one : ∀ e, e < i → kindAt gs e = "out" → cnt ws e = 1
  some : ∀ e, e < i → kindAt gs e = "first" → 1 ≤ cnt ws e
  here : cnt ws i = j
  len : ws.length ≤ 3 * i + j
  r2 : ∀ x ∈ ws, x.2.2.length ≤ 2
theorem WInv.go {gs : List Gt} {ws : List Wr} {i : Nat} (h : WInv gs ws i) : WInv2 gs ws i 0 := by
  refine ⟨fun x hx => ⟨(h.ok x hx).1, (h.ok x hx).2.1, by have := (h.ok x hx).2.2; omega⟩, h.one, h.some, ?_, h.len, h.r2⟩
  unfold cnt
  rw [List.countP_eq_zero]
  intro x hx z
  have := (h.ok x hx).2.2
  simp at z
  omega
theorem WInv2.app {gs : List Gt} {ws : List Wr} {i j : Nat} {x : Wr} (h : WInv2 gs ws i j) (hx : WOk gs x) (hr : x.2.2 = [] → x.1 < x.2.1) (he : x.2.1 = i) (h2 : x.2.2.length ≤ 2) : WInv2 gs (ws ++ [x]) i (j + 1) := by
  have c : ∀ e, e < i → cnt (ws ++ [x]) e = cnt ws e := fun e he' => by
    unfold cnt
    rw [List.countP_append]
    have : (x.2.1 == e) = false := by simp; omega
    simp [List.countP_cons, this]
  refine ⟨fun y hy => ?_, fun e h1 h2 => by rw [c e h1]; exact h.one e h1 h2, fun e h1 h2 => by rw [c e h1]; exact h.some e h1 h2, ?_, by have := h.len; simp; omega, fun y hy => ?_⟩
  · rcases List.mem_append.mp hy with hy | hy
    · exact h.ok y hy
    · simp at hy
      subst hy
      exact ⟨hx, hr, by omega⟩
  · have := h.here
    unfold cnt at this ⊢
    rw [List.countP_append, this]
    simp [List.countP_cons, he]
  · rcases List.mem_append.mp hy with hy | hy
    · exact h.r2 y hy
    · simp at hy
      subst hy
      exact h2
theorem WInv2.done {gs : List Gt} {ws : List Wr} {i j : Nat} (h : WInv2 gs ws i j) (h1 : kindAt gs i = "out" → j = 1) (h2 : kindAt gs i = "first" → 1 ≤ j) (hj : j ≤ 3) : WInv gs ws (i + 1) := by
  refine ⟨fun x hx => h.ok x hx, fun e he hk => ?_, fun e he hk => ?_, by have := h.len; omega, h.r2⟩
  · by_cases hi : e = i
    · subst hi
      rw [h.here]
      exact h1 hk
    · exact h.one e (by omega) hk
  · by_cases hi : e = i
    · subst hi
      rw [h.here]
      exact h2 hk
    · exact h.some e (by omega) hk
theorem WInv.net {gs : List Gt} {ws : List Wr} (h : WInv gs ws gs.length) (ne : gs ≠ []) (gl : gs.length ≤ 100) (gok : ∀ g ∈ gs, GOk g) : NetOk gs ws :=
  ⟨ne, gl, by have := h.len; omega, gok, fun x hx => (h.ok x hx).1, h.one, h.some, id, fun x hx hr => (h.ok x hx).2.1 hr⟩
theorem many_ok (k : Str) (d2 d4 : Int) (a2 : 0 ≤ d2) (b2 : d2 < 2) (a4 : 0 ≤ d4) (b4 : d4 < 4) :
    ∃ m : Int, (valV (mergeK [] [((Sum.inr "in" : Key), V.int 0), (Sum.inr "out", V.int 1), (Sum.inr "first", V.int (1 + d2))]) (Sum.inr k)).getD (V.int d4) = V.int m ∧ 0 ≤ m ∧ m ≤ 3 ∧ (k = "in" → m = 0) ∧ (k = "out" → m = 1) ∧ (k = "first" → 1 ≤ m) := by
  have n1 : ¬ (("in" : Str) = "out") := by decide +kernel
  have n2 : ¬ (("in" : Str) = "first") := by decide +kernel
  have n3 : ¬ (("out" : Str) = "first") := by decide +kernel
  have e : mergeK [] [((Sum.inr "in" : Key), V.int 0), (Sum.inr "out", V.int 1), (Sum.inr "first", V.int (1 + d2))] = [((Sum.inr "in" : Key), V.int 0), (Sum.inr "out", V.int 1), (Sum.inr "first", V.int (1 + d2))] := by
    simp [mergeK, putK, n1, n2, n3]
  rw [e]
  by_cases h1 : k = "in"
  · subst h1
    rw [valV_pos rfl]
    exact ⟨0, rfl, by decide, by decide, fun _ => rfl, fun z => absurd z n1, fun z => absurd z n2⟩
  · rw [valV_neg (by intro z; exact h1 (Sum.inr.inj z).symm)]
    by_cases h2 : k = "out"
    · subst h2
      rw [valV_pos rfl]
      exact ⟨1, rfl, by decide, by decide, fun z => absurd z h1, fun _ => rfl, fun z => absurd z n3⟩
    · rw [valV_neg (by intro z; exact h2 (Sum.inr.inj z).symm)]
      by_cases h3 : k = "first"
      · subst h3
        rw [valV_pos rfl]
        exact ⟨1 + d2, rfl, by omega, by omega, fun z => absurd z h1, fun z => absurd z h2, fun _ => by omega⟩
      · rw [valV_neg (by intro z; exact h3 (Sum.inr.inj z).symm), valV_nil]
        exact ⟨d4, rfl, by omega, by omega, fun z => absurd z h1, fun z => absurd z h2, fun z => absurd z h3⟩
end Lag

set_option maxRecDepth 100000
set_option maxHeartbeats 8000000
namespace Lag
open PySem PySem.Spec PyProof.Rows L2
/-- lists of gates, of wires, that stand tracked -/
def LG (K : PySem.W.Frag) (H : Hp) (l : Addr) (gs : List Gt) : Prop := ∃ vs, H l = some (.lst vs) ∧ All2 (GateV K H) vs gs
def LW (K : PySem.W.Frag) (H : Hp) (l : Addr) (ws : List Wr) : Prop := ∃ vs, H l = some (.lst vs) ∧ All2 (WireV K H) vs ws
def spParts (K : PySem.W.Frag) : Sp := fun vs H Q _ => ∃ (wl : Addr) (m : Int), vs = [.ref wl, .int m] ∧ 0 < m ∧ m ≤ 20 ∧ WellAt wl H ∧
  ∀ (gs : List Gt) (ws : List Wr) (lg lw p : Addr) (H' : Hp), NetOk gs ws → gs.length ≤ 20 → (∀ x ∈ ws, x.2.2.length ≤ 2) → ws.length ≤ 100 → Dr wl H H' → H lg = none → H lw = none → lg ≠ lw → LG K H' lg gs → LW K H' lw ws → H' p = some (.tup [.ref lg, .ref lw]) → Q (.ref p) H'
abbrev nParts : List Str := ["_law_well_here", "_law_most", "_law_gates", "_law_k", "_law_starts", "_law_wires", "_law_end", "_law_kind", "_law_wait", "_law_many", "_law_left", "_law_gate_here", "_law_start", "_law_row"]
theorem kindAt_get {gs : List Gt} {i : Nat} {g : Gt} (h : gs[i]? = some g) : kindAt gs i = g.1 := by
  unfold kindAt
  rw [List.getD_eq_getElem?_getD, h]
  rfl
/-- all but the well and one list is kept -/
theorem TK.two {wl L : Addr} {H H' : Hp} {vs : List V} (W : WellAt wl H) (hL : H L = some (.lst vs)) (k : ∀ b o, b ≠ wl → b ≠ L → H b = some o → H' b = some o) : TK H H' := fun c u t e => by
  obtain ⟨x, y, z, h⟩ := W
  refine k c u (fun z => ?_) (fun z => ?_) e
  · rw [z, h] at e
    cases e
    exact t
  · rw [z, hL] at e
    cases e
    exact t
theorem PS1.two {K : PySem.W.Frag} {wl g L : Addr} {H0 H H' : Hp} {gs : List Gt} {vs : List V} (p : PS1 K wl H0 H g gs) (hL : H L = some (.lst vs)) (h0 : H0 L = none) (ng : g ≠ L) (k : ∀ b o, b ≠ wl → b ≠ L → H b = some o → H' b = some o) (W : WellAt wl H') : PS1 K wl H0 H' g gs := by
  obtain ⟨gv, h, a⟩ := p.gl
  exact ⟨p.w0, ⟨fun b o n e => k b o n (ne_of_none e h0) (p.dr.but b o n e), W⟩, p.gn, ⟨gv, k _ _ (p.w0.ne p.gn).symm ng h, a.imp fun _ _ r => r.tk (TK.two p.dr.well hL k)⟩, p.gok, p.g0⟩
theorem all2_eq {α β : Type} {f : β → α} : ∀ {xs : List α} {ys : List β}, All2 (fun x y => x = f y) xs ys → xs = ys.map f
  | [], [], _ => rfl
  | [], _ :: _, h => by have := h.1; simp at this
  | _ :: _, [], h => by have := h.1; simp at this
  | x :: xs, y :: ys, h => by rw [List.map_cons, ← all2_eq h.tail, ← h.head]
theorem eq_all2 {α β : Type} {f : β → α} (ys : List β) : All2 (fun x y => x = f y) (ys.map f) ys := ⟨by simp, fun i x y h1 h2 => by
  rw [List.getElem?_map, h2] at h1
  exact (Option.some.inj h1).symm⟩
theorem rgV_nat (n : Nat) : rgV 0 (n : Int) = (List.range n).map fun i => V.int (i : Nat) := by
  unfold rgV
  have : ((n : Int) - 0).toNat = n := by omega
  rw [this]
  refine List.map_congr_left fun i _ => ?_
  rw [Int.zero_add]
theorem flat_ints (l : List Nat) : (l.map fun i => V.int (i : Nat)).all flatV = true := by
  rw [List.all_eq_true]
  intro x hx
  obtain ⟨i, _, rfl⟩ := List.mem_map.mp hx
  rfl
/-- where a number stands among numbers without two alike -/
theorem idx_at {left : List Nat} {a : Nat} (h : a ∈ left) : (left.map fun i => V.int (i : Nat))[left.idxOf a]? = some (V.int (a : Nat)) := by
  rw [List.getElem?_map, List.getElem?_eq_getElem (List.idxOf_lt_length_iff.mpr h), List.getElem_idxOf]
  rfl
theorem eqV_int (a b : Int) : eqV (V.int a) (V.int b) = decide (a = b) := rfl
theorem idx_no {left : List Nat} {a m : Nat} {z : V} (nd : left.Nodup) (hm : m < left.idxOf a) (h : (left.map fun i => V.int (i : Nat))[m]? = some z) : eqV z (V.int (a : Nat)) = false := by
  rw [List.getElem?_map] at h
  cases e : left[m]? with
  | none =>
    rw [e] at h
    cases h
  | some b =>
    rw [e] at h
    cases h
    rw [eqV_int]
    refine decide_eq_false fun z => ?_
    have z : b = a := by omega
    obtain ⟨hm', eb⟩ := List.getElem?_eq_some_iff.mp e
    have := List.Nodup.idxOf_getElem nd m hm'
    rw [eb, z] at this
    omega
section
variable {P : Program} {w : World} {K : PySem.W.Frag} {mg : Str → Option Value} {base : Heap}
abbrev DParts (P : Program) (w : World) (K : PySem.W.Frag) (mg : Str → Option Value) (base : Heap) := Df P w K mg base 4 "_law_parts" ["_law_well_here", "_law_most"] (spParts K)
end
end Lag

set_option maxRecDepth 100000
set_option maxHeartbeats 4000000
namespace Lag
open PySem PySem.Spec PyProof.Rows L2
abbrev sWhole : Stmt := topS 8
abbrev sFromTo : Stmt := topS 9
abbrev sWorth : Stmt := topS 10
abbrev sIsGate : Stmt := topS 21
abbrev sChkGates : Stmt := topS 20
/-! ### o[i] of a list, by values -/
def rGetL (K : PySem.W.Frag) : V → V → Hp → VK → Prop := fun o i H Q => ∃ (p : Addr) (xs : List V) (j : Nat) (v : V), o = .ref p ∧ i = .int (j : Nat) ∧ SqL K H p xs ∧ xs[j]? = some v ∧ Q v H
theorem get_list {X : Cx} : PGet X (rGetL X.K) := by
  intro pins s σ H o i ov iv Q I ro ri h
  obtain ⟨p, xs, j, v, rfl, rfl, hq, he, q⟩ := h
  cases ro
  obtain ⟨t, rfl⟩ := ri
  obtain ⟨its, r, pl, hz⟩ := I.list hq
  obtain ⟨w, ew, rw'⟩ := r.get he
  have hl := r.length
  have hn := line63
  have hj : j < its.length := (List.getElem?_eq_some_iff.mp ew).1
  exact wpAny_getItem_list pl.isList (by omega) (by omega) (by simpa using ew) ⟨v, H, I, rw', q⟩
/-! ### names of built-ins, constants of the text -/
structure Bt (mg : Str → Option Value) : Prop where
  isi : mg "isinstance" = none
  int : mg "int" = none
  bool : mg "bool" = none
  len : mg "len" = none
  tuple : mg "tuple" = none
  str : mg "str" = none
  list : mg "list" = none
  all : mg "all" = none
  enum : mg "enumerate" = none
  zip : mg "zip" = none
  range : mg "range" = none
  max : mg "max" = none
structure Cns (K : PySem.W.Frag) (mg : Str → Option Value) (aK aW aF : Addr) : Prop where
  gw : ∃ t, mg "GREATEST_WORTH" = some (.int 96 t)
  ga : ∃ t, mg "GREATEST_WAIT" = some (.int 100 t)
  mK : mg "KINDS" = some (.ref aK)
  sK : ∀ H, SqT K H aK (kinds.map V.str)
  mW : mg "OUTER_KINDS" = some (.ref aW)
  sW : ∀ H, SqT K H aW [.str "in", .str "out"]
  mF : mg "KINDS_WITH_A_WIRE" = some (.ref aF)
  sF : ∀ H, SqT K H aF [.str "out", .str "first"]
theorem ty_tup {K : PySem.W.Frag} {H : Hp} {a : Addr} {xs : List V} (h : SqT K H a xs) : TyX K H (.ref a) (.type "tuple") := by
  rcases h with (h | ⟨o, h⟩) | ⟨o, its, n, hk, hc, _⟩
  · exact .base (.tup h)
  · exact .fTuple h
  · exact .kTuple hk hc
theorem ty_lst {K : PySem.W.Frag} {H : Hp} {a : Addr} {xs : List V} (h : SqL K H a xs) : TyX K H (.ref a) (.type "list") := by
  rcases h with (h | ⟨o, h⟩) | ⟨o, its, n, hk, hc, _⟩
  · exact .base (.lst h)
  · exact .base (.frz h)
  · exact .kList hk hc
/-! ### promises -/
def spWhole : Sp := fun vs H Q _ => ∃ n : Int, vs = [.int n] ∧ Q (.bl true) H
def spFromTo : Sp := fun vs H Q _ => ∃ n a b : Int, vs = [.int n, .int a, .int b] ∧ Q (.bl (decide (a ≤ n) && decide (n ≤ b))) H
def spWorth : Sp := fun vs H Q _ => ∃ n : Int, vs = [.int n] ∧ Q (.bl (decide (0 ≤ n) && decide (n ≤ 96))) H
def spIsGate (K : PySem.W.Frag) : Sp := fun vs H Q _ => ∃ (v : V) (g : Gt), vs = [v] ∧ GateV K H v g ∧ GOk g ∧ ∀ H', Same H H' → Q (.bl true) H'
/-- lists that are read -/
def RG (K : PySem.W.Frag) (H : Hp) (l : Addr) (gs : List Gt) : Prop := ∃ vs, SqL K H l vs ∧ All2 (GateV K H) vs gs
def RW (K : PySem.W.Frag) (H : Hp) (l : Addr) (ws : List Wr) : Prop := ∃ vs, SqL K H l vs ∧ All2 (WireV K H) vs ws
theorem RG.same {K : PySem.W.Frag} {H H' : Hp} {l : Addr} {gs : List Gt} (h : RG K H l gs) (s : Same H H') : RG K H' l gs := by
  obtain ⟨vs, q, a⟩ := h
  exact ⟨vs, s.seq q, a.imp fun _ _ r => r.tk (TK.same s)⟩
theorem RW.same {K : PySem.W.Frag} {H H' : Hp} {l : Addr} {ws : List Wr} (h : RW K H l ws) (s : Same H H') : RW K H' l ws := by
  obtain ⟨vs, q, a⟩ := h
  exact ⟨vs, s.seq q, a.imp fun _ _ r => r.tk (TK.same s)⟩
def spChkGates (K : PySem.W.Frag) : Sp := fun vs H Q _ => ∃ (l : Addr) (gs : List Gt), vs = [.ref l] ∧ RG K H l gs ∧ gs ≠ [] ∧ (∀ g ∈ gs, GOk g) ∧ ∀ H', Same H H' → Q .non H'
section
variable {P : Program} {w : World} {K : PySem.W.Frag} {mg : Str → Option Value} {base : Heap}
/-! ### is_whole, is_whole_from_to, is_worth -/
theorem scWhole : FnScope ["thing"] ["thing"] (defScope sWhole) := ⟨rfl, rfl, rfl, by decide +kernel, rfl, by decide +kernel, by decide +kernel⟩
abbrev DWhole (P : Program) (w : World) (K : PySem.W.Frag) (mg : Str → Option Value) (base : Heap) := Df P w K mg base 1 "is_whole" ["thing"] spWhole
theorem ok_whole {f : Addr} {fd : FuncData} (F : Fun K "is_whole" "is_whole" sWhole f fd) (hm : mg "is_whole" = some (.ref f)) (B : Bt mg) : DWhole P w K mg base f fd := by
  refine ⟨?_, hm, F.kp, F.binds fun _ _ _ _ _ _ us hl => match us, hl with | [_], _ => rfl⟩
  refine F.ok scWhole (fun vs H Q E h => ?_) (fun cdv A outer s H vs Q E hr h => ?_)
  · obtain ⟨n, rfl, _⟩ := h
    rfl
  · obtain ⟨n, rfl, q⟩ := h
    refine ⟨_, pss_one <| ps_ret <| pe_and (pe_callB call_isi (by rfl) B.isi (by decide +kernel) (pa_cons (pv 0) (pa_cons (pe_bltn (v := .ty "int") (by rfl) B.int (by decide +kernel) rfl) pa_nil)))
      (pe_one (pe_not (pe_callB call_isi (by rfl) B.isi (by decide +kernel) (pa_cons (pv 0) (pa_cons (pe_bltn (v := .ty "bool") (by rfl) B.bool (by decide +kernel) rfl) pa_nil))))), ?_⟩
    refine ⟨_, rfl, _, _, _, _, true, rfl, .ty "int", .base (.int n), kit_ty (by decide +kernel), true, rfl, iteT ?_⟩
    exact ⟨_, rfl, _, _, _, _, false, rfl, .ty "bool", .base (.int n), kit_ty (by decide +kernel), false, rfl, q⟩
theorem scFromTo : FnScope ["thing", "least", "greatest"] ["thing", "least", "greatest"] (defScope sFromTo) := ⟨rfl, rfl, rfl, by decide +kernel, rfl, by decide +kernel, by decide +kernel⟩
abbrev DFromTo (P : Program) (w : World) (K : PySem.W.Frag) (mg : Str → Option Value) (base : Heap) := Df P w K mg base 2 "is_whole_from_to" ["thing", "least", "greatest"] spFromTo
theorem ok_fromTo {f fW : Addr} {fd fdW : FuncData} (F : Fun K "is_whole_from_to" "is_whole_from_to" sFromTo f fd) (hm : mg "is_whole_from_to" = some (.ref f)) (DW : DWhole P w K mg base fW fdW) : DFromTo P w K mg base f fd := by
  refine ⟨?_, hm, F.kp, F.binds fun _ _ _ _ _ _ us hl => match us, hl with | [_, _, _], _ => rfl⟩
  refine F.ok scFromTo (fun vs H Q E h => ?_) (fun cdv A outer s H vs Q E hr h => ?_)
  · obtain ⟨n, a, b, rfl, _⟩ := h
    rfl
  · obtain ⟨n, a, b, rfl, q⟩ := h
    refine ⟨_, pss_one <| ps_ret <| pe_and (pe_call DW.ok hr (by rfl) DW.mg DW.kp DW.bd .nil pass0 (pa_cons (pv 0) pa_nil)) (pe_one (pe_chain op_le op_le (pv 1) (pv 0) (pv 2))), ?_⟩
    refine ⟨_, rfl, n, rfl, true, rfl, iteT ?_⟩
    refine ⟨_, rfl, _, rfl, _, _, rfl, rfl, _, rfl, ?_⟩
    cases e : decide (a ≤ n) with
    | false =>
      rw [e] at q
      exact iteF q
    | true =>
      rw [e] at q
      exact iteT ⟨_, rfl, _, _, rfl, rfl, q⟩
theorem scWorth : FnScope ["thing"] ["thing"] (defScope sWorth) := ⟨rfl, rfl, rfl, by decide +kernel, rfl, by decide +kernel, by decide +kernel⟩
abbrev DWorth (P : Program) (w : World) (K : PySem.W.Frag) (mg : Str → Option Value) (base : Heap) := Df P w K mg base 3 "is_worth" ["thing"] spWorth
theorem ok_worth {f fF aK aW aF : Addr} {fd fdF : FuncData} (F : Fun K "is_worth" "is_worth" sWorth f fd) (hm : mg "is_worth" = some (.ref f)) (C : Cns K mg aK aW aF) (DF : DFromTo P w K mg base fF fdF) : DWorth P w K mg base f fd := by
  obtain ⟨tg, hgw⟩ := C.gw
  refine ⟨?_, hm, F.kp, F.binds fun _ _ _ _ _ _ us hl => match us, hl with | [_], _ => rfl⟩
  refine F.ok scWorth (fun vs H Q E h => ?_) (fun cdv A outer s H vs Q E hr h => ?_)
  · obtain ⟨n, rfl, _⟩ := h
    rfl
  · obtain ⟨n, rfl, q⟩ := h
    refine ⟨_, pss_one <| ps_ret <| pe_call DF.ok hr (by rfl) DF.mg DF.kp DF.bd .nil pass0 <| pa_cons (pv 0) <| pa_cons pe_int <| pa_cons (pe_glob (v := .int 96) (by rfl) hgw ⟨_, rfl⟩) pa_nil, ?_⟩
    exact ⟨_, rfl, n, 0, 96, rfl, q⟩
/-! ### is_gate -/
theorem scIsGate : FnScope ["thing", "kind", "wait"] ["thing"] (defScope sIsGate) := ⟨rfl, rfl, rfl, by decide +kernel, rfl, by decide +kernel, by decide +kernel⟩
abbrev DIsGate (P : Program) (w : World) (K : PySem.W.Frag) (mg : Str → Option Value) (base : Heap) := Df P w K mg base 3 "is_gate" ["thing"] (spIsGate K)
theorem kinds_in {k : Str} (h : k ∈ kinds) : inV (.str k) (kinds.map V.str) = true := by
  unfold inV
  rw [List.any_eq_true]
  exact ⟨.str k, List.mem_map.mpr ⟨k, h, rfl⟩, beq_self_eq_true k⟩
theorem flat_strs (l : List Str) : (l.map V.str).all flatV = true := by
  rw [List.all_eq_true]
  intro x hx
  obtain ⟨i, _, rfl⟩ := List.mem_map.mp hx
  rfl
theorem ok_isGate {f fF aK aW aF : Addr} {fd fdF : FuncData} (F : Fun K "is_gate" "is_gate" sIsGate f fd) (hm : mg "is_gate" = some (.ref f)) (B : Bt mg) (C : Cns K mg aK aW aF) (DF : DFromTo P w K mg base fF fdF) : DIsGate P w K mg base f fd := by
  obtain ⟨tg, hga⟩ := C.ga
  refine ⟨?_, hm, F.kp, F.binds fun _ _ _ _ _ _ us hl => match us, hl with | [_], _ => rfl⟩
  refine F.ok scIsGate (fun vs H Q E h => ?_) (fun cdv A outer s H vs Q E hr h => ?_)
  · obtain ⟨v, g, rfl, _⟩ := h
    rfl
  · obtain ⟨v, g, rfl, ⟨a, rfl, sq⟩, gok, q⟩ := h
    have nd := scIsGate.nd
    refine ⟨_, pss_cons (ps_if (PW.pt (pw_or (pt_not (pt_val (pe_callB call_isi (by rfl) B.isi (by decide +kernel) (pa_cons (pv 0) (pa_cons (pe_bltn (v := .ty "tuple") (by rfl) B.tuple (by decide +kernel) rfl) pa_nil)))))
          (pw_or1 (pt_cmpR op_ne (pe_callB call_len_seq (by rfl) B.len PySem.boot_len (pa_cons (pv 0) pa_nil)) pe_int (nomark _))))) (pss_one (ps_ret pe_bl)) pss_nil) <|
      pss_cons (ps_asg (pv 0) (pg_tup (by rfl) (pgs_cons (pg_name (i := 1) nd rfl (.inl rfl)) (pgs_cons (pg_name (i := 2) nd rfl (.inl rfl)) pgs_nil)))) <|
      pss_cons (ps_if (PW.pt (pw_or (pt_not (pt_val (pe_callB call_isi (by rfl) B.isi (by decide +kernel) (pa_cons (pv 1) (pa_cons (pe_bltn (v := .ty "str") (by rfl) B.str (by decide +kernel) rfl) pa_nil)))))
          (pw_or1 (pt_cmpR op_notIn_seq (pv 1) (pe_glob (v := .ref aK) (by rfl) C.mK rfl) (by rfl))))) (pss_one (ps_ret pe_bl)) pss_nil) <|
      pss_one <| ps_ret <| pe_call DF.ok hr (by rfl) DF.mg DF.kp DF.bd .nil pass0 <| pa_cons (pv 2) <| pa_cons pe_int <| (pa_cons · pa_nil) <|
        pe_ifExp (pt_cmpR op_in_seq (pv 1) (pe_glob (v := .ref aW) (by rfl) C.mW rfl) (by rfl)) pe_int (pe_glob (v := .int 100) (by rfl) hga ⟨_, rfl⟩), ?_⟩
    refine ⟨_, rfl, _, _, _, _, true, rfl, .ty "tuple", ty_tup sq, kit_ty (by decide +kernel), true, rfl, ?_⟩
    refine iteF ⟨_, rfl, a, _, rfl, .inr sq, rfl, _, rfl, iteF ?_⟩
    refine ⟨_, rfl, a, _, rfl, sq, rfl, _, _, rfl, _, _, rfl, rfl, ?_⟩
    refine ⟨_, rfl, _, _, _, _, true, rfl, .ty "str", .base (.str g.1), kit_ty (by decide +kernel), true, rfl, ?_⟩
    refine iteF ⟨_, rfl, aK, _, rfl, .inr (C.sK H), rfl, flat_strs _, false, ?_, iteF ?_⟩
    · show V.bl (!inV (V.str g.1) (kinds.map V.str)) = V.bl false
      rw [kinds_in gok.1]
      rfl
    refine ⟨_, rfl, _, rfl, aW, _, rfl, .inr (C.sW H), rfl, rfl, _, rfl, ite2 (fun e => ?_) (fun e => ?_)⟩
    · have hp : portK g.1 := by
        have e' : inV (V.str g.1) [V.str "in", V.str "out"] = true := e
        unfold inV at e'
        rw [List.any_eq_true] at e'
        obtain ⟨x, hx, hxe⟩ := e'
        simp only [List.mem_cons, List.not_mem_nil, or_false] at hx
        rcases hx with rfl | rfl
        · exact .inl (eq_of_beq hxe).symm
        · exact .inr (eq_of_beq hxe).symm
      have h0 := gok.2.2.2 hp
      refine ⟨g.2, 0, 0, rfl, ?_⟩
      rw [h0]
      exact q H (Same.refl H)
    · refine ⟨g.2, 0, 100, rfl, ?_⟩
      rw [decide_eq_true gok.2.1, decide_eq_true gok.2.2.1]
      exact q H (Same.refl H)
end
end Lag

set_option maxRecDepth 100000
set_option maxHeartbeats 4000000
namespace Lag
open PySem PySem.Spec PyProof.Rows L2
abbrev sIsWire : Stmt := topS 23
abbrev sTaken : Stmt := topS 24
def spIsWire (K : PySem.W.Frag) : Sp := fun vs H Q _ => ∃ (v : V) (x : Wr) (n : Nat), vs = [v, .int (n : Nat)] ∧ WireV K H v x ∧ x.1 < n ∧ x.2.1 < n ∧ ROk x.2.2 ∧ x.2.2.length ≤ 1000 ∧ ∀ H', Same H H' → Q (.bl true) H'
def spTaken (K : PySem.W.Frag) : Sp := fun vs H Q _ => ∃ (v : V) (x : Wr) (lg lc : Addr) (gs : List Gt) (cs : List Nat), vs = [v, .ref lg, .ref lc] ∧ WireV K H v x ∧ RG K H lg gs ∧ SqL K H lc (cs.map fun i => V.int (i : Nat)) ∧ WOk gs x ∧ cs.length = gs.length ∧
  (kindAt gs x.2.1 = "out" → cs[x.2.1]? = some 0) ∧ Q (.bl true) H
section
variable {P : Program} {w : World} {K : PySem.W.Frag} {mg : Str → Option Value} {base : Heap}
/-! ### check_gates -/
theorem scChkGates : FnScope ["gates", "thing"] ["gates"] (defScope sChkGates) := ⟨rfl, rfl, rfl, by decide +kernel, rfl, by decide +kernel, by decide +kernel⟩
abbrev DChkGates (P : Program) (w : World) (K : PySem.W.Frag) (mg : Str → Option Value) (base : Heap) := Df P w K mg base 4 "check_gates" ["gates"] (spChkGates K)
theorem ok_chkGates {f fG : Addr} {fd fdG : FuncData} (F : Fun K "check_gates" "check_gates" sChkGates f fd) (hm : mg "check_gates" = some (.ref f)) (B : Bt mg) (DG : DIsGate P w K mg base fG fdG) : DChkGates P w K mg base f fd := by
  refine ⟨?_, hm, F.kp, F.binds fun _ _ _ _ _ _ us hl => match us, hl with | [_], _ => rfl⟩
  refine F.ok scChkGates (fun vs H Q E h => ?_) (fun cdv A outer s H vs Q E hr h => ?_)
  · obtain ⟨l, gs, rfl, _⟩ := h
    rfl
  · obtain ⟨l, gs, rfl, R, hne, gok, q⟩ := h
    have nd := scChkGates.nd
    refine ⟨_, pss_cons (ps_if (PW.pt (pw_or (pt_not (pt_val (pe_callB call_isi (by rfl) B.isi (by decide +kernel) (pa_cons (pv 0) (pa_cons (pe_bltn (v := .ty "list") (by rfl) B.list (by decide +kernel) rfl) pa_nil)))))
          (pw_or1 (pt_cmpR op_eq (pe_callB call_len_seq (by rfl) B.len PySem.boot_len (pa_cons (pv 0) pa_nil)) pe_int (nomark _))))) (pss_one ps_never) pss_nil) <|
      pss_one <| ps_for PassesOwn.never rfl (pi_list (pv 0)) (pg_name (i := 1) nd rfl (.inl rfl)) <|
        pss_one <| ps_if (pt_not (pt_val (pe_call DG.ok hr (by rfl) DG.mg DG.kp DG.bd .nil pass0 (pa_cons (pv 1) pa_nil)))) (pss_one ps_never) pss_nil, ?_⟩
    obtain ⟨gv, sg, ga⟩ := R
    have hl : gv.length = gs.length := ga.1
    have hpos : 0 < gs.length := by
      cases gs with
      | nil => exact absurd rfl hne
      | cons _ _ => simp
    refine ⟨_, rfl, _, _, _, _, true, rfl, .ty "list", ty_lst sg, kit_ty (by decide +kernel), true, rfl, ?_⟩
    refine iteF ⟨_, rfl, l, gv, rfl, .inl sg, rfl, false, ?_, iteF ?_⟩
    · show V.bl (decide (V.int (gv.length : Int) = V.int 0)) = V.bl false
      rw [decide_eq_false]
      intro z
      have := V.int.inj z
      omega
    refine ⟨_, rfl, l, rfl, ⟨_, sg⟩, for_list (K := K) (a := l) (xs := gv) (fun i σ H2 => ∃ y, σ = [some (.ref l), y] ∧ Same H H2) ⟨_, rfl, Same.refl H⟩ (fun i σ H2 _ ⟨_, _, sm⟩ => sm.seq sg) ?_ ?_⟩
    · rintro i x σ H2 hx ⟨y, rfl, sm⟩
      obtain ⟨g, hg, gv⟩ := ga.get hx
      refine ⟨_, rfl, x, g, rfl, gv.tk (TK.same sm), gok g (List.mem_of_getElem? hg), fun H3 sm3 => ⟨true, rfl, iteF ⟨_, rfl, sm.trans sm3⟩⟩⟩
    · rintro σ H2 ⟨y, rfl, sm⟩
      exact q H2 sm
/-! ### is_wire -/
abbrev nIsWire : List Str := ["thing", "many_gates", "start", "end", "held", "worth"]
theorem scIsWire : FnScope nIsWire ["thing", "many_gates"] (defScope sIsWire) := ⟨rfl, rfl, rfl, by decide +kernel, rfl, by decide +kernel, by decide +kernel⟩
abbrev DIsWire (P : Program) (w : World) (K : PySem.W.Frag) (mg : Str → Option Value) (base : Heap) := Df P w K mg base 4 "is_wire" ["thing", "many_gates"] (spIsWire K)
theorem ok_isWire {f fF fW : Addr} {fd fdF fdW : FuncData} (F : Fun K "is_wire" "is_wire" sIsWire f fd) (hm : mg "is_wire" = some (.ref f)) (B : Bt mg) (DF : DFromTo P w K mg base fF fdF) (DW : DWorth P w K mg base fW fdW) : DIsWire P w K mg base f fd := by
  refine ⟨?_, hm, F.kp, F.binds fun _ _ _ _ _ _ us hl => match us, hl with | [_, _], _ => rfl⟩
  refine F.ok scIsWire (fun vs H Q E h => ?_) (fun cdv A outer s H vs Q E hr h => ?_)
  · obtain ⟨v, x, n, rfl, _⟩ := h
    rfl
  · obtain ⟨v, x, n, rfl, ⟨a, b, rfl, sq1, sq2⟩, hs, he, rok, rl, q⟩ := h
    have nd := scIsWire.nd
    have hr2 : Room 2 _ := hr.mono (by decide)
    refine ⟨_, pss_cons (ps_if (PW.pt (pw_or (pt_not (pt_val (pe_callB call_isi (by rfl) B.isi (by decide +kernel) (pa_cons (pv 0) (pa_cons (pe_bltn (v := .ty "tuple") (by rfl) B.tuple (by decide +kernel) rfl) pa_nil)))))
          (pw_or1 (pt_cmpR op_ne (pe_callB call_len_seq (by rfl) B.len PySem.boot_len (pa_cons (pv 0) pa_nil)) pe_int (nomark _))))) (pss_one (ps_ret pe_bl)) pss_nil) <|
      pss_cons (ps_asg (pv 0) (pg_tup (by rfl) (pgs_cons (pg_name (i := 2) nd rfl (.inl rfl)) (pgs_cons (pg_name (i := 3) nd rfl (.inl rfl)) (pgs_cons (pg_name (i := 4) nd rfl (.inl rfl)) pgs_nil))))) <|
      pss_cons (ps_if (PW.pt (pw_or (pt_not (pt_val (pe_call DF.ok hr2 (by rfl) DF.mg DF.kp DF.bd .nil pass0 (pa_cons (pv 2) (pa_cons pe_int (pa_cons (pe_op op_sub (pv 1) pe_int) pa_nil))))))
          (pw_or1 (pt_not (pt_val (pe_call DF.ok hr2 (by rfl) DF.mg DF.kp DF.bd .nil pass0 (pa_cons (pv 3) (pa_cons pe_int (pa_cons (pe_op op_sub (pv 1) pe_int) pa_nil))))))))) (pss_one (ps_ret pe_bl)) pss_nil) <|
      pss_one <| ps_ret <| pe_and (pe_callB call_isi (by rfl) B.isi (by decide +kernel) (pa_cons (pv 4) (pa_cons (pe_bltn (v := .ty "tuple") (by rfl) B.tuple (by decide +kernel) rfl) pa_nil))) <| pe_one <|
        pe_callB (cr_all rfl) (by rfl) B.all (by decide +kernel) <| (pa_cons · pa_nil) <| pe_lc (own := [("worth", 5)]) (g := gName 5) (tt := tYes) (te := tCall spWorth [] E0 (tCons (tVar 5) tNil)) rfl nd (pi_tup (pv 4)) (blkOk_by (N := nIsWire) (sc := defScope sIsWire) (own := [("worth", 5)]) (by decide +kernel))
          (fun _ _ _ _ _ => pg_name (i := 5) nd rfl (.inl rfl)) (fun _ _ _ _ _ => pts_nil) (fun _ _ _ _ _ => pe_call DW.ok hr (by rfl) DW.mg DW.kp DW.bd .nil pass0 (pa_cons (pv 5) pa_nil)), ?_⟩
    refine ⟨_, rfl, _, _, _, _, true, rfl, .ty "tuple", ty_tup sq1, kit_ty (by decide +kernel), true, rfl, ?_⟩
    refine iteF ⟨_, rfl, a, _, rfl, .inr sq1, rfl, _, rfl, iteF ?_⟩
    refine ⟨_, rfl, a, _, rfl, sq1, rfl, _, _, rfl, _, _, rfl, _, _, rfl, rfl, ?_⟩
    refine ⟨_, rfl, _, rfl, _, _, rfl, rfl, _, _, _, rfl, true, ?_, iteF ?_⟩
    · rw [decide_eq_true (by omega), decide_eq_true (by omega)]
      rfl
    refine ⟨_, rfl, _, rfl, _, _, rfl, rfl, _, _, _, rfl, true, ?_, iteF ?_⟩
    · rw [decide_eq_true (by omega), decide_eq_true (by omega)]
      rfl
    refine ⟨_, rfl, _, _, _, _, true, rfl, .ty "tuple", ty_tup sq2, kit_ty (by decide +kernel), true, rfl, iteT ?_⟩
    refine ⟨_, rfl, b, rfl, ⟨_, sq2⟩, fun D hD => ?_⟩
    refine lc_tup (K := K) (a := b) (xs := x.2.2.map V.int) (fun i Hc => Hc D = some (.lst ((List.replicate i true).map V.bl)) ∧ Same H Hc) ⟨upd_same, same_new hD⟩ (fun i Hc _ ⟨_, sm⟩ => (TK.same sm).seq sq2) ?_ ?_
    · rintro i y Hc hy ⟨hc, sm⟩
      rw [List.getElem?_map] at hy
      cases ey : x.2.2[i]? with
      | none =>
        rw [ey] at hy
        cases hy
      | some z =>
      rw [ey] at hy
      cases hy
      have hz := rok z (List.mem_of_getElem? ey)
      have hi : i < x.2.2.length := (List.getElem?_eq_some_iff.mp ey).1
      refine ⟨rfl, tyes ?_⟩
      refine ⟨_, rfl, z, rfl, _, hc, by rw [List.length_map, List.length_replicate]; exact small1000 (by omega), ?_, same_mut sm hD⟩
      rw [upd_same, decide_eq_true hz.1, decide_eq_true hz.2, List.replicate_succ', List.map_append]
      rfl
    · rintro Hc ⟨hc, sm⟩
      refine ⟨D, _, rfl, SqL.of hc, ?_⟩
      have e : (List.replicate (x.2.2.map V.int).length true).all id = true := by
        rw [List.all_eq_true]
        intro y hy
        rw [List.mem_replicate] at hy
        rw [hy.2]
        rfl
      rw [e]
      exact q Hc sm
/-! ### is_taken -/
theorem scTaken : FnScope ["wire", "gates", "come", "start", "end"] ["wire", "gates", "come"] (defScope sTaken) := ⟨rfl, rfl, rfl, by decide +kernel, rfl, by decide +kernel, by decide +kernel⟩
abbrev DTaken (P : Program) (w : World) (K : PySem.W.Frag) (mg : Str → Option Value) (base : Heap) := Df P w K mg base 1 "is_taken" ["wire", "gates", "come"] (spTaken K)
theorem ok_taken {f : Addr} {fd : FuncData} (F : Fun K "is_taken" "is_taken" sTaken f fd) (hm : mg "is_taken" = some (.ref f)) : DTaken P w K mg base f fd := by
  refine ⟨?_, hm, F.kp, F.binds fun _ _ _ _ _ _ us hl => match us, hl with | [_, _, _], _ => rfl⟩
  refine F.ok scTaken (fun vs H Q E h => ?_) (fun cdv A outer s H vs Q E hr h => ?_)
  · obtain ⟨v, x, lg, lc, gs, cs, rfl, _⟩ := h
    rfl
  · obtain ⟨v, x, lg, lc, gs, cs, rfl, ⟨a, b, rfl, sq1, sq2⟩, ⟨gv, sg, ga⟩, sc, W, hcl, h0, q⟩ := h
    have nd := scTaken.nd
    refine ⟨_, pss_cons (ps_par (i := 3) (j := 4) (by rfl) nd rfl rfl (by decide) rfl rfl (pa_cons (pe_ix ix_tup (pv 0) pe_int (fun _ _ => rfl)) (pa_cons (pe_ix ix_tup (pv 0) pe_int (fun _ _ => rfl)) pa_nil)) (by rfl)) <|
      pss_cons (ps_if (PW.pt (pw_or (pt_cmpR op_eq (pe_ix ix_tup (pe_ix ix_list (pv 1) (pv 3) (fun _ _ => rfl)) pe_int (fun _ _ => rfl)) pe_str (nomark _)) (pw_or1 (pt_cmpR op_eq (pe_ix ix_tup (pe_ix ix_list (pv 1) (pv 4) (fun _ _ => rfl)) pe_int (fun _ _ => rfl)) pe_str (nomark _))))) (pss_one (ps_ret pe_bl)) pss_nil) <|
      pss_one <| ps_ret <| pe_or (pe_cmpR op_ne (pe_ix ix_tup (pe_ix ix_list (pv 1) (pv 4) (fun _ _ => rfl)) pe_int (fun _ _ => rfl)) pe_str (nomark _)) (pe_one (pe_cmpR op_eq (pe_ix ix_list (pv 2) (pv 4) (fun _ _ => rfl)) pe_int (nomark _))), ?_⟩
    have hl : gv.length = gs.length := ga.1
    obtain ⟨vs1, g1, e1, f1, a1, rfl, s1⟩ : ∃ vs1 g1, gv[x.1]? = some vs1 ∧ gs[x.1]? = some g1 ∧ GateV K H vs1 g1 := by
      have e1 : gs[x.1]? = some (gs[x.1]'W.s) := List.getElem?_eq_getElem W.s
      obtain ⟨y, hy, r⟩ := ga.getR e1
      exact ⟨y, _, hy, e1, r⟩
    obtain ⟨vs2, g2, e2, f2, a2, rfl, s2⟩ : ∃ vs2 g2, gv[x.2.1]? = some vs2 ∧ gs[x.2.1]? = some g2 ∧ GateV K H vs2 g2 := by
      have e1 : gs[x.2.1]? = some (gs[x.2.1]'W.e) := List.getElem?_eq_getElem W.e
      obtain ⟨y, hy, r⟩ := ga.getR e1
      exact ⟨y, _, hy, e1, r⟩
    have k1 := kindAt_get f1
    have k2 := kindAt_get f2
    refine ⟨_, rfl, a, _, 0, _, rfl, rfl, sq1, atI_nat (j := 0) rfl, _, rfl, a, _, 1, _, rfl, rfl, sq1, atI_nat (j := 1) rfl, _, _, rfl, ?_⟩
    refine ⟨_, rfl, _, rfl, lg, gv, _, _, rfl, rfl, sg, atI_nat e1, a1, _, 0, _, rfl, rfl, s1, atI_nat (j := 0) rfl, rfl, false, ?_, iteF ?_⟩
    · show V.bl (decide (V.str g1.1 = V.str "out")) = V.bl false
      rw [decide_eq_false]
      intro z
      exact W.ks (by rw [k1]; exact V.str.inj z)
    refine ⟨_, rfl, _, rfl, lg, gv, _, _, rfl, rfl, sg, atI_nat e2, a2, _, 0, _, rfl, rfl, s2, atI_nat (j := 0) rfl, rfl, false, ?_, iteF ?_⟩
    · show V.bl (decide (V.str g2.1 = V.str "in")) = V.bl false
      rw [decide_eq_false]
      intro z
      exact W.ke (by rw [k2]; exact V.str.inj z)
    refine ⟨_, rfl, _, rfl, lg, gv, _, _, rfl, rfl, sg, atI_nat e2, a2, _, 0, _, rfl, rfl, s2, atI_nat (j := 0) rfl, rfl, _, rfl, ite2 (fun e => ?_) (fun e => ?_)⟩
    · exact q
    · have hk : kindAt gs x.2.1 = "out" := by
        rw [k2]
        refine Classical.byContradiction fun z => e ?_
        show (!decide (V.str g2.1 = V.str "out")) = true
        rw [decide_eq_false (fun y => z (V.str.inj y))]
        rfl
      have hc := h0 hk
      refine ⟨_, rfl, _, rfl, lc, _, _, .int 0, rfl, rfl, sc, atI_nat (by rw [List.getElem?_map, hc]; rfl), rfl, q⟩
end
end Lag

set_option maxRecDepth 100000
set_option maxHeartbeats 4000000
namespace Lag
open PySem PySem.Spec PyProof.Rows L2
abbrev sChkWires : Stmt := topS 22
def cntL (n : Nat) (ws : List Wr) : List Nat := (List.range n).map (cnt ws)
theorem cntL_len (n : Nat) (ws : List Wr) : (cntL n ws).length = n := by simp [cntL]
theorem cntL_get {n e : Nat} {ws : List Wr} (h : e < n) : (cntL n ws)[e]? = some (cnt ws e) := by
  unfold cntL
  rw [List.getElem?_map, List.getElem?_range h]
  rfl
theorem cntL_nil (n : Nat) : cntL n [] = List.replicate n 0 := by
  refine List.ext_getElem? fun i => ?_
  by_cases h : i < n
  · rw [cntL_get h, List.getElem?_replicate, if_pos h]
    rfl
  · rw [List.getElem?_eq_none (by rw [cntL_len]; omega), List.getElem?_eq_none (by simp; omega)]
theorem cnt_app (ws : List Wr) (x : Wr) (e : Nat) : cnt (ws ++ [x]) e = cnt ws e + if x.2.1 = e then 1 else 0 := by
  unfold cnt
  rw [List.countP_append, List.countP_cons, List.countP_nil]
  by_cases h : x.2.1 = e <;> simp [h]
theorem cntL_app {n : Nat} {ws : List Wr} {x : Wr} (h : x.2.1 < n) : (cntL n ws).set x.2.1 (cnt ws x.2.1 + 1) = cntL n (ws ++ [x]) := by
  refine List.ext_getElem? fun i => ?_
  by_cases hi : i < n
  · rw [cntL_get hi, cnt_app, List.getElem?_set]
    by_cases e : x.2.1 = i
    · rw [if_pos e, if_pos e, if_pos (by rw [cntL_len]; exact h), e]
    · rw [if_neg e, if_neg e, cntL_get hi]
      rfl
  · rw [List.getElem?_eq_none (by rw [List.length_set, cntL_len]; omega), List.getElem?_eq_none (by rw [cntL_len]; omega)]
theorem cnt_take_lt {ws : List Wr} {i : Nat} {x : Wr} (h : ws[i]? = some x) : cnt (ws.take i) x.2.1 + 1 ≤ cnt ws x.2.1 := by
  have e : ws.take (i + 1) = ws.take i ++ [x] := by rw [List.take_add_one, h]; rfl
  have h1 : cnt (ws.take (i + 1)) x.2.1 ≤ cnt ws x.2.1 := by
    unfold cnt
    exact List.Sublist.countP_le (List.take_sublist _ _)
  rw [e, cnt_app, if_pos rfl] at h1
  exact h1
def spChkWires (K : PySem.W.Frag) : Sp := fun vs H Q _ => ∃ (lg lw : Addr) (gs : List Gt) (ws : List Wr), vs = [.ref lg, .ref lw] ∧ RG K H lg gs ∧ RW K H lw ws ∧ NetOk gs ws ∧ ∀ H', Same H H' → Q .non H'
theorem map_set' {α β : Type} (f : α → β) (l : List α) (i : Nat) (a : α) : (l.map f).set i (f a) = (l.set i a).map f := by simp [List.map_set]
section
variable {P : Program} {w : World} {K : PySem.W.Frag} {mg : Str → Option Value} {base : Heap}
theorem scChkWires : FnScope ["gates", "wires", "come", "place", "thing", "gate", "many"] ["gates", "wires"] (defScope sChkWires) := ⟨rfl, rfl, rfl, by decide +kernel, rfl, by decide +kernel, by decide +kernel⟩
abbrev DChkWires (P : Program) (w : World) (K : PySem.W.Frag) (mg : Str → Option Value) (base : Heap) := Df P w K mg base 5 "check_wires" ["gates", "wires"] (spChkWires K)
theorem ok_chkWires {f fW fT aK aW aF : Addr} {fd fdW fdT : FuncData} (F : Fun K "check_wires" "check_wires" sChkWires f fd) (hm : mg "check_wires" = some (.ref f)) (B : Bt mg) (C : Cns K mg aK aW aF) (DW : DIsWire P w K mg base fW fdW) (DT : DTaken P w K mg base fT fdT) : DChkWires P w K mg base f fd := by
  refine ⟨?_, hm, F.kp, F.binds fun _ _ _ _ _ _ us hl => match us, hl with | [_, _], _ => rfl⟩
  refine F.ok scChkWires (fun vs H Q E h => ?_) (fun cdv A outer s H vs Q E hr h => ?_)
  · obtain ⟨lg, lw, gs, ws, rfl, _⟩ := h
    rfl
  · obtain ⟨lg, lw, gs, ws, rfl, RGs, ⟨wv, sw, wa⟩, N, q⟩ := h
    have nd := scChkWires.nd
    have hr1 : Room 1 _ := hr.mono (by decide)
    refine ⟨_, pss_cons (ps_if (pt_not (pt_val (pe_callB call_isi (by rfl) B.isi (by decide +kernel) (pa_cons (pv 1) (pa_cons (pe_bltn (v := .ty "list") (by rfl) B.list (by decide +kernel) rfl) pa_nil))))) (pss_one ps_never) pss_nil) <|
      pss_cons (ps_set (i := 2) nd rfl (Or.inl rfl) (pe_op op_rep (pe_lst (pa_cons pe_int pa_nil)) (pe_callB call_len_seq (by rfl) B.len PySem.boot_len (pa_cons (pv 0) pa_nil)))) <|
      pss_cons (ps_for PassesOwn.never rfl (pi_enum (by rfl) B.enum (pa_cons (pv 1) pa_nil)) (pg_tup rfl (pgs_cons (pg_name (i := 3) nd rfl (Or.inl rfl)) (pgs_cons (pg_name (i := 4) nd rfl (Or.inl rfl)) pgs_nil))) <|
        pss_cons (ps_if (PW.pt (pw_or (pt_not (pt_val (pe_call DW.ok hr (by rfl) DW.mg DW.kp DW.bd .nil pass0 (pa_cons (pv 4) (pa_cons (pe_callB call_len_seq (by rfl) B.len PySem.boot_len (pa_cons (pv 0) pa_nil)) pa_nil)))))
            (pw_or1 (pt_not (pt_val (pe_call DT.ok hr1 (by rfl) DT.mg DT.kp DT.bd .nil pass0 (pa_cons (pv 4) (pa_cons (pv 0) (pa_cons (pv 2) pa_nil))))))))) (pss_one ps_never) pss_nil) <|
        pss_one <| ps_augS (pv 2) (pe_ix ix_tup (pv 4) pe_int (fun _ _ => rfl)) get_list pe_int ip_add set_list) <|
      pss_one <| ps_for PassesOwn.never rfl (pi_zip (by rfl) B.zip (pa_cons (pv 0) (pa_cons (pv 2) pa_nil))) (pg_tup rfl (pgs_cons (pg_name (i := 5) nd rfl (Or.inl rfl)) (pgs_cons (pg_name (i := 6) nd rfl (Or.inl rfl)) pgs_nil))) <|
        pss_one <| ps_if (PW.pt (pw_and (pt_cmpR op_in_seq (pe_ix ix_tup (pv 5) pe_int (fun _ _ => rfl)) (pe_glob (v := .ref aF) (by rfl) C.mF rfl) (by rfl)) (pw_and1 (pt_cmpR op_eq (pv 6) pe_int (nomark _))))) (pss_one ps_never) pss_nil, ?_⟩
    obtain ⟨gv, sg, ga⟩ := id RGs
    have hlg : gv.length = gs.length := ga.1
    have hlw : wv.length = ws.length := wa.1
    have hgl := N.gl
    refine ⟨_, rfl, _, _, _, _, true, rfl, .ty "list", ty_lst sw, kit_ty (by decide +kernel), true, rfl, iteF ?_⟩
    refine ⟨(by show 1 ≤ sizeLine; decide), fun l0 hl0 => ?_⟩
    refine ⟨_, rfl, lg, gv, rfl, .inl ((same_new hl0).seq sg), ?_⟩
    refine ⟨l0, _, _, rfl, rfl, upd_same, by omega, by omega, ?_, fun lc hlc => ?_⟩
    · show 1 * _ ≤ sizeLine
      have : 1 * ((gv.length : Int)).toNat ≤ 1000 := by omega
      exact Nat.le_of_lt (small1000 this)
    have sm0 : Same H (upd H l0 (.lst [.int 0])) := same_new hl0
    have hlc0 : H lc = none := sm0.free hlc
    have e0 : (List.replicate ((gv.length : Int)).toNat [V.int 0]).flatten = (cntL gs.length (ws.take 0)).map fun i => V.int (i : Nat) := by
      rw [List.take_zero, cntL_nil, List.map_replicate, ← hlg, Int.toNat_natCast]
      generalize gv.length = n
      induction n with
      | zero => rfl
      | succ n ih =>
        rw [List.replicate_succ, List.flatten_cons, ih, List.replicate_succ]
        rfl
    rw [e0]
    -- for place, thing in enumerate(wires)
    refine ⟨_, rfl, lw, wv, rfl, (sm0.trans (same_new hlc)).seq sw, for_it (walk_enum (K := K) (a := lw) (xs := wv)) (fun i σ H2 => ∃ s3 s4 : Option V, σ = [some (.ref lg), some (.ref lw), some (.ref lc), s3, s4, none, none] ∧
        H2 lc = some (.lst ((cntL gs.length (ws.take i)).map fun i => V.int (i : Nat))) ∧ Same H H2)
      ⟨_, _, rfl, upd_same, sm0.trans (same_new hlc)⟩ (fun i σ H2 _ ⟨_, _, _, _, sm⟩ => sm.seq sw) ?_ ?_⟩
    · rintro i v σ H2 H2' hi ⟨s3, s4, rfl, hc, sm⟩ ⟨T, x1, y, rfl, hT, rfl, ex, ey⟩
      cases ex
      obtain ⟨x, hx, wx⟩ := wa.get ey
      have W := N.wok x (List.mem_of_getElem? hx)
      have hxi : i < ws.length := (List.getElem?_eq_some_iff.mp hx).1
      have smT : Same H2 (upd H2 T (.tup [.int (i : Nat), y])) := same_new hT
      have sm2 := sm.trans smT
      refine ⟨T, _, rfl, .inl (.inl upd_same), rfl, _, _, rfl, _, _, rfl, rfl, ?_⟩
      refine ⟨_, rfl, _, rfl, lg, gv, rfl, .inl (sm2.seq sg), y, x, gv.length, rfl, wx.tk (TK.same sm2), by rw [hlg]; exact W.s, by rw [hlg]; exact W.e, W.r, by have := W.rl; omega, fun H3 sm3 => ⟨true, rfl, iteF ?_⟩⟩
      have sm4 := sm2.trans sm3
      have hc3 := sm3 _ _ (smT _ _ hc)
      refine ⟨_, rfl, _, rfl, _, rfl, y, x, lg, lc, gs, cntL gs.length (ws.take i), rfl, wx.tk (TK.same sm4), RGs.same sm4, SqL.of hc3, W, cntL_len _ _, fun hk => ?_, true, rfl, iteF ?_⟩
      · rw [cntL_get W.e]
        have h1 := N.one _ W.e hk
        have h2 := cnt_take_lt hx
        congr 1
        omega
      obtain ⟨a, b, rfl, sq1, sq2⟩ := wx
      have hlen : x.2.1 < (cntL gs.length (ws.take i)).length := by rw [cntL_len]; exact W.e
      refine ⟨_, rfl, _, rfl, a, _, 1, _, rfl, rfl, (TK.same sm4).seq sq1, atI_nat (j := 1) rfl, lc, _, x.2.1, .int (cnt (ws.take i) x.2.1 : Nat), rfl, rfl, SqL.of hc3, by rw [List.getElem?_map, cntL_get W.e]; rfl, _, _, rfl, rfl, lc, _, _, x.2.1, rfl, rfl, hc3, Evl.ixN_nat (by rw [List.length_map]; exact hlen), ?_⟩
      refine ⟨_, _, rfl, ?_, same_mut sm4 hlc0⟩
      have et : ws.take (i + 1) = ws.take i ++ [x] := by rw [List.take_add_one, hx]; rfl
      rw [upd_same, et, ← cntL_app W.e, ← map_set']
      rfl
    · rintro σ H2 ⟨s3, s4, rfl, hc, sm⟩
      rw [hlw, List.take_length] at hc
      -- for gate, many in zip(gates, come)
      refine ⟨_, rfl, _, rfl, lg, lc, gv, _, rfl, sm.seq sg, SqL.of hc, RZ.for_zipL (K := K) (a := lg) (b := lc) (xs := gv) (by rw [List.length_map, cntL_len]; exact hlg) (fun i σ H3 => ∃ s5 s6 : Option V, σ = [some (.ref lg), some (.ref lw), some (.ref lc), s3, s4, s5, s6] ∧ Same H2 H3)
        ⟨_, _, rfl, Same.refl H2⟩ (fun i σ H3 ⟨_, _, _, sm3⟩ => ⟨(sm.trans sm3).seq sg, SqL.of (sm3 _ _ hc)⟩) ?_ ?_⟩
      · rintro i x y T σ H3 hx hy ⟨s5, s6, rfl, sm3⟩ hT
        obtain ⟨g, hg, a, rfl, sq⟩ := ga.get hx
        have hgi : i < gs.length := (List.getElem?_eq_some_iff.mp hg).1
        rw [List.getElem?_map, cntL_get hgi] at hy
        cases hy
        have sm4 : Same H (upd H3 T (.tup [.ref a, .int (cnt ws i : Nat)])) := (sm.trans sm3).trans (same_new hT)
        refine ⟨T, _, rfl, .inl (.inl upd_same), rfl, _, _, rfl, _, _, rfl, rfl, ?_⟩
        refine ⟨_, rfl, a, _, 0, _, rfl, rfl, (TK.same sm4).seq sq, atI_nat (j := 0) rfl, aF, _, rfl, .inr (C.sF _), rfl, rfl, _, rfl, ite2 (fun e => ?_) (fun e => ?_)⟩
        · have e' : inV (V.str g.1) [V.str "out", V.str "first"] = true := e
          have hpos : 1 ≤ cnt ws i := by
            unfold inV at e'
            rw [List.any_eq_true] at e'
            obtain ⟨x, hx, hxe⟩ := e'
            simp only [List.mem_cons, List.not_mem_nil, or_false] at hx
            rcases hx with rfl | rfl
            · have := N.one i hgi (by rw [kindAt_get hg]; exact (eq_of_beq hxe).symm)
              omega
            · exact N.some i hgi (by rw [kindAt_get hg]; exact (eq_of_beq hxe).symm)
          refine ⟨_, rfl, rfl, false, ?_, iteF ⟨_, _, rfl, sm3.trans (same_new hT)⟩⟩
          show V.bl (decide (V.int (cnt ws i : Int) = V.int 0)) = V.bl false
          rw [decide_eq_false]
          intro z
          have := V.int.inj z
          omega
        · exact iteF ⟨_, _, rfl, sm3.trans (same_new hT)⟩
      · rintro σ H3 ⟨s5, s6, rfl, sm3⟩
        exact q H3 (sm.trans sm3)
end
end Lag

set_option maxRecDepth 100000
set_option maxHeartbeats 4000000
namespace Lag
open PySem PySem.Spec PyProof.Rows L2
/-! ### the order of gates along wires without registers: the mathematics -/
def bare (ws : List Wr) : List (Nat × Nat) := (ws.filter fun x => x.2.2.isEmpty).map fun x => (x.1, x.2.1)
/-- how many wires of B lead into e from gates that are not in dn -/
def mis (B : List (Nat × Nat)) (dn : List Nat) (e : Nat) : Nat := B.countP fun b => b.2 == e && !dn.contains b.1
def frm (B : List (Nat × Nat)) (g e : Nat) : Nat := B.countP fun b => b.1 == g && b.2 == e
theorem mis_split {B : List (Nat × Nat)} {dn : List Nat} {g : Nat} (h : g ∉ dn) (e : Nat) : mis B dn e = mis B (dn ++ [g]) e + frm B g e := by
  unfold mis frm
  induction B with
  | nil => rfl
  | cons b B ih =>
    rw [List.countP_cons, List.countP_cons, List.countP_cons, ih]
    by_cases h1 : b.2 = e
    · by_cases h2 : b.1 = g
      · have : b.1 ∉ dn := by rw [h2]; exact h
        simp [h1, h2, h]
        omega
      · by_cases h3 : b.1 ∈ dn
        · simp [h1, h2, h3]
        · simp [h1, h2, h3]
          omega
    · simp [h1]
theorem mis_zero {B : List (Nat × Nat)} {dn : List Nat} {e : Nat} (h : mis B dn e = 0) {b : Nat × Nat} (hb : b ∈ B) (he : b.2 = e) : b.1 ∈ dn := by
  unfold mis at h
  rw [List.countP_eq_zero] at h
  have := h b hb
  simp [he] at this
  exact this
theorem frm_drop {B : List (Nat × Nat)} {j : Nat} {b : Nat × Nat} (h : B[j]? = some b) (g e : Nat) : frm (B.drop j) g e = frm (B.drop (j + 1)) g e + if b.1 = g ∧ b.2 = e then 1 else 0 := by
  obtain ⟨hj, rfl⟩ := List.getElem?_eq_some_iff.mp h
  rw [List.drop_eq_getElem_cons hj]
  unfold frm
  rw [List.countP_cons]
  by_cases h1 : B[j].1 = g <;> by_cases h2 : B[j].2 = e <;> simp [h1, h2]
structure KI (B : List (Nat × Nat)) (n : Nat) (placed : List Nat) (d : Nat) : Prop where
  nd : placed.Nodup
  lt : ∀ e ∈ placed, e < n
  le : d ≤ placed.length
  iff : ∀ e, e < n → (e ∈ placed ↔ mis B (placed.take d) e = 0)
  top : ∀ (j e : Nat), placed[j]? = some e → ∀ b ∈ B, b.2 = e → b.1 ∈ placed.take j
structure KJ (B : List (Nat × Nat)) (n : Nat) (placed : List Nat) (d g j : Nat) : Prop where
  nd : placed.Nodup
  lt : ∀ e ∈ placed, e < n
  at_ : placed[d]? = some g
  iff : ∀ e, e < n → (e ∈ placed ↔ mis B (placed.take (d + 1)) e + frm (B.drop j) g e = 0)
  top : ∀ (j e : Nat), placed[j]? = some e → ∀ b ∈ B, b.2 = e → b.1 ∈ placed.take j
theorem take_add {l : List Nat} {d g : Nat} (h : l[d]? = some g) : l.take (d + 1) = l.take d ++ [g] := by rw [List.take_add_one, h]; rfl
theorem nodup_take {l : List Nat} {d g : Nat} (nd : l.Nodup) (h : l[d]? = some g) : g ∉ l.take d := by
  intro hm
  obtain ⟨i, hi⟩ := List.getElem?_of_mem hm
  have h1 : i < d := by
    have := (List.getElem?_eq_some_iff.mp hi).1
    rw [List.length_take] at this
    omega
  rw [List.getElem?_take_of_lt h1] at hi
  have := nd_ix nd hi h
  omega
theorem KI.go {B : List (Nat × Nat)} {n : Nat} {placed : List Nat} {d g : Nat} (h : KI B n placed d) (hg : placed[d]? = some g) : KJ B n placed d g 0 :=
  ⟨h.nd, h.lt, hg, fun e he => by rw [h.iff e he, take_add hg, mis_split (nodup_take h.nd hg), List.drop_zero], h.top⟩
theorem KJ.done {B : List (Nat × Nat)} {n : Nat} {placed : List Nat} {d g : Nat} (h : KJ B n placed d g B.length) : KI B n placed (d + 1) := by
  have hd : d < placed.length := (List.getElem?_eq_some_iff.mp h.at_).1
  refine ⟨h.nd, h.lt, hd, fun e he => ?_, h.top⟩
  rw [h.iff e he, List.drop_length]
  rfl
theorem KJ.skip {B : List (Nat × Nat)} {n : Nat} {placed : List Nat} {d g j : Nat} {b : Nat × Nat} (h : KJ B n placed d g j) (hb : B[j]? = some b) (hg : b.1 ≠ g) : KJ B n placed d g (j + 1) :=
  ⟨h.nd, h.lt, h.at_, fun e he => by rw [h.iff e he, frm_drop hb, if_neg (fun z => hg z.1)]; rfl, h.top⟩
theorem KJ.not {B : List (Nat × Nat)} {n : Nat} {placed : List Nat} {d g j : Nat} {b : Nat × Nat} (h : KJ B n placed d g j) (hb : B[j]? = some b) (hg : b.1 = g) (hn : mis B (placed.take (d + 1)) b.2 + frm (B.drop (j + 1)) g b.2 ≠ 0) : KJ B n placed d g (j + 1) := by
  refine ⟨h.nd, h.lt, h.at_, fun e he => ?_, h.top⟩
  rw [h.iff e he, frm_drop hb]
  by_cases h2 : b.2 = e
  · subst h2
    rw [if_pos ⟨hg, rfl⟩]
    omega
  · rw [if_neg (fun z => h2 z.2)]
    rfl
theorem KJ.put {B : List (Nat × Nat)} {n : Nat} {placed : List Nat} {d g j : Nat} {b : Nat × Nat} (h : KJ B n placed d g j) (hb : B[j]? = some b) (hg : b.1 = g) (hlt : b.2 < n) (hn : mis B (placed.take (d + 1)) b.2 + frm (B.drop (j + 1)) g b.2 = 0) : KJ B n (placed ++ [b.2]) d g (j + 1) := by
  have hd : d < placed.length := (List.getElem?_eq_some_iff.mp h.at_).1
  have hnot : b.2 ∉ placed := fun z => by
    have := (h.iff _ hlt).mp z
    rw [frm_drop hb, if_pos ⟨hg, rfl⟩] at this
    omega
  have et : (placed ++ [b.2]).take (d + 1) = placed.take (d + 1) := List.take_append_of_le_length (by omega)
  refine ⟨?_, ?_, ?_, ?_, ?_⟩
  · rw [List.nodup_append]
    refine ⟨h.nd, by simp, fun a ha c hc => ?_⟩
    simp at hc
    subst hc
    intro z
    exact hnot (by rw [← z]; exact ha)
  · intro e he
    rcases List.mem_append.mp he with he | he
    · exact h.lt e he
    · simp at he
      subst he
      exact hlt
  · rw [List.getElem?_append_left hd]
    exact h.at_
  · intro e he
    rw [et, List.mem_append]
    by_cases h2 : b.2 = e
    · subst h2
      simp [hn]
    · have := h.iff e he
      rw [frm_drop hb, if_neg (fun z => h2 z.2)] at this
      rw [this]
      simp
      intro z
      exact absurd z.symm h2
  · intro k e hk c hc hce
    by_cases hk' : k < placed.length
    · rw [List.getElem?_append_left hk'] at hk
      rw [List.take_append_of_le_length (by omega)]
      exact h.top k e hk c hc hce
    · have hkl : k = placed.length := by
        have := (List.getElem?_eq_some_iff.mp hk).1
        simp at this
        omega
      subst hkl
      rw [List.getElem?_append_right (by omega)] at hk
      simp at hk
      subst hk
      rw [List.take_left']
      · have := mis_zero (show mis B (placed.take (d + 1)) b.2 = 0 by omega) hc hce
        exact List.mem_of_mem_take this
      · rfl
/-- what the order is: gates without two alike, each behind those it hangs on; all whose wires come from such -/
def Ord (n : Nat) (ws : List Wr) (ord : List Nat) : Prop := KI (bare ws) n ord ord.length
theorem Ord.full {n : Nat} {ws : List Wr} {ord : List Nat} (h : Ord n ws ord) (hw : ∀ x ∈ ws, x.1 < n ∧ x.2.1 < n) (rk : ∃ ρ : Nat → Nat, ∀ x ∈ ws, x.2.2 = [] → ρ x.1 < ρ x.2.1) : ord.Perm (List.range n) := by
  obtain ⟨ρ, hρ⟩ := rk
  have all : ∀ r e, e < n → ρ e = r → e ∈ ord := by
    intro r
    induction r using Nat.strongRecOn with
    | ind r ih =>
      intro e he hr
      rw [h.iff e he, List.take_length]
      unfold mis
      rw [List.countP_eq_zero]
      intro b hb
      obtain ⟨x, hx, rfl⟩ := List.mem_map.mp hb
      rw [List.mem_filter] at hx
      have hr0 : x.2.2 = [] := by simpa using hx.2
      have := hρ x hx.1 hr0
      simp
      intro z
      exact ih (ρ x.1) (by rw [← hr, ← z]; exact this) x.1 (hw x hx.1).1 rfl
  rw [List.perm_iff_count]
  intro a
  rw [h.nd.count, List.nodup_range.count]
  by_cases ha : a < n
  · rw [if_pos (all _ a ha rfl), if_pos (List.mem_range.mpr ha)]
  · rw [if_neg (fun z => ha (h.lt a z)), if_neg (fun z => ha (List.mem_range.mp z))]
end Lag

set_option maxRecDepth 100000
set_option maxHeartbeats 8000000
namespace Lag
open PySem PySem.Spec PyProof.Rows L2
abbrev sAlong : Stmt := topS 12
abbrev sOrder : Stmt := topS 26
def PairV (K : PySem.W.Frag) (H : Hp) (v : V) (b : Nat × Nat) : Prop := ∃ a, v = .ref a ∧ SqT K H a [.int (b.1 : Nat), .int (b.2 : Nat)]
theorem PairV.tk {K : PySem.W.Frag} {H H' : Hp} {v : V} {b : Nat × Nat} (t : TK H H') (h : PairV K H v b) : PairV K H' v b := by
  obtain ⟨a, e, s⟩ := h
  exact ⟨a, e, t.seq s⟩
/-- numbers by a function of the place -/
def fnL (n : Nat) (f : Nat → Nat) : List V := (List.range n).map fun e => V.int (f e : Nat)
theorem fnL_len (n : Nat) (f : Nat → Nat) : (fnL n f).length = n := by simp [fnL]
theorem fnL_get {n e : Nat} {f : Nat → Nat} (h : e < n) : (fnL n f)[e]? = some (V.int (f e : Nat)) := by
  unfold fnL
  rw [List.getElem?_map, List.getElem?_range h]
  rfl
theorem fnL_set {n e : Nat} {f f' : Nat → Nat} {z : Int} (h : e < n) (he : (f' e : Int) = z) (ho : ∀ i, i ≠ e → f' i = f i) : (fnL n f).set e (V.int z) = fnL n f' := by
  refine List.ext_getElem? fun i => ?_
  by_cases hi : i < n
  · rw [fnL_get hi, List.getElem?_set]
    by_cases ei : e = i
    · subst ei
      rw [if_pos rfl, if_pos (by rw [fnL_len]; exact h), he]
    · rw [if_neg ei, fnL_get hi, ho i (fun z => ei z.symm)]
  · rw [List.getElem?_eq_none (by rw [List.length_set, fnL_len]; omega), List.getElem?_eq_none (by rw [fnL_len]; omega)]
theorem fnL_zero (n : Nat) (f : Nat → Nat) (h : ∀ e, f e = 0) : (List.replicate n [V.int 0]).flatten = fnL n f := by
  have e : f = fun _ => 0 := funext h
  subst e
  unfold fnL
  induction n with
  | zero => rfl
  | succ n ih =>
    rw [List.replicate_succ', List.flatten_append, ih, List.range_succ, List.map_append]
    rfl
def spOrder (K : PySem.W.Frag) : Sp := fun vs H Q _ => ∃ (n : Nat) (lw : Addr) (ws : List Wr), vs = [.int (n : Nat), .ref lw] ∧ RW K H lw ws ∧ (∀ x ∈ ws, x.1 < n ∧ x.2.1 < n) ∧ n ≤ 1000 ∧ ws.length ≤ 1000 ∧
  ∀ (ord : List Nat) (p : Addr) (H' : Hp), Ord n ws ord → Same H H' → H p = none → H' p = some (.lst (ord.map fun i => V.int (i : Nat))) → Q (.ref p) H'
def spAlong (K : PySem.W.Frag) : Sp := fun vs H Q _ => ∃ (n : Nat) (lb : Addr) (bv : List V) (B : List (Nat × Nat)), vs = [.int (n : Nat), .ref lb] ∧ SqL K H lb bv ∧ All2 (PairV K H) bv B ∧ (∀ b ∈ B, b.1 < n ∧ b.2 < n) ∧ n ≤ 1000 ∧ B.length ≤ 1000 ∧
  ∀ (ord : List Nat) (p : Addr) (H' : Hp), KI B n ord ord.length → Same H H' → H p = none → H' p = some (.lst (ord.map fun i => V.int (i : Nat))) → Q (.ref p) H'
abbrev nAlong : List Str := ["many", "pairs", "missing", "start", "end", "placed", "done", "place"]
theorem scAlong : FnScope nAlong ["many", "pairs"] (defScope sAlong) := ⟨rfl, rfl, rfl, by decide +kernel, rfl, by decide +kernel, by decide +kernel⟩
abbrev nOrder : List Str := ["many_gates", "wires", "start", "end", "held"]
theorem scOrder : FnScope nOrder ["many_gates", "wires"] (defScope sOrder) := ⟨rfl, rfl, rfl, by decide +kernel, rfl, by decide +kernel, by decide +kernel⟩
theorem bare_take {ws : List Wr} {i : Nat} {x : Wr} (h : ws[i]? = some x) : bare (ws.take (i + 1)) = if x.2.2.isEmpty then bare (ws.take i) ++ [(x.1, x.2.1)] else bare (ws.take i) := by
  unfold bare
  rw [List.take_add_one, h]
  show ((ws.take i ++ [x]).filter _).map _ = _
  rw [List.filter_append]
  by_cases e : x.2.2.isEmpty
  · rw [if_pos e, List.filter_cons, if_pos e, List.map_append]
    rfl
  · rw [if_neg e, List.filter_cons, if_neg e, List.filter_nil, List.append_nil]
theorem bare_len (ws : List Wr) : (bare ws).length ≤ ws.length := by
  unfold bare
  rw [List.length_map]
  exact List.length_filter_le _ _
theorem mis_take {B : List (Nat × Nat)} {i : Nat} {b : Nat × Nat} (h : B[i]? = some b) (e : Nat) : mis (B.take (i + 1)) [] e = mis (B.take i) [] e + if b.2 = e then 1 else 0 := by
  unfold mis
  rw [List.take_add_one, h]
  show (B.take i ++ [b]).countP _ = _
  rw [List.countP_append, List.countP_cons, List.countP_nil]
  by_cases h1 : b.2 = e <;> simp [h1]
section
variable {P : Program} {w : World} {K : PySem.W.Frag} {mg : Str → Option Value} {base : Heap}
abbrev DAlong (P : Program) (w : World) (K : PySem.W.Frag) (mg : Str → Option Value) (base : Heap) := Df P w K mg base 1 "order_along" ["many", "pairs"] (spAlong K)
theorem ok_along {f : Addr} {fd : FuncData} (F : Fun K "order_along" "order_along" sAlong f fd) (hm : mg "order_along" = some (.ref f)) (Bb : Bt mg) : DAlong P w K mg base f fd := by
  refine ⟨?_, hm, F.kp, F.binds fun _ _ _ _ _ _ us hl => match us, hl with | [_, _], _ => rfl⟩
  refine F.ok scAlong (fun vs H Q E h => ?_) (fun cdv A outer s H vs Q E hr h => ?_)
  · obtain ⟨n, lb, bv, B, rfl, _⟩ := h
    rfl
  · obtain ⟨n, lb, bv, B, rfl, sb, ba1, hBlt, hn, hwl, q⟩ := h
    have nd := scAlong.nd
    refine ⟨_, pss_cons (ps_set (i := 2) nd rfl (Or.inr rfl) (pe_op op_rep (pe_lst (pa_cons pe_int pa_nil)) (pv 0))) <|
      pss_cons (ps_for PassesOwn.never rfl (pi_list (pv 1)) (pg_tup rfl (pgs_cons (pg_name (i := 3) nd rfl (Or.inl rfl)) (pgs_cons (pg_name (i := 4) nd rfl (Or.inl rfl)) pgs_nil)))
        (pss_one (ps_augS (pv 2) (pv 4) get_list pe_int ip_add set_list))) <|
      pss_cons (ps_setLc (i := 5) (own := [("place", 7)]) (g := gName 7) (tt := tTest (tOp rEq (tOp (rIxL K) (tVar 2) (tVar 7)) (tC (.int 0)))) (te := tVar 7) rfl nd rfl rfl (sw_true rfl rfl rfl (by decide +kernel))
          (pi_range1 (by rfl) Bb.range (pa_cons (pv 0) pa_nil)) (blkOk_by (N := nAlong) (sc := defScope sAlong) (own := [("place", 7)]) (by decide +kernel)) (fun _ _ _ _ _ => pg_name (i := 7) nd rfl (Or.inl rfl))
          (fun _ _ _ _ _ => pts_one (pt_cmpR op_eq (pe_ix ix_list (pv 2) (pv 7) (fun _ _ => rfl)) pe_int (nomark _))) (fun _ _ _ _ _ => pv 7)) <|
      pss_cons (ps_set (i := 6) nd rfl (Or.inl rfl) pe_int) <|
      pss_cons (ps_while PassesOwn.never (pt_cmpR op_lt (pv 6) (pe_callB call_len_seq (by rfl) Bb.len PySem.boot_len (pa_cons (pv 5) pa_nil)) (nomark _)) <|
        pss_cons (ps_for PassesOwn.never rfl (pi_list (pv 1)) (pg_tup rfl (pgs_cons (pg_name (i := 3) nd rfl (Or.inl rfl)) (pgs_cons (pg_name (i := 4) nd rfl (Or.inl rfl)) pgs_nil))) <|
          pss_one <| ps_if (pt_cmpR op_eq (pv 3) (pe_ix ix_list (pv 5) (pv 6) (fun _ _ => rfl)) (nomark _))
            (pss_cons (ps_augS (pv 2) (pv 4) get_list pe_int ip_sub set_list) <| pss_one <| ps_if (pt_cmpR op_eq (pe_ix ix_list (pv 2) (pv 4) (fun _ _ => rfl)) pe_int (nomark _))
              (pss_one (ps_expr (pe_bm PySem.F.plainAttrs_list PySem.F.slot_list_append PySem.F.type_list_append mt_append (pv 5) (pa_cons (pv 4) pa_nil)))) pss_nil) pss_nil) <|
        pss_one <| ps_aug (i := 6) nd rfl (Or.inl rfl) pe_int ip_add) <|
      pss_one <| ps_ret (pv 5), ?_⟩
    have hbl : bv.length ≤ 1000 := by
      rw [ba1.1]
      omega
    -- missing = [0] * many_gates
    refine ⟨(by show 1 ≤ sizeLine; decide), fun l0 hl0 => ?_⟩
    have sm2 : Same H (upd H l0 (.lst [.int 0])) := same_new hl0
    refine ⟨_, rfl, l0, _, _, rfl, rfl, upd_same, by omega, by omega, ?_, fun lm hlm => ?_⟩
    · show 1 * _ ≤ sizeLine
      have : 1 * ((n : Int)).toNat ≤ 1000 := by omega
      exact Nat.le_of_lt (small1000 this)
    rw [Int.toNat_natCast, fnL_zero n (mis (B.take 0) []) (fun e => by simp [mis])]
    have sm3 : Same H (upd (upd H l0 (.lst [.int 0])) lm (.lst (fnL n (mis (B.take 0) [])))) := sm2.trans (same_new hlm)
    have hm1 : H lm = none := sm2.free hlm
    -- for start, end in bare: missing[end] += 1
    refine ⟨_, rfl, lb, rfl, ⟨_, sm3.seq sb⟩, for_list (K := K) (a := lb) (xs := bv) (fun i σ H4 => ∃ s4 s5 : Option V, σ = [some (.int (n : Nat)), some (.ref lb), some (.ref lm), s4, s5, none, none, none] ∧
        H4 lm = some (.lst (fnL n (mis (B.take i) []))) ∧ Same H H4) ⟨_, _, rfl, upd_same, sm3⟩ (fun i σ H4 _ ⟨_, _, _, _, sm⟩ => sm.seq sb) ?_ ?_⟩
    · rintro i x σ H4 hx ⟨s4, s5, rfl, hml, sm4⟩
      obtain ⟨b, hbb, a, rfl, sq⟩ := ba1.get hx
      have hlt := hBlt b (List.mem_of_getElem? hbb)
      refine ⟨a, _, rfl, (TK.same sm4).seq sq, rfl, _, _, rfl, _, _, rfl, rfl, ?_⟩
      refine ⟨_, rfl, _, rfl, lm, _, b.2, _, rfl, rfl, SqL.of hml, fnL_get hlt.2, _, _, rfl, rfl, lm, _, _, b.2, rfl, rfl, hml, Evl.ixN_nat (by rw [fnL_len]; exact hlt.2), ?_⟩
      refine ⟨_, _, rfl, ?_, same_mut sm4 hm1⟩
      rw [upd_same]
      refine congrArg (fun z => some (HO.lst z)) (fnL_set hlt.2 ?_ ?_)
      · rw [mis_take hbb, if_pos rfl]
        show ((mis (B.take i) [] b.2 + 1 : Nat) : Int) = ((mis (B.take i) [] b.2 : Nat) : Int) + 1
        omega
      · intro j hj
        rw [mis_take hbb, if_neg (fun z => hj z.symm)]
        rfl
    · rintro σ H4 ⟨s4, s5, rfl, hml, sm4⟩
      rw [ba1.1, List.take_length] at hml
      -- placed = [gate for gate in range(many_gates) if missing[gate] == 0]
      refine ⟨_, rfl, _, rfl, by omega, by omega, fun lp hlp => ?_⟩
      refine lc_range (lo := 0) (n := ((n : Int)).toNat) (fun i Hc => Hc lp = some (.lst (((List.range i).filter fun e => mis B [] e == 0).map fun i => V.int (i : Nat))) ∧ Same H4 Hc) ⟨upd_same, same_new hlp⟩ ?_ ?_
      · rintro i Hc hi ⟨hc, sm⟩
        have hi' : i < n := by omega
        have hlen : (((List.range i).filter fun e => mis B [] e == 0).map fun i => V.int (i : Nat)).length ≤ 1000 := by
          rw [List.length_map]
          have := List.length_filter_le (fun e => mis B [] e == 0) (List.range i)
          rw [List.length_range] at this
          omega
        have e0 : (0 : Int) + (i : Int) = (i : Int) := Int.zero_add _
        rw [e0]
        refine ⟨rfl, ?_⟩
        refine ⟨_, rfl, _, rfl, lm, _, _, _, rfl, rfl, SqL.of (sm _ _ hml), atI_nat (fnL_get hi'), rfl, _, rfl, ite2 (fun e => ?_) (fun e => ?_)⟩
        · have hz : mis B [] i = 0 := by
            have := V.int.inj (of_decide_eq_true e)
            omega
          refine ⟨_, rfl, _, hc, Nat.lt_of_le_of_lt hlen (small1000 (Nat.le_refl _)), ?_, same_mut sm hlp⟩
          rw [upd_same, List.range_succ, List.filter_append, List.map_append, List.filter_cons, if_pos (by rw [hz]; rfl)]
          rfl
        · have hz : ¬ (mis B [] i == 0) = true := fun z => by
            apply e
            rw [beq_iff_eq] at z
            rw [z]
            rfl
          refine ⟨?_, sm⟩
          rw [List.range_succ, List.filter_append, List.filter_cons, if_neg hz, List.filter_nil, List.append_nil]
          exact hc
      · rintro H5 ⟨hp5, sm5⟩
        rw [Int.toNat_natCast] at hp5
        have k0 : KI B n ((List.range n).filter fun e => mis B [] e == 0) 0 := by
          refine ⟨List.nodup_range.sublist List.filter_sublist, fun e he => List.mem_range.mp (List.mem_filter.mp he).1, Nat.zero_le _, fun e he => ?_, fun j e hj b hb hbe => ?_⟩
          · rw [List.mem_filter, List.take_zero]
            simp [he]
          · have hm0 := (List.mem_filter.mp (List.mem_of_getElem? hj)).2
            rw [beq_iff_eq] at hm0
            have := mis_zero hm0 hb hbe
            simp at this
        -- the while
        have hp0 : H lp = none := sm4.free hlp
        refine ⟨fun m σ H6 => ∃ (placed : List Nat) (d : Nat) (s4 s5 : Option V), σ = [some (.int (n : Nat)), some (.ref lb), some (.ref lm), s4, s5, some (.ref lp), some (.int (d : Nat)), none] ∧
          KI B n placed d ∧ H6 lp = some (.lst (placed.map fun i => V.int (i : Nat))) ∧ H6 lm = some (.lst (fnL n (mis B (placed.take d)))) ∧ Same H H6 ∧ m = n - d, ?_, ?_⟩
        · have h5m := sm5 _ _ hml
          have e0 : mis B [] = mis B (((List.range n).filter fun e => mis B [] e == 0).take 0) := by rw [List.take_zero]
          rw [e0] at h5m
          exact ⟨n, _, 0, _, _, rfl, k0, hp5, h5m, sm4.trans sm5, rfl⟩
        · rintro m σ H6 ⟨placed, d, s4, s5, rfl, ki, hp6, hm6, sm6, rfl⟩
          have hp1 : H lp = none := sm4.free hlp
          have npm : lp ≠ lm := fun z => by
            rw [z, hml] at hlp
            cases hlp
          refine ⟨_, rfl, _, rfl, lp, _, rfl, .inl (SqL.of hp6), _, _, rfl, rfl, _, rfl, ite2 (fun e => ?_) (fun e => ?_)⟩
          · have hd : d < placed.length := by
              have e' : (d : Int) < ((placed.map fun i => V.int (i : Nat)).length : Int) := of_decide_eq_true e
              rw [List.length_map] at e'
              omega
            have hpl : ∀ placed : List Nat, placed.Nodup → (∀ e ∈ placed, e < n) → placed.length ≤ n := fun l hnd hlt => by
              have h1 : l.length = (l.filter fun e => decide (e < n)).length := by
                rw [List.filter_eq_self.mpr]
                intro a ha
                exact decide_eq_true (hlt a ha)
              have h2 := List.Nodup.length_le_of_subset hnd (l₂ := List.range n) (fun a ha => List.mem_range.mpr (hlt a ha))
              rw [List.length_range] at h2
              exact h2
            have hdn := hpl placed ki.nd ki.lt
            have hg : placed[d]? = some placed[d] := List.getElem?_eq_getElem hd
            refine ⟨fun σ H7 => ∃ (placed : List Nat) (s4 s5 : Option V), σ = [some (.int (n : Nat)), some (.ref lb), some (.ref lm), s4, s5, some (.ref lp), some (.int ((d : Nat) + 1)), none] ∧
              KI B n placed (d + 1) ∧ H7 lp = some (.lst (placed.map fun i => V.int (i : Nat))) ∧ H7 lm = some (.lst (fnL n (mis B (placed.take (d + 1))))) ∧ Same H H7, ?_, ?_⟩
            · rintro σ' H' ⟨placed', t4, t5, rfl, ki', hp', hm', sm'⟩
              exact ⟨n - (d + 1), by omega, placed', d + 1, t4, t5, rfl, ki', hp', hm', sm', rfl⟩
            · have e1 : mis B (placed.take d) = fun e => mis B (placed.take (d + 1)) e + frm (B.drop 0) placed[d] e := funext fun e => by
                rw [take_add hg, List.drop_zero]
                exact mis_split (nodup_take ki.nd hg) e
              rw [e1] at hm6
              generalize placed[d] = g at hg hm6
              refine ⟨_, rfl, lb, rfl, ⟨_, sm6.seq sb⟩, for_list (K := K) (a := lb) (xs := bv) (fun j σ H7 => ∃ (placed : List Nat) (s4 s5 : Option V), σ = [some (.int (n : Nat)), some (.ref lb), some (.ref lm), s4, s5, some (.ref lp), some (.int (d : Nat)), none] ∧
                  KJ B n placed d g j ∧ H7 lp = some (.lst (placed.map fun i => V.int (i : Nat))) ∧ H7 lm = some (.lst (fnL n fun e => mis B (placed.take (d + 1)) e + frm (B.drop j) g e)) ∧ Same H H7)
                ⟨placed, _, _, rfl, ki.go hg, hp6, hm6, sm6⟩ (fun i σ H4 _ ⟨_, _, _, _, _, _, _, sm⟩ => sm.seq sb) ?_ ?_⟩
              · rintro j x σ H7 hx ⟨placed, s4, s5, rfl, kj, hp7, hm7, sm7⟩
                obtain ⟨b, hbb, a, rfl, sq⟩ := ba1.get hx
                have hlt := hBlt b (List.mem_of_getElem? hbb)
                refine ⟨a, _, rfl, (TK.same sm7).seq sq, rfl, _, _, rfl, _, _, rfl, rfl, ?_⟩
                refine ⟨_, rfl, _, rfl, _, rfl, lp, _, _, _, rfl, rfl, SqL.of hp7, atI_nat (j := d) (by rw [List.getElem?_map, kj.at_]; rfl), rfl, _, rfl, ite2 (fun e => ?_) (fun e => ?_)⟩
                · have hbg : b.1 = g := by
                    have := V.int.inj (of_decide_eq_true e)
                    omega
                  have hfd : ∀ e, frm (B.drop j) g e = frm (B.drop (j + 1)) g e + if b.1 = g ∧ b.2 = e then 1 else 0 := fun e => frm_drop hbb g e
                  refine ⟨_, rfl, _, rfl, lm, _, b.2, _, rfl, rfl, SqL.of hm7, fnL_get hlt.2, _, _, rfl, rfl, lm, _, _, b.2, rfl, rfl, hm7, Evl.ixN_nat (by rw [fnL_len]; exact hlt.2), ?_⟩
                  have e2 : (fnL n fun e => mis B (placed.take (d + 1)) e + frm (B.drop j) g e).set b.2 (V.int (((mis B (placed.take (d + 1)) b.2 + frm (B.drop j) g b.2 : Nat) : Int) - 1)) = fnL n fun e => mis B (placed.take (d + 1)) e + frm (B.drop (j + 1)) g e := by
                    refine fnL_set hlt.2 ?_ ?_
                    · rw [hfd, if_pos ⟨hbg, rfl⟩]
                      omega
                    · intro i hi
                      rw [hfd, if_neg (fun z => hi z.2.symm)]
                      rfl
                  have hm8 : (upd H7 lm (.lst (fnL n fun e => mis B (placed.take (d + 1)) e + frm (B.drop (j + 1)) g e))) lm = some (.lst (fnL n fun e => mis B (placed.take (d + 1)) e + frm (B.drop (j + 1)) g e)) := upd_same
                  rw [← e2] at hm8
                  have hp8 : (upd H7 lm (.lst ((fnL n fun e => mis B (placed.take (d + 1)) e + frm (B.drop j) g e).set b.2 (V.int (((mis B (placed.take (d + 1)) b.2 + frm (B.drop j) g b.2 : Nat) : Int) - 1))))) lp = some (.lst (placed.map fun i => V.int (i : Nat))) := by
                    rw [upd_ne npm]
                    exact hp7
                  have sm8 := same_mut (p := lm) (o := .lst ((fnL n fun e => mis B (placed.take (d + 1)) e + frm (B.drop j) g e).set b.2 (V.int (((mis B (placed.take (d + 1)) b.2 + frm (B.drop j) g b.2 : Nat) : Int) - 1)))) sm7 hm1
                  have hg8 : ((fnL n fun e => mis B (placed.take (d + 1)) e + frm (B.drop j) g e).set b.2 (V.int (((mis B (placed.take (d + 1)) b.2 + frm (B.drop j) g b.2 : Nat) : Int) - 1)))[b.2]? = some (V.int ((mis B (placed.take (d + 1)) b.2 + frm (B.drop (j + 1)) g b.2 : Nat) : Int)) := by
                    rw [e2]
                    exact fnL_get hlt.2
                  have hm9 := hm8
                  rw [e2] at hm9
                  refine ⟨_, rfl, _, rfl, lm, _, _, _, rfl, rfl, SqL.of upd_same, atI_nat hg8, rfl, _, rfl, ite2 (fun e3 => ?_) (fun e3 => ?_)⟩
                  · have hz : mis B (placed.take (d + 1)) b.2 + frm (B.drop (j + 1)) g b.2 = 0 := by
                      have := V.int.inj (of_decide_eq_true e3)
                      omega
                    have hlp1 := hpl placed kj.nd kj.lt
                    have hdl : d < placed.length := (List.getElem?_eq_some_iff.mp kj.at_).1
                    refine ⟨_, rfl, .inl ⟨rfl, _, SqL.of hp8⟩, _, rfl, lp, _, _, rfl, rfl, hp8, by rw [List.length_map]; exact small1000 (by omega), ?_⟩
                    refine ⟨placed ++ [b.2], _, _, rfl, kj.put hbb hbg hlt.2 hz, ?_, ?_, same_mut sm8 hp1⟩
                    · rw [upd_same, List.map_append]
                      rfl
                    · rw [upd_ne npm.symm, List.take_append_of_le_length (by omega), ← e2]
                      exact upd_same
                  · have hz : mis B (placed.take (d + 1)) b.2 + frm (B.drop (j + 1)) g b.2 ≠ 0 := fun z => by
                      apply e3
                      rw [z]
                      rfl
                    refine ⟨placed, _, _, rfl, kj.not hbb hbg hz, hp8, ?_, sm8⟩
                    rw [← e2]
                    exact upd_same
                · have hbg : b.1 ≠ g := fun z => by
                    apply e
                    rw [z]
                    exact decide_eq_true rfl
                  refine ⟨placed, _, _, rfl, kj.skip hbb hbg, hp7, ?_, sm7⟩
                  have : (fun e => mis B (placed.take (d + 1)) e + frm (B.drop (j + 1)) g e) = fun e => mis B (placed.take (d + 1)) e + frm (B.drop j) g e := funext fun e => by
                    rw [frm_drop hbb, if_neg (fun z => hbg z.1)]
                    rfl
                  rw [this]
                  exact hm7
              · rintro σ H7 ⟨placed, s4, s5, rfl, kj, hp7, hm7, sm7⟩
                rw [ba1.1] at kj hm7
                refine ⟨_, rfl, _, _, rfl, rfl, placed, _, _, rfl, kj.done, hp7, ?_, sm7⟩
                rw [List.drop_length] at hm7
                exact hm7
          · have hd : d = placed.length := by
              have e' : ¬ (d : Int) < ((placed.map fun i => V.int (i : Nat)).length : Int) := fun z => e (decide_eq_true z)
              rw [List.length_map] at e'
              have := ki.le
              omega
            subst hd
            exact ⟨_, rfl, q placed lp H6 ki sm6 hp0 hp6⟩
abbrev DOrder (P : Program) (w : World) (K : PySem.W.Frag) (mg : Str → Option Value) (base : Heap) := Df P w K mg base 2 "bare_order" ["many_gates", "wires"] (spOrder K)
theorem ok_order {f fA : Addr} {fd fdA : FuncData} (F : Fun K "bare_order" "bare_order" sOrder f fd) (hm : mg "bare_order" = some (.ref f)) (B : Bt mg) (DA : DAlong P w K mg base fA fdA) : DOrder P w K mg base f fd := by
  refine ⟨?_, hm, F.kp, F.binds fun _ _ _ _ _ _ us hl => match us, hl with | [_, _], _ => rfl⟩
  refine F.ok scOrder (fun vs H Q E h => ?_) (fun cdv A outer s H vs Q E hr h => ?_)
  · obtain ⟨n, lw, ws, rfl, _⟩ := h
    rfl
  · obtain ⟨n, lw, ws, rfl, ⟨wv, sw, wa⟩, hws, hn, hwl, q⟩ := h
    have nd := scOrder.nd
    refine ⟨_, pss_one <| ps_ret <| pe_call DA.ok hr (by rfl) DA.mg DA.kp DA.bd .nil pass0 <| pa_cons (pv 0) <| (pa_cons · pa_nil) <|
      pe_lc (own := [("start", 2), ("end", 3), ("held", 4)]) (g := gTup K 3 (gCons (gName 2) (gCons (gName 3) (gCons (gName 4) gNil)))) (tt := tTest (tOp rEq (tCB (Evl.rLenS K) (tCons (tVar 4) tNil)) (tC (.int 0)))) (te := tTup (tCons (tVar 2) (tCons (tVar 3) tNil))) rfl nd
        (pi_list (pv 1)) (blkOk_by (N := nOrder) (sc := defScope sOrder) (own := [("start", 2), ("end", 3), ("held", 4)]) (by decide +kernel))
        (fun _ _ _ _ _ => pg_tup rfl (pgs_cons (pg_name (i := 2) nd rfl (Or.inl rfl)) (pgs_cons (pg_name (i := 3) nd rfl (Or.inl rfl)) (pgs_cons (pg_name (i := 4) nd rfl (Or.inl rfl)) pgs_nil))))
        (fun _ _ _ _ _ => pts_one (pt_cmpR op_eq (pe_callB call_len_seq (by rfl) B.len PySem.boot_len (pa_cons (pv 4) pa_nil)) pe_int (nomark _)))
        (fun _ _ _ _ _ => pe_tup (pa_cons (pv 2) (pa_cons (pv 3) pa_nil))), ?_⟩
    have hlw : wv.length = ws.length := wa.1
    -- bare = [..]
    refine ⟨_, rfl, _, rfl, lw, rfl, ⟨_, sw⟩, fun lb hlb => ?_⟩
    refine lc_list (K := K) (a := lw) (xs := wv) (fun i Hc => ∃ bv, Hc lb = some (.lst bv) ∧ All2 (PairV K Hc) bv (bare (ws.take i)) ∧ Same H Hc) ⟨[], upd_same, by simpa [bare] using All2.nil, same_new hlb⟩ (fun i Hc _ ⟨_, _, _, sm⟩ => sm.seq sw) ?_ ?_
    · rintro i x Hc hx ⟨bv, hb, ba, sm⟩
      obtain ⟨y, hy, a, b, rfl, sq1, sq2⟩ := wa.get hx
      have hyi : i < ws.length := (List.getElem?_eq_some_iff.mp hy).1
      have t := TK.same sm
      have hbl : bv.length ≤ 1000 := by
        rw [ba.1]
        have := bare_len (ws.take i)
        rw [List.length_take] at this
        omega
      refine ⟨a, _, rfl, t.seq sq1, rfl, _, _, rfl, _, _, rfl, _, _, rfl, rfl, rfl, ?_⟩
      refine ⟨_, rfl, b, _, rfl, .inr (t.seq sq2), rfl, _, rfl, ite2 (fun e => ?_) (fun e => ?_)⟩
      · have he : y.2.2.isEmpty = true := by
          have e' : (((y.2.2.map V.int).length : Nat) : Int) = 0 := V.int.inj (of_decide_eq_true e)
          rw [List.length_map] at e'
          rw [List.isEmpty_iff, ← List.length_eq_zero_iff]
          omega
        refine ⟨_, rfl, _, rfl, (by show 2 ≤ sizeLine; decide), fun p hp => ?_⟩
        have smp : Same Hc (upd Hc p (.tup [.int (y.1 : Nat), .int (y.2.1 : Nat)])) := same_new hp
        have npb : p ≠ lb := fun z => by
          rw [z, hb] at hp
          cases hp
        have t2 : TK Hc (upd (upd Hc p (.tup [.int (y.1 : Nat), .int (y.2.1 : Nat)])) lb (.lst (bv ++ [.ref p]))) := (TK.new hp).trans (TK.lst (smp _ _ hb))
        refine ⟨bv, smp _ _ hb, Nat.lt_of_le_of_lt hbl (small1000 (Nat.le_refl _)), bv ++ [.ref p], upd_same, ?_, same_mut (sm.trans smp) hlb⟩
        rw [bare_take hy, if_pos he]
        exact (ba.imp fun _ _ r => r.tk t2).snoc ⟨p, rfl, .inl (.inl (by rw [upd_ne npb]; exact upd_same))⟩
      · have he : ¬ y.2.2.isEmpty = true := fun z => by
          apply e
          rw [List.isEmpty_iff] at z
          rw [z]
          rfl
        exact ⟨bv, hb, by rw [bare_take hy, if_neg he]; exact ba, sm⟩
    · rintro H1 ⟨bv, hb1, ba1, sm1⟩
      rw [hlw, List.take_length] at ba1
      have hbl : bv.length ≤ 1000 := by
        rw [ba1.1]
        have := bare_len ws
        omega
      have hBlt : ∀ b ∈ bare ws, b.1 < n ∧ b.2 < n := by
        intro b hb
        obtain ⟨x, hx, rfl⟩ := List.mem_map.mp hb
        rw [List.mem_filter] at hx
        exact hws x hx.1
      exact ⟨n, lb, bv, bare ws, rfl, SqL.of hb1, ba1, hBlt, hn, by have := bare_len ws; omega, fun ord p H2 ki s2 hp h2 => q ord p H2 ki (sm1.trans s2) (sm1.free hp) h2⟩
end
end Lag

set_option maxRecDepth 100000
set_option maxHeartbeats 4000000
namespace Lag
open PySem PySem.Spec PyProof.Rows L2
abbrev sChkRings : Stmt := topS 25
abbrev sInit : Stmt := inClass (topS 19) 0
abbrev sEq : Stmt := inClass (topS 19) 1
abbrev sIns : Stmt := inClass (topS 19) 2
abbrev sOuts : Stmt := inClass (topS 19) 3
def spChkRings (K : PySem.W.Frag) : Sp := fun vs H Q _ => ∃ (n : Nat) (lw : Addr) (ws : List Wr), vs = [.int (n : Nat), .ref lw] ∧ RW K H lw ws ∧ (∀ x ∈ ws, x.1 < n ∧ x.2.1 < n) ∧ n ≤ 1000 ∧ ws.length ≤ 1000 ∧
  (∃ ρ : Nat → Nat, ∀ x ∈ ws, x.2.2 = [] → ρ x.1 < ρ x.2.1) ∧ ∀ H', Same H H' → Q .non H'
/-! ### a net's object -/
def nf (lg lw : Addr) : List (Str × V) := putF "wires" (.ref lw) (putF "gates" (.ref lg) [])
theorem gw_ne : ¬ (("gates" : Str) = "wires") := by decide +kernel
theorem nf_eq (lg lw : Addr) : nf lg lw = ([("gates", V.ref lg), ("wires", V.ref lw)] : List (Str × V)) := by
  show (if ("gates" : Str) = "wires" then [(("gates" : Str), V.ref lw)] else (("gates" : Str), V.ref lg) :: putF "wires" (V.ref lw) []) = ([("gates", V.ref lg), ("wires", V.ref lw)] : List (Str × V))
  rw [if_neg gw_ne]
  all_goals rfl
theorem nf_gates (lg lw : Addr) : (nf lg lw).lookup ("gates" : Str) = some (.ref lg) := by
  unfold nf
  rw [lookup_putF, if_neg gw_ne, lookup_putF, if_pos rfl]
theorem nf_wires (lg lw : Addr) : (nf lg lw).lookup ("wires" : Str) = some (.ref lw) := by
  unfold nf
  rw [lookup_putF, if_pos rfl]
theorem nf_no (lg lw : Addr) {m : Str} (h1 : ¬ m = "wires") (h2 : ¬ m = "gates") : (nf lg lw).lookup m = none := by
  unfold nf
  rw [lookup_putF, if_neg h1, lookup_putF, if_neg h2]
  all_goals rfl
/-- the class as the top has made it -/
structure NT (K : PySem.W.Frag) (mg : Str → Option Value) (C : Addr) : Prop where
  cl : Cls K C
  nG : NoAttr K C "gates"
  nW : NoAttr K C "wires"
  mg : mg "Net" = some (.ref C)
/-- a net at p: its own lists at lg, lw -/
structure NetAt (K : PySem.W.Frag) (C : Addr) (H : Hp) (p lg lw : Addr) (gs : List Gt) (ws : List Wr) : Prop where
  ob : ∃ dx, H p = some (.ins C dx (nf lg lw))
  g : LG K H lg gs
  w : LW K H lw ws
  ne : lg ≠ lw
theorem LG.same {K : PySem.W.Frag} {H H' : Hp} {l : Addr} {gs : List Gt} (h : LG K H l gs) (s : Same H H') : LG K H' l gs := by
  obtain ⟨vs, q, a⟩ := h
  exact ⟨vs, s _ _ q, a.imp fun _ _ r => r.tk (TK.same s)⟩
theorem LW.same {K : PySem.W.Frag} {H H' : Hp} {l : Addr} {ws : List Wr} (h : LW K H l ws) (s : Same H H') : LW K H' l ws := by
  obtain ⟨vs, q, a⟩ := h
  exact ⟨vs, s _ _ q, a.imp fun _ _ r => r.tk (TK.same s)⟩
theorem LG.rg {K : PySem.W.Frag} {H : Hp} {l : Addr} {gs : List Gt} (h : LG K H l gs) : RG K H l gs := by
  obtain ⟨vs, q, a⟩ := h
  exact ⟨vs, SqL.of q, a⟩
theorem LW.rw {K : PySem.W.Frag} {H : Hp} {l : Addr} {ws : List Wr} (h : LW K H l ws) : RW K H l ws := by
  obtain ⟨vs, q, a⟩ := h
  exact ⟨vs, SqL.of q, a⟩
theorem NetAt.same {K : PySem.W.Frag} {C : Addr} {H H' : Hp} {p lg lw : Addr} {gs : List Gt} {ws : List Wr} (n : NetAt K C H p lg lw gs ws) (s : Same H H') : NetAt K C H' p lg lw gs ws := by
  obtain ⟨dx, h⟩ := n.ob
  exact ⟨⟨dx, s _ _ h⟩, n.g.same s, n.w.same s, n.ne⟩
def spInit (K : PySem.W.Frag) (C : Addr) : Sp := fun vs H Q _ => ∃ (p dx lg lw : Addr) (gs : List Gt) (ws : List Wr), vs = [.ref p, .ref lg, .ref lw] ∧ H p = some (.ins C dx []) ∧ RG K H lg gs ∧ RW K H lw ws ∧ NetOk gs ws ∧
  ∀ (H' : Hp) (lg' lw' : Addr), NetAt K C H' p lg' lw' gs ws → H lg' = none → H lw' = none → (∀ b o, H b = some o → b ≠ p → H' b = some o) → Q .non H'
/-- the places of a kind, rising -/
def plc (gs : List Gt) (k : Str) (n : Nat) : List Nat := (List.range n).filter fun i => decide (kindAt gs i = k)
def spPlaces (K : PySem.W.Frag) : Sp := fun vs H Q _ => ∃ (k : Str) (lg : Addr) (gs : List Gt), vs = [.str k, .ref lg] ∧ RG K H lg gs ∧ gs.length ≤ 1000 ∧
  ∀ p H', H p = none → Same H H' → H' p = some (.lst ((plc gs k gs.length).map fun i => V.int (i : Nat))) → Q (.ref p) H'
def spPorts (K : PySem.W.Frag) (C : Addr) (k : Str) : Sp := fun vs H Q _ => ∃ (p lg lw : Addr) (gs : List Gt) (ws : List Wr), vs = [.ref p] ∧ NetAt K C H p lg lw gs ws ∧ gs.length ≤ 1000 ∧
  ∀ l H', H l = none → Same H H' → H' l = some (.lst ((plc gs k gs.length).map fun i => V.int (i : Nat))) → Q (.ref l) H'
section
variable {P : Program} {w : World} {K : PySem.W.Frag} {mg : Str → Option Value} {base : Heap}
theorem scChkRings : FnScope ["many_gates", "wires", "placed"] ["many_gates", "wires"] (defScope sChkRings) := ⟨rfl, rfl, rfl, by decide +kernel, rfl, by decide +kernel, by decide +kernel⟩
abbrev DChkRings (P : Program) (w : World) (K : PySem.W.Frag) (mg : Str → Option Value) (base : Heap) := Df P w K mg base 3 "check_rings" ["many_gates", "wires"] (spChkRings K)
theorem ok_chkRings {f fO : Addr} {fd fdO : FuncData} (F : Fun K "check_rings" "check_rings" sChkRings f fd) (hm : mg "check_rings" = some (.ref f)) (B : Bt mg) (DO : DOrder P w K mg base fO fdO) : DChkRings P w K mg base f fd := by
  refine ⟨?_, hm, F.kp, F.binds fun _ _ _ _ _ _ us hl => match us, hl with | [_, _], _ => rfl⟩
  refine F.ok scChkRings (fun vs H Q E h => ?_) (fun cdv A outer s H vs Q E hr h => ?_)
  · obtain ⟨n, lw, ws, rfl, _⟩ := h
    rfl
  · obtain ⟨n, lw, ws, rfl, R, hws, hn, hwl, rk, q⟩ := h
    have nd := scChkRings.nd
    refine ⟨_, pss_cons (ps_set (i := 2) nd rfl (Or.inl rfl) (pe_call DO.ok hr (by rfl) DO.mg DO.kp DO.bd .nil pass0 (pa_cons (pv 0) (pa_cons (pv 1) pa_nil)))) <|
      pss_one <| ps_if (pt_cmpR op_lt (pe_callB call_len_seq (by rfl) B.len PySem.boot_len (pa_cons (pv 2) pa_nil)) (pv 0) (nomark _)) (pss_one ps_never) pss_nil, ?_⟩
    refine ⟨_, rfl, _, rfl, n, lw, ws, rfl, R, hws, hn, hwl, fun ord p H1 ho sm hp h1 => ?_⟩
    have hpl : ord.length = n := by rw [(ho.full hws rk).length_eq, List.length_range]
    refine ⟨_, rfl, p, _, rfl, .inl (SqL.of h1), _, rfl, _, _, rfl, rfl, false, ?_, iteF (q H1 sm)⟩
    show V.bl (decide (((ord.map fun i => V.int (i : Nat)).length : Int) < (n : Int))) = V.bl false
    rw [decide_eq_false]
    rw [List.length_map, hpl]
    omega
theorem scInit : FnScope ["self", "gates", "wires"] ["self", "gates", "wires"] (defScope sInit) := ⟨rfl, rfl, rfl, by decide +kernel, rfl, by decide +kernel, by decide +kernel⟩
theorem ok_init {f fG fW fR C : Addr} {fd fdG fdW fdR : FuncData} (F : Fun K "__init__" "Net.__init__" sInit f fd) (T : NT K mg C) (B : Bt mg) (DG : DChkGates P w K mg base fG fdG) (DW : DChkWires P w K mg base fW fdW) (DR : DChkRings P w K mg base fR fdR) :
    FnOk P w K mg base CX0 6 f fd ["self", "gates", "wires"] (spInit K C) := by
  refine F.ok scInit (fun vs H Q E h => ?_) (fun cdv A outer s H vs Q E hr h => ?_)
  · obtain ⟨p, dx, lg, lw, gs, ws, rfl, _⟩ := h
    rfl
  · obtain ⟨p, dx, lg, lw, gs, ws, rfl, hp, RGs, RWs, N, q⟩ := h
    have hr4 : Room 4 _ := hr.mono (by decide)
    have hr2 : Room 3 _ := hr.mono (by decide)
    refine ⟨_, pss_cons (ps_expr (pe_call DG.ok hr4 (by rfl) DG.mg DG.kp DG.bd .nil pass0 (pa_cons (pv 1) pa_nil))) <|
      pss_cons (ps_expr (pe_call DW.ok hr (by rfl) DW.mg DW.kp DW.bd .nil pass0 (pa_cons (pv 1) (pa_cons (pv 2) pa_nil)))) <|
      pss_cons (ps_expr (pe_call DR.ok hr2 (by rfl) DR.mg DR.kp DR.bd .nil pass0 (pa_cons (pe_callB call_len_seq (by rfl) B.len PySem.boot_len (pa_cons (pv 1) pa_nil)) (pa_cons (pv 2) pa_nil)))) <|
      pss_cons (ps_fld (pv 0) (pe_callTy call_list_of (by rfl) B.list (by decide +kernel) (pa_cons (pv 1) pa_nil)) rfl) <|
      pss_one (ps_fld (pv 0) (pe_callTy call_list_of (by rfl) B.list (by decide +kernel) (pa_cons (pv 2) pa_nil)) rfl), ?_⟩
    refine ⟨_, rfl, lg, gs, rfl, RGs, N.ne, N.gok, fun H1 sm1 => ?_⟩
    refine ⟨_, rfl, _, rfl, lg, lw, gs, ws, rfl, RGs.same sm1, RWs.same sm1, N, fun H2 sm2 => ?_⟩
    have s2 := sm1.trans sm2
    obtain ⟨gv, sg, ga⟩ := RGs.same s2
    have hlg : gv.length = gs.length := ga.1
    refine ⟨_, rfl, lg, gv, rfl, .inl sg, _, rfl, gv.length, lw, ws, rfl, RWs.same s2, fun x hx => ?_, by have := N.gl; omega, N.wl, N.rank, fun H3 sm3 => ?_⟩
    · rw [hlg]
      exact ⟨(N.wok x hx).s, (N.wok x hx).e⟩
    have s3 := s2.trans sm3
    obtain ⟨gv3, sg3, ga3⟩ := RGs.same s3
    obtain ⟨wv3, sw3, wa3⟩ := RWs.same s3
    have hp3 := s3 _ _ hp
    refine ⟨_, rfl, lg, gv3, rfl, .inl sg3, fun l1 hl1 => ?_⟩
    have np1 : p ≠ l1 := ne_of_none hp3 hl1
    have sm4 : Same H3 (upd H3 l1 (.lst gv3)) := same_new hl1
    refine ⟨_, rfl, p, C, dx, [], rfl, sm4 _ _ hp3, T.cl, T.nG, (by show 0 < 1000; decide), ?_⟩
    have hw4 : SqL K (upd (upd H3 l1 (.lst gv3)) p (.ins C dx (putF "gates" (.ref l1) []))) lw wv3 := by
      rcases sm4.seq sw3 with (h | ⟨o, h⟩) | h
      · have n : lw ≠ p := fun z => by
          rw [z, sm4 _ _ hp3] at h
          cases h
        exact .inl (.inl (by rw [upd_ne n]; exact h))
      · have n : lw ≠ p := fun z => by
          rw [z, sm4 _ _ hp3] at h
          cases h
        exact .inl (.inr ⟨o, by rw [upd_ne n]; exact h⟩)
      · exact .inr h
    refine ⟨_, rfl, lw, wv3, rfl, .inl hw4, fun l2 hl2 => ?_⟩
    have np2 : p ≠ l2 := fun z => by
      rw [← z, upd_same] at hl2
      cases hl2
    have h11 : (upd (upd H3 l1 (.lst gv3)) p (.ins C dx (putF "gates" (.ref l1) []))) l1 = some (.lst gv3) := by
      rw [upd_ne np1.symm]
      exact upd_same
    have n12 : l1 ≠ l2 := ne_of_none h11 hl2
    have hl2' : H3 l2 = none := by
      rw [upd_ne np2.symm, upd_ne n12.symm] at hl2
      exact hl2
    refine ⟨_, rfl, p, C, dx, _, rfl, (by rw [upd_ne np2]; exact upd_same), T.cl, T.nW, (by show 1 < 1000; decide), ?_⟩
    have keep : ∀ b o, b ≠ p → H3 b = some o → (upd (upd (upd (upd H3 l1 (.lst gv3)) p (.ins C dx (putF "gates" (.ref l1) []))) l2 (.lst wv3)) p (.ins C dx (putF "wires" (.ref l2) (putF "gates" (.ref l1) [])))) b = some o := fun b o nb e => by
      rw [upd_ne nb, upd_ne (ne_of_none e hl2'), upd_ne nb, upd_ne (ne_of_none e hl1)]
      exact e
    have tk : TK H3 (upd (upd (upd (upd H3 l1 (.lst gv3)) p (.ins C dx (putF "gates" (.ref l1) []))) l2 (.lst wv3)) p (.ins C dx (putF "wires" (.ref l2) (putF "gates" (.ref l1) [])))) := fun b o t e => keep b o (fun z => by
      rw [z, hp3] at e
      cases e
      exact t) e
    refine q _ l1 l2 ⟨⟨dx, upd_same⟩, ⟨gv3, ?_, ga3.imp fun _ _ r => r.tk tk⟩, ⟨wv3, ?_, wa3.imp fun _ _ r => r.tk tk⟩, n12⟩ (s3.free hl1) (s3.free hl2') fun b o e nb => keep b o nb (s3 _ _ e)
    · rw [upd_ne np1.symm, upd_ne n12, upd_ne np1.symm]
      exact upd_same
    · rw [upd_ne np2.symm]
      exact upd_same
/-! ### places_of, ins, outs -/
abbrev nPlaces : List Str := ["kind", "gates", "number", "gate"]
theorem plc_succ {gs : List Gt} {k : Str} {i : Nat} : plc gs k (i + 1) = if kindAt gs i = k then plc gs k i ++ [i] else plc gs k i := by
  unfold plc
  rw [List.range_succ, List.filter_append, List.filter_cons]
  by_cases h : kindAt gs i = k
  · rw [if_pos h, if_pos (decide_eq_true h)]
    rfl
  · rw [if_neg h, if_neg (by simp [h]), List.filter_nil, List.append_nil]
theorem plc_len (gs : List Gt) (k : Str) (n : Nat) : (plc gs k n).length ≤ n := by
  unfold plc
  have := List.length_filter_le (fun i => decide (kindAt gs i = k)) (List.range n)
  rw [List.length_range] at this
  exact this
end
end Lag

set_option maxRecDepth 100000
set_option maxHeartbeats 4000000
namespace Lag
open PySem PySem.Spec PyProof.Rows L2
/-! ### == and != by an own __eq__, whatever the other thing is -/
section
variable {X : Cx} {pins : List (Addr × Obj)} {σ : L2.St} {H : Hp} {s : Shared}
/-- what typeOf says -/
def TyL (X : Cx) (s : Shared) (v tb : Value) : Prop := PySem.W.Looks (model X.prog X.w) s.heap (typeOf v) tb
theorem ty_looks {y : V} {v tb : Value} (I : Inv X pins σ H s) (r : RelV y v) (t : TyOf X.K H y tb) : TyL X s v tb := by
  cases t with
  | non => cases r; exact .of_pure rfl
  | bl b => cases r; exact .of_pure rfl
  | int i => obtain ⟨t, rfl⟩ := r; exact .of_pure rfl
  | str x => obtain ⟨t, rfl⟩ := r; exact .of_pure rfl
  | flt x => obtain ⟨t, rfl⟩ := r; exact .of_pure rfl
  | @lst a xs ea =>
    cases r
    obtain ⟨_, _, n, _, h1⟩ := (show ObjOk X.prog X.w H s.heap a (.lst xs) from I.hok a _ ea)
    exact (PySem.W.Looks.ld h1).andThen .now
  | @frz a ob xs ea =>
    cases r
    obtain ⟨_, _, _, n, _, h1⟩ := (show ObjOk X.prog X.w H s.heap a (.frz ob (.lst xs)) from I.hok a _ ea)
    exact (PySem.W.Looks.ld h1).andThen .now
  | @tup a xs ea =>
    cases r
    obtain ⟨_, _, _, o, h1, h2, _⟩ := (show ObjOk X.prog X.w H s.heap a (.tup xs) from I.hok a _ ea)
    exact h2 ▸ (PySem.W.Looks.ld h1).andThen .now
  | @dK a kvs ea =>
    cases r
    obtain ⟨_, _, vs, _, o, es, ep, h1, h2, _⟩ := (show ObjOk X.prog X.w H s.heap a (.dK kvs) from I.hok a _ ea)
    exact h2.1 ▸ (PySem.W.Looks.ld h1).andThen .now
  | @dT a kvs ea =>
    cases r
    obtain ⟨_, _, xs, _, o, es, ep, h1, h2, _⟩ := (show ObjOk X.prog X.w H s.heap a (.dT kvs) from I.hok a _ ea)
    exact h2.1 ▸ (PySem.W.Looks.ld h1).andThen .now
  | @ins a C dx fs ea cl ha hn htk hm =>
    cases r
    obtain ⟨mA, O, _⟩ := ins_get I.hok ea
    obtain ⟨od, J, _⟩ := O.look
    exact J.type
/-- a call of a def from within -/
theorem call_own {n : Nat} {f : Addr} {fd : FuncData} {ps : List Str} {sp : Sp} {xs : List V} {us : List Value} {Q : VK} {A : Around} (F : FnOk X.prog X.w X.K X.mg X.base CX0 n f fd ps sp) (hb : Binds X.K fd ps []) (sb : Sub X n A) (I : Inv X pins σ H s) (rx : Vals xs us)
    (h : sp xs H Q E0) : wpAny (model X.prog X.w) A (call (.ref f) us) (EP X pins σ Q) X.xe s := by
  have e0 : Env0 X.prog X.w X.K X.mg X.base A X.stack s H := by
    have e := I.env0
    exact ⟨by rw [sb.fr]; exact e.frames, e.mod, e.bs, e.bsz, e.funs, e.frf, e.hok, e.bare⟩
  have hl := F.len _ _ _ _ h
  have hl' : us.length = ps.length := by rw [← rx.length, hl]
  refine wpAny_call (codeAny_mono (F.run A X.stack s H ⟨us, []⟩ us xs _ E0 sb.room e0 (by
    have := hb s us I.kIn (by simpa using hl')
    simpa using this) rx h) fun r s' hq => ?_)
  cases r with
  | error e => exact False.elim hq
  | ok fl =>
    cases fl with
    | ret w => exact I.after hq
    | next => exact False.elim hq
    | brk => exact False.elim hq
    | cont => exact False.elim hq
/-- a special method that is a built-in -/
theorem ifBound_B {M : Model} {K : PySem.W.Frag} {A : Around} {E : Value → Shared → Prop} {s : Shared} {x C : Addr} {ox : Obj} {od : Option Obj} {name : Str} {id : String} {args : List Value} {Q : Option Value → Shared → Prop} (X : K.In s.heap) (I : PySem.W.InstAt s.heap x ox C od)
    (hs : PySem.W.findIn K (.ref C) name = some (some (.builtin id))) (hb : ∀ self, bindSpecial (.builtin id) self = pure (.builtin id, [self]))
    (h : wpAny M A (call (.builtin id) (.ref x :: args)) (fun v => Q (some v)) E s) : wpAny M A (callSpecialIfBound? (.ref x) name args) Q E s := by
  simp only [callSpecialIfBound?, bindSpecialIfBound?]
  refine wpAny_holding (wpAny_bind (wpAny_bind (wpAny_bind (I.type.here ((PySem.W.looks_findIn X hs).here ?_)))))
  refine wpAny_bind (wpAny_askSetting (wpAny_ite ?_))
  have fin : wpAny M A (call (.builtin id) ([.ref x] ++ args) >>= fun v => pure (some v)) Q E s := wpAny_bind (wpAny_mono h (fun v s' h' => wpAny_pure h') fun _ _ h' => h')
  split
  · exact wpAny_bind (wpAny_of_eq (hb _) (wpAny_pure (by exact fin)))
  · exact wpAny_tryCatch (wpAny_bind (wpAny_of_eq (hb _) (wpAny_pure (by exact fin))))
theorem bind_ne (self : Value) : bindSpecial (.builtin "object.__ne__") self = pure (.builtin "object.__ne__", [self]) := PySem.F.slot_tuple_iterator_ne.bind self
theorem ne_body {K : PySem.W.Frag} {prog : Program} {w : World} {A : Around} {E : Value → Shared → Prop} {s : Shared} {x C f : Addr} {ox : Obj} {od : Option Obj} {b : Value} {Q : Fin → Shared → Prop} (X : K.In s.heap) (I : PySem.W.InstAt s.heap x ox C od)
    (hs : PySem.W.findIn K (.ref C) "__eq__" = some (some (.ref f))) (hf : PySem.W.isFn K (.ref f) = true) (hu : A.units < cLine)
    (hcall : wpAny (model prog w) A (call (.ref f) [.ref x, b]) (fun v s' => ∃ c, v = .bool c ∧ Q (.done (.ret (.bool (!c)))) s') E s) :
    wpAny (model prog w) A (Builtin.«object.__ne__» ⟨[.ref x, b], []⟩) Q E s := by
  obtain ⟨h, g, d, t, os⟩ := s
  unfold Builtin.«object.__ne__»
  repeat (first
    | with_reducible refine wpAny_cRoomFor hu ?_
    | (refine wpAny_bind (m := callSpecialIfBound? (.ref x) (Str.ofString "__eq__") [b])
        (PySem.W.ifBound_K X I hs hf (wpAny_mono hcall (fun r s' hr => by
          obtain ⟨c, rfl, hq⟩ := hr
          repeat (first | exact hq | exact wpAny_pure hq | exact wpAny_truthy_bool hq | (refine wpAny_bind (m := truthy (.bool _)) (wpAny_truthy_bool ?_)) | wp_step)) fun _ _ e => e)))
    | wp_step)
theorem op_eqO {n : Nat} {C f : Addr} {fd : FuncData} {ps : List Str} {sp : Sp} (F : FnOk X.prog X.w X.K X.mg X.base CX0 n f fd ps sp) (hs : PySem.W.findIn X.K (.ref C) "__eq__" = some (some (.ref f))) (hf : PySem.W.isFn X.K (.ref f) = true) (hb : Binds X.K fd ps []) (hr : Room n X.A) :
    OpR X (compareOp .Eq) (fun x y H Q => ∃ a dx fs tb, x = .ref a ∧ H a = some (.ins C dx fs) ∧ TyOf X.K H y tb ∧ PySem.W.notFirst X.K C tb = true ∧ sp [x, y] H (fun v H' => ∃ c, v = .bl c ∧ Q v H') E0) := by
  intro pins s σ H x y u v Q I rx ry h
  obtain ⟨a, dx, fs, tb, rfl, ha, ty, nf, q⟩ := h
  cases rx
  obtain ⟨mA, J, _⟩ := ins_get I.hok ha
  obtain ⟨od, J, _⟩ := J.look
  obtain ⟨m, hF⟩ := I.fr
  show wpAny (model X.prog X.w) X.A (richCompare .Eq (.ref a) v) (EP X pins σ Q) X.xe s
  refine PySem.W.cmp_K (op := .Eq) (tb := tb) hr.units0 hF I.ok.mod.kin J (ty_looks I ry ty) nf hs hf ?_
  refine wpAny_mono (call_own F hb ⟨hr, rfl⟩ I (.cons (show RelV (V.ref a) (Value.ref a) from rfl) (.cons ry .nil)) q) (fun r s' z => ?_) fun _ _ x => x
  obtain ⟨z, H', I', rz, c, ez, q'⟩ := z
  subst ez
  cases rz
  exact ⟨.bl c, H', I', rfl, q'⟩
theorem op_neO {n : Nat} {C f : Addr} {fd : FuncData} {ps : List Str} {sp : Sp} (F : FnOk X.prog X.w X.K X.mg X.base CX0 n f fd ps sp) (hs : PySem.W.findIn X.K (.ref C) "__eq__" = some (some (.ref f))) (hn : PySem.W.findIn X.K (.ref C) "__ne__" = some (some (.builtin "object.__ne__")))
    (ho : PySem.W.mroIn X.K C (.type "object") = some true) (hf : PySem.W.isFn X.K (.ref f) = true) (hb : Binds X.K fd ps []) (hr : Room (n + 1) X.A) :
    OpR X (compareOp .NotEq) (fun x y H Q => ∃ a dx fs tb, x = .ref a ∧ H a = some (.ins C dx fs) ∧ TyOf X.K H y tb ∧ PySem.W.notFirst X.K C tb = true ∧ sp [x, y] H (fun v H' => ∃ c, v = .bl c ∧ Q (.bl (!c)) H') E0) := by
  intro pins s σ H x y u v Q I rx ry h
  obtain ⟨a, dx, fs, tb, rfl, ha, ty, nf, q⟩ := h
  cases rx
  obtain ⟨mA, J, _⟩ := ins_get I.hok ha
  obtain ⟨od, J, _⟩ := J.look
  have hb' := ty_looks I ry ty
  have sb : Sub X (n + 1) X.A := ⟨hr, rfl⟩
  show wpAny (model X.prog X.w) X.A (richCompare .NotEq (.ref a) v) (EP X pins σ Q) X.xe s
  have one : wpAny (model X.prog X.w) X.A (tryCompare (.ref a) "__ne__" v) (fun r s' => ∃ w, r = some w ∧ EP X pins σ Q w s') X.xe s := by
    unfold tryCompare
    refine wpAny_bind (ifBound_B I.kIn J hn bind_ne (wpAny_call (codeAny_call_builtin PySem.F.slot_tuple_iterator_ne.plain PySem.F.cmpEntry_ne
      (PySem.W.check_slot PySem.F.cmpKind_ne PySem.F.cmpSplit_ne (J.type.andThen (PySem.W.looks_mroIn I.kIn ho)) (PySem.F.cmpArgs_ne _ _)
        (ne_body I.kIn J hs hf sb.in1.room.units0 (wpAny_mono (call_own F hb sb.in1 I (.cons (show RelV (V.ref a) (Value.ref a) from rfl) (.cons ry .nil)) q) (fun r s' z => ?_) fun _ _ x => x))))))
    obtain ⟨z, H', I', rz, c, ez, q'⟩ := z
    subst ez
    cases rz
    have fin : EP X pins σ Q (.bool (!c)) s' := ⟨.bl (!c), H', I', rfl, q'⟩
    first | exact ⟨c, rfl, wpAny_pure ⟨_, rfl, fin⟩⟩ | exact ⟨c, rfl, wpAny_pure (wpAny_pure ⟨_, rfl, fin⟩)⟩ | exact ⟨c, rfl, ⟨_, rfl, fin⟩⟩
  unfold richCompare
  simp only [oneThing_ref]
  refine wpAny_holding (wpAny_bind (wpAny_cRoomFor hr.units0 ?_))
  refine wpAny_bind (J.type.here (wpAny_bind (hb'.here ?_)))
  split
  · rename_i q'
    have e : PySem.W.subIn X.K tb (.ref C) = some false := by
      rcases Bool.or_eq_true_iff.mp nf with e | e
      · rw [beq_iff_eq.mp e] at q'; simp at q'
      · exact beq_iff_eq.mp e
    refine wpAny_bind ((PySem.W.looks_subIn I.kIn e).here ?_)
    simp only [Bool.false_eq_true, if_false]
    refine wpAny_bind (wpAny_mono one (fun r s' z => ?_) fun _ _ e => e)
    obtain ⟨v, rfl, hq⟩ := z
    exact wpAny_pure hq
  · refine wpAny_bind (wpAny_pure ?_)
    simp only [Bool.false_eq_true, if_false]
    refine wpAny_bind (wpAny_mono one (fun r s' z => ?_) fun _ _ e => e)
    obtain ⟨v, rfl, hq⟩ := z
    exact wpAny_pure hq
end
end Lag

set_option maxRecDepth 100000
set_option maxHeartbeats 4000000
namespace Lag
open PySem PySem.Spec PyProof.Rows L2
/-! ### nets as data that is compared -/
def gateD (g : Gt) : PyData := .tuple [.str g.1, .int g.2]
def gatesD (gs : List Gt) : PyData := .list (gs.map gateD)
def wireD (x : Wr) : PyData := .tuple [.int (x.1 : Nat), .int (x.2.1 : Nat), .tuple (x.2.2.map PyData.int)]
def wiresD (ws : List Wr) : PyData := .list (ws.map wireD)
def intsD (l : List Nat) : PyData := .list (l.map fun i => .int (i : Nat))
theorem eqvAll_map {α : Type} [DecidableEq α] {f : α → PyData} (h : ∀ x y, PyData.eqv (f x) (f y) = decide (x = y)) : ∀ xs ys : List α, PyData.eqvAll (xs.map f) (ys.map f) = decide (xs = ys)
  | [], [] => rfl
  | [], _ :: _ => rfl
  | _ :: _, [] => rfl
  | x :: xs, y :: ys => by
    show (PyData.eqv (f x) (f y) && PyData.eqvAll (xs.map f) (ys.map f)) = _
    rw [h, eqvAll_map h xs ys, Bool.eq_iff_iff]
    simp
theorem gateD_eq (a b : Gt) : PyData.eqv (gateD a) (gateD b) = decide (a = b) := by
  show ((a.1 == b.1) && ((a.2 == b.2) && true)) = _
  rw [Bool.eq_iff_iff]
  simp [Prod.ext_iff]
theorem gatesD_eq (a b : List Gt) : PyData.eqv (gatesD a) (gatesD b) = decide (a = b) := eqvAll_map gateD_eq a b
theorem intD_eq (a b : Int) : PyData.eqv (.int a) (.int b) = decide (a = b) := rfl
theorem wireD_eq (a b : Wr) : PyData.eqv (wireD a) (wireD b) = decide (a = b) := by
  show ((((a.1 : Nat) : Int) == ((b.1 : Nat) : Int)) && ((((a.2.1 : Nat) : Int) == ((b.2.1 : Nat) : Int)) && (PyData.eqvAll (a.2.2.map PyData.int) (b.2.2.map PyData.int) && true))) = _
  rw [eqvAll_map intD_eq, Bool.eq_iff_iff]
  simp only [Bool.and_eq_true, beq_iff_eq, decide_eq_true_eq, and_true]
  constructor
  · rintro ⟨h1, h2, h3⟩
    exact Prod.ext (by omega) (Prod.ext (by show a.2.1 = b.2.1; omega) h3)
  · rintro rfl
    exact ⟨rfl, rfl, rfl⟩
theorem wiresD_eq (a b : List Wr) : PyData.eqv (wiresD a) (wiresD b) = decide (a = b) := eqvAll_map wireD_eq a b
theorem natD_eq (a b : Nat) : PyData.eqv (.int (a : Nat)) (.int (b : Nat)) = decide (a = b) := by
  show (((a : Nat) : Int) == ((b : Nat) : Int)) = _
  rw [Bool.eq_iff_iff]
  simp
  omega
theorem intsD_eq (a b : List Nat) : PyData.eqv (intsD a) (intsD b) = decide (a = b) := eqvAll_map natD_eq a b
theorem lay_all {ds : List PyData} : (∀ d ∈ ds, PyData.canLay0 d = true) → PyData.canLayAll0 ds = true := by
  induction ds with
  | nil => intro _; rfl
  | cons d ds ih =>
    intro h
    show (PyData.canLay0 d && PyData.canLayAll0 ds) = true
    rw [h d (List.mem_cons_self ..), ih fun x hx => h x (List.mem_cons_of_mem _ hx)]
    rfl
theorem depth_all {ds : List PyData} {k : Nat} : (∀ d ∈ ds, PyData.depth d ≤ k) → PyData.depthAll ds ≤ k := by
  induction ds with
  | nil => intro _; exact Nat.zero_le _
  | cons d ds ih =>
    intro h
    show max (PyData.depth d) (PyData.depthAll ds) ≤ k
    have h1 := h d (List.mem_cons_self ..)
    have h2 := ih fun x hx => h x (List.mem_cons_of_mem _ hx)
    omega
/-- such data may be compared, to the depth k -/
def Sh (k : Nat) (d : PyData) : Prop := PyData.canLay0 d = true ∧ PyData.depth d ≤ k
theorem Sh.ok {k : Nat} {d : PyData} (h : Sh k d) (hk : k ≤ 64) : SeqAt.shaped d = true := by
  show (PyData.canLay0 d && decide (PyData.depth d ≤ 64)) = true
  rw [h.1, decide_eq_true (Nat.le_trans h.2 hk)]
  rfl
theorem sh_list {k : Nat} {ds : List PyData} (h : ∀ d ∈ ds, Sh k d) : Sh (k + 1) (.list ds) := ⟨lay_all fun d hd => (h d hd).1, Nat.succ_le_succ (depth_all fun d hd => (h d hd).2)⟩
theorem sh_tuple {k : Nat} {ds : List PyData} (h : ∀ d ∈ ds, Sh k d) : Sh (k + 1) (.tuple ds) := ⟨lay_all fun d hd => (h d hd).1, Nat.succ_le_succ (depth_all fun d hd => (h d hd).2)⟩
theorem sh_int {k : Nat} (i : Int) : Sh k (.int i) := ⟨rfl, Nat.zero_le _⟩
theorem kinds_str : ∀ k ∈ kinds, PyData.canLay0 (.str k) = true := by decide +kernel
theorem sh_kind {k : Nat} {z : Str} (h : z ∈ kinds) : Sh k (.str z) := ⟨kinds_str z h, Nat.zero_le _⟩
theorem sh_gates {gs : List Gt} (h : ∀ g ∈ gs, GOk g) : Sh 2 (gatesD gs) := by
  refine sh_list fun d hd => ?_
  obtain ⟨g, hg, rfl⟩ := List.mem_map.mp hd
  refine sh_tuple fun d hd => ?_
  simp only [List.mem_cons, List.not_mem_nil, or_false] at hd
  rcases hd with rfl | rfl
  · exact sh_kind (h g hg).1
  · exact sh_int _
theorem sh_wires (ws : List Wr) : Sh 3 (wiresD ws) := by
  refine sh_list fun d hd => ?_
  obtain ⟨g, hg, rfl⟩ := List.mem_map.mp hd
  refine sh_tuple fun d hd => ?_
  simp only [List.mem_cons, List.not_mem_nil, or_false] at hd
  rcases hd with rfl | rfl | rfl
  · exact sh_int _
  · exact sh_int _
  · refine sh_tuple fun d hd => ?_
    obtain ⟨i, _, rfl⟩ := List.mem_map.mp hd
    exact sh_int _
theorem sh_ints (l : List Nat) : Sh 1 (intsD l) := by
  refine sh_list fun d hd => ?_
  obtain ⟨i, _, rfl⟩ := List.mem_map.mp hd
  exact sh_int _
section
variable {K : PySem.W.Frag} {H : Hp}
theorem dp_all {α : Type} {R : V → α → Prop} {f : α → PyData} (h : ∀ v x, R v x → Dp K H v (f x)) : ∀ {vs : List V} {xs : List α}, All2 R vs xs → DpAll K H vs (xs.map f)
  | [], [], _ => .nil
  | [], _ :: _, a => by have := a.1; simp at this
  | _ :: _, [], a => by have := a.1; simp at this
  | _ :: _, _ :: _, a => .cons (h _ _ a.head) (dp_all h a.tail)
theorem GateV.dp {v : V} {g : Gt} (h : GateV K H v g) : Dp K H v (gateD g) := by
  obtain ⟨a, rfl, s⟩ := h
  exact .tup s (.cons (.str _) (.cons (.int _) .nil))
theorem ints_dp : ∀ l : List Int, DpAll K H (l.map V.int) (l.map PyData.int)
  | [] => .nil
  | i :: l => .cons (.int i) (ints_dp l)
theorem nats_dp : ∀ l : List Nat, DpAll K H (l.map fun i => V.int (i : Nat)) (l.map fun i => PyData.int (i : Nat))
  | [] => .nil
  | i :: l => .cons (.int _) (nats_dp l)
theorem WireV.dp {v : V} {x : Wr} (h : WireV K H v x) : Dp K H v (wireD x) := by
  obtain ⟨a, b, rfl, s1, s2⟩ := h
  exact .tup s1 (.cons (.int _) (.cons (.int _) (.cons (.tup s2 (ints_dp _)) .nil)))
theorem RG.dp {l : Addr} {gs : List Gt} (h : RG K H l gs) : Dp K H (.ref l) (gatesD gs) := by
  obtain ⟨vs, s, a⟩ := h
  exact .lst s (dp_all (fun _ _ r => GateV.dp r) a)
theorem RW.dp {l : Addr} {ws : List Wr} (h : RW K H l ws) : Dp K H (.ref l) (wiresD ws) := by
  obtain ⟨vs, s, a⟩ := h
  exact .lst s (dp_all (fun _ _ r => WireV.dp r) a)
theorem dp_ints {l : Addr} {xs : List Nat} (h : SqL K H l (xs.map fun i => V.int (i : Nat))) : Dp K H (.ref l) (intsD xs) := .lst h (nats_dp xs)
end
/-! ### Net.__eq__ -/
structure NTy (K : PySem.W.Frag) (C : Addr) : Prop where
  ha : PySem.W.findIn K (.ref C) "__class__" = some (some (.builtin "object.__class__"))
  hn : PySem.W.specialIn K (.builtin "object.__class__") "__get__" = some (some (.builtin "getset_descriptor.__get__"))
  htk : PySem.W.takesIn K (.builtin "object.__class__") = some true
  hm : PySem.W.mroIn K C (.type "object") = some true
theorem ty_net {K : PySem.W.Frag} {mg : Str → Option Value} {C : Addr} {H : Hp} {p dx : Addr} {fs : List (Str × V)} (T : NT K mg C) (Y : NTy K C) (h : H p = some (.ins C dx fs)) : TyOf K H (.ref p) (.ref C) := .ins h T.cl Y.ha Y.hn Y.htk Y.hm
def spEqN (K : PySem.W.Frag) (C : Addr) : Sp := fun vs H Q _ => ∃ (p lg lw : Addr) (gs : List Gt) (ws : List Wr) (y : V), vs = [.ref p, y] ∧ NetAt K C H p lg lw gs ws ∧
  ((∃ (q lg' lw' : Addr) (gs' : List Gt) (ws' : List Wr), y = .ref q ∧ NetAt K C H q lg' lw' gs' ws' ∧ (∀ g ∈ gs, GOk g) ∧ (∀ g ∈ gs', GOk g) ∧ Q (.bl (decide (gs = gs') && decide (ws = ws'))) H) ∨
    (∃ t, TyX K H y t ∧ PySem.W.kitOne K t (.ref C) = some false ∧ Q (.bl false) H))
section
variable {P : Program} {w : World} {K : PySem.W.Frag} {mg : Str → Option Value} {base : Heap}
theorem scEq : FnScope ["self", "other"] ["self", "other"] (defScope sEq) := ⟨rfl, rfl, rfl, by decide +kernel, rfl, by decide +kernel, by decide +kernel⟩
theorem kit_self {K : PySem.W.Frag} (C : Addr) : PySem.W.kitOne K (.ref C) (.ref C) = some true := by
  unfold PySem.W.kitOne
  rw [if_pos (beq_self_eq_true _)]
theorem ok_eqN {f C : Addr} {fd : FuncData} (F : Fun K "__eq__" "Net.__eq__" sEq f fd) (T : NT K mg C) (Y : NTy K C) (B : Bt mg) : FnOk P w K mg base CX0 1 f fd ["self", "other"] (spEqN K C) := by
  refine F.ok scEq (fun vs H Q E h => ?_) (fun cdv A outer s H vs Q E hr h => ?_)
  · obtain ⟨p, lg, lw, gs, ws, y, rfl, _⟩ := h
    rfl
  · obtain ⟨p, lg, lw, gs, ws, y, rfl, N, h⟩ := h
    refine ⟨_, pss_one <| ps_ret <| pe_and (pe_callB call_isi (by rfl) B.isi (by decide +kernel) (pa_cons (pv 1) (pa_cons (pe_glob (v := .ref C) (by rfl) T.mg rfl) pa_nil))) <|
      pe_and (pe_cmpR (op_eqD hr.units) (pe_fld (pv 0) rfl) (pe_fld (pv 1) rfl) (nomark _)) <| pe_one <| pe_cmpR (op_eqD hr.units) (pe_fld (pv 0) rfl) (pe_fld (pv 1) rfl) (nomark _), ?_⟩
    obtain ⟨dx, hp⟩ := N.ob
    rcases h with ⟨q, lg', lw', gs', ws', rfl, N', gok, gok', k⟩ | ⟨t, ty, kt, k⟩
    · obtain ⟨dx', hq⟩ := N'.ob
      refine ⟨_, rfl, _, _, _, _, true, rfl, .own C, .base (ty_net T Y hq), kit_self C, true, rfl, iteT ?_⟩
      refine ⟨_, rfl, p, C, dx, _, _, rfl, hp, T.cl, T.nG, nf_gates _ _, _, rfl, q, C, dx', _, _, rfl, hq, T.cl, T.nG, nf_gates _ _, _, _, N.g.rg.dp, N'.g.rg.dp, (sh_gates gok).ok (by decide), (sh_gates gok').ok (by decide), _, rfl, ?_⟩
      rw [gatesD_eq]
      cases e : decide (gs = gs') with
      | false =>
        rw [e] at k
        exact iteF k
      | true =>
        rw [e] at k
        refine iteT ⟨_, rfl, p, C, dx, _, _, rfl, hp, T.cl, T.nW, nf_wires _ _, _, rfl, q, C, dx', _, _, rfl, hq, T.cl, T.nW, nf_wires _ _, _, _, N.w.rw.dp, N'.w.rw.dp, (sh_wires _).ok (by decide), (sh_wires _).ok (by decide), ?_⟩
        rw [wiresD_eq]
        exact k
    · exact ⟨_, rfl, _, _, _, _, false, rfl, .own C, ty, kt, false, rfl, iteF k⟩
end
end Lag

set_option maxRecDepth 100000
set_option maxHeartbeats 4000000
namespace Lag
open PySem PySem.Spec PyProof.Rows L2
/-! ### what keeps a net a net -/
theorem kindAt_set {gs : List Gt} {i j : Nat} {g : Gt} (h : i < gs.length) : kindAt (gs.set i g) j = if j = i then g.1 else kindAt gs j := by
  unfold kindAt
  rw [List.getD_eq_getElem?_getD, List.getD_eq_getElem?_getD, List.getElem?_set]
  by_cases e : i = j
  · subst e
    rw [if_pos rfl, if_pos h, if_pos rfl]
    rfl
  · rw [if_neg e, if_neg (fun z => e z.symm)]
/-- another gate at a place whose gate is no port: no port, and no first where it was none -/
theorem NetOk.setG {gs : List Gt} {ws : List Wr} (N : NetOk gs ws) {i : Nat} {g : Gt} (hi : i < gs.length) (hg : GOk g) (h1 : g.1 ≠ "out") (h2 : g.1 ≠ "in") (h3 : g.1 = "first" → kindAt gs i = "first") : NetOk (gs.set i g) ws := by
  have kk := @kindAt_set gs i
  refine ⟨?_, by rw [List.length_set]; exact N.gl, N.wl, ?_, fun x hx => ?_, fun e he hk => ?_, fun e he hk => ?_, N.rank⟩
  · intro z
    have := congrArg List.length z
    rw [List.length_set] at this
    exact N.ne (List.length_eq_zero_iff.mp this)
  · intro y hy
    rcases List.mem_or_eq_of_mem_set hy with hy | hy
    · exact N.gok y hy
    · rw [hy]
      exact hg
  · have W := N.wok x hx
    refine ⟨by rw [List.length_set]; exact W.s, by rw [List.length_set]; exact W.e, ?_, ?_, W.r, W.rl⟩
    · rw [kk hi]
      split
      · exact h1
      · exact W.ks
    · rw [kk hi]
      split
      · exact h2
      · exact W.ke
  · rw [List.length_set] at he
    rw [kk hi] at hk
    split at hk
    · exact absurd hk h1
    · exact N.one e he hk
  · rw [List.length_set] at he
    rw [kk hi] at hk
    split at hk
    · rename_i hei
      subst hei
      exact N.some _ he (h3 hk)
    · exact N.some e he hk
theorem kindAt_app {gs : List Gt} {g : Gt} {j : Nat} (h : j < gs.length) : kindAt (gs ++ [g]) j = kindAt gs j := by
  unfold kindAt
  rw [List.getD_eq_getElem?_getD, List.getD_eq_getElem?_getD, List.getElem?_append_left h]
theorem NetOk.addIn {gs : List Gt} {ws : List Wr} (N : NetOk gs ws) (hl : gs.length < 100) : NetOk (gs ++ [(("in" : Str), (0 : Int))]) ws := by
  have kl : kindAt (gs ++ [(("in" : Str), (0 : Int))]) gs.length = "in" := by
    unfold kindAt
    rw [List.getD_eq_getElem?_getD, List.getElem?_append_right (Nat.le_refl _), Nat.sub_self]
    rfl
  refine ⟨by simp, by simp; omega, N.wl, ?_, fun x hx => ?_, fun e he hk => ?_, fun e he hk => ?_, N.rank⟩
  · intro y hy
    rcases List.mem_append.mp hy with hy | hy
    · exact N.gok y hy
    · simp at hy
      subst hy
      exact ⟨by show ("in" : Str) ∈ kinds; decide +kernel, Int.le_refl 0, (by show (0 : Int) ≤ 100; decide), fun _ => rfl⟩
  · have W := N.wok x hx
    exact ⟨by have := W.s; simp; omega, by have := W.e; simp; omega, by rw [kindAt_app W.s]; exact W.ks, by rw [kindAt_app W.e]; exact W.ke, W.r, W.rl⟩
  · by_cases h : e < gs.length
    · rw [kindAt_app h] at hk
      exact N.one e h hk
    · have : e = gs.length := by simp at he; omega
      subst this
      rw [kl] at hk
      exact absurd hk (by decide +kernel)
  · by_cases h : e < gs.length
    · rw [kindAt_app h] at hk
      exact N.some e h hk
    · have : e = gs.length := by simp at he; omega
      subst this
      rw [kl] at hk
      exact absurd hk (by decide +kernel)
theorem cnt_set {ws : List Wr} {i : Nat} {x y : Wr} (h : ws[i]? = some x) (he : y.2.1 = x.2.1) (e : Nat) : cnt (ws.set i y) e = cnt ws e := by
  obtain ⟨hi, rfl⟩ := List.getElem?_eq_some_iff.mp h
  have h1 : ws.set i y = ws.take i ++ y :: ws.drop (i + 1) := List.set_eq_take_append_cons_drop .. |>.trans (by rw [if_pos hi])
  have h2 : ws = ws.take i ++ ws[i] :: ws.drop (i + 1) := by rw [List.getElem_cons_drop, List.take_append_drop]
  unfold cnt
  conv => rhs; rw [h2]
  rw [h1, List.countP_append, List.countP_append, List.countP_cons, List.countP_cons, he]
/-- a wire with other registers, one at least -/
theorem NetOk.setW {gs : List Gt} {ws : List Wr} (N : NetOk gs ws) {i : Nat} {x : Wr} {r : List Int} (h : ws[i]? = Option.some x) (hr : ROk r) (hl : r.length ≤ 100) (hne : r ≠ []) : NetOk gs (ws.set i (x.1, x.2.1, r)) := by
  have W := N.wok x (List.mem_of_getElem? h)
  obtain ⟨ρ, hρ⟩ := N.rank
  refine ⟨N.ne, N.gl, by rw [List.length_set]; exact N.wl, N.gok, fun y hy => ?_, fun e he hk => ?_, fun e he hk => ?_, ρ, fun y hy hyr => ?_⟩
  · rcases List.mem_or_eq_of_mem_set hy with hy | hy
    · exact N.wok y hy
    · rw [hy]
      exact ⟨W.s, W.e, W.ks, W.ke, hr, hl⟩
  · rw [cnt_set (y := (x.1, x.2.1, r)) h rfl]
    exact N.one e he hk
  · rw [cnt_set (y := (x.1, x.2.1, r)) h rfl]
    exact N.some e he hk
  · rcases List.mem_or_eq_of_mem_set hy with hy | hy
    · exact hρ y hy hyr
    · rw [hy] at hyr
      exact absurd hyr hne
theorem NetOk.perm {gs : List Gt} {ws ws' : List Wr} (N : NetOk gs ws) (p : ws'.Perm ws) : NetOk gs ws' := by
  obtain ⟨ρ, hρ⟩ := N.rank
  have c : ∀ e, cnt ws' e = cnt ws e := fun e => p.countP_eq _
  exact ⟨N.ne, N.gl, by rw [p.length_eq]; exact N.wl, N.gok, fun x hx => N.wok x (p.mem_iff.mp hx), fun e he hk => by rw [c]; exact N.one e he hk, fun e he hk => by rw [c]; exact N.some e he hk, ρ, fun x hx h => hρ x (p.mem_iff.mp hx) h⟩
/-! ### slices -/
theorem take_min {α : Type} (l : List α) (k : Nat) : l.take (min k l.length) = l.take k := by
  by_cases h : k ≤ l.length
  · rw [Nat.min_eq_left h]
  · rw [Nat.min_eq_right (by omega), List.take_length, List.take_of_length_le (by omega)]
theorem drop_min {α : Type} (l : List α) (k : Nat) : l.drop (min k l.length) = l.drop k := by
  by_cases h : k ≤ l.length
  · rw [Nat.min_eq_left h]
  · rw [Nat.min_eq_right (by omega), List.drop_length, List.drop_of_length_le (by omega)]
theorem cut_to {xs : List V} (k : Nat) : cutV xs none (some (k : Int)) = xs.take k := by
  unfold cutV
  rw [HT.sIx_none, HT.sIx_nat, List.drop_zero, Nat.sub_zero, take_min]
theorem cut_from {xs : List V} (k : Nat) : cutV xs (some (k : Int)) none = xs.drop k := by
  unfold cutV
  rw [HT.sIx_none, HT.sIx_nat, drop_min]
  exact List.take_of_length_le (by rw [List.length_drop]; omega)
theorem cut_mid {xs : List V} (j k : Nat) : cutV xs (some (j : Int)) (some (k : Int)) = (xs.take k).drop j := by
  unfold cutV
  rw [HT.sIx_nat, HT.sIx_nat, List.drop_take, drop_min]
  by_cases h : j ≤ xs.length
  · by_cases h2 : k ≤ xs.length
    · rw [Nat.min_eq_left h, Nat.min_eq_left h2]
    · rw [List.take_of_length_le (by rw [List.length_drop]; omega), List.take_of_length_le (by rw [List.length_drop]; omega)]
  · rw [List.drop_of_length_le (by omega)]
    simp
section
variable {α β : Type} {R : α → β → Prop} {xs xs' : List α} {ys ys' : List β}
theorem All2.take (h : All2 R xs ys) (k : Nat) : All2 R (xs.take k) (ys.take k) := by
  refine ⟨by rw [List.length_take, List.length_take, h.1], fun i x y hx hy => ?_⟩
  have hi : i < k := by
    have := (List.getElem?_eq_some_iff.mp hx).1
    rw [List.length_take] at this
    omega
  rw [List.getElem?_take_of_lt hi] at hx hy
  exact h.2 i x y hx hy
theorem All2.drop (h : All2 R xs ys) (k : Nat) : All2 R (xs.drop k) (ys.drop k) := by
  refine ⟨by rw [List.length_drop, List.length_drop, h.1], fun i x y hx hy => ?_⟩
  rw [List.getElem?_drop] at hx hy
  exact h.2 _ x y hx hy
theorem All2.append (h : All2 R xs ys) (h' : All2 R xs' ys') : All2 R (xs ++ xs') (ys ++ ys') := by
  induction xs generalizing ys with
  | nil =>
    cases ys with
    | nil => exact h'
    | cons _ _ => have := h.1; simp at this
  | cons x xs ih =>
    cases ys with
    | nil => have := h.1; simp at this
    | cons y ys => exact All2.cons h.head (ih h.tail)
theorem All2.reverse (h : All2 R xs ys) : All2 R xs.reverse ys.reverse := by
  induction xs generalizing ys with
  | nil =>
    cases ys with
    | nil => exact h
    | cons _ _ => have := h.1; simp at this
  | cons x xs ih =>
    cases ys with
    | nil => have := h.1; simp at this
    | cons y ys =>
      rw [List.reverse_cons, List.reverse_cons]
      exact (ih h.tail).snoc h.head
theorem All2.one {x : α} {y : β} (r : R x y) : All2 R [x] [y] := All2.cons r All2.nil
end
theorem set_cut {α : Type} {l : List α} {i : Nat} {y : α} (h : i < l.length) : l.take i ++ [y] ++ l.drop (i + 1) = l.set i y := by
  rw [List.set_eq_take_append_cons_drop, if_pos h, List.append_assoc]
  rfl
theorem swap_perm {α : Type} (l : List α) (i : Nat) : (l.take i ++ ((l.take (i + 2)).drop i).reverse ++ l.drop (i + 2)).Perm l := by
  have e : l = l.take i ++ (l.take (i + 2)).drop i ++ l.drop (i + 2) := by
    have h1 : l.take i = (l.take (i + 2)).take i := by rw [List.take_take, Nat.min_eq_left (by omega)]
    rw [h1, List.take_append_drop, List.take_append_drop]
  conv => rhs; rw [e]
  exact ((List.Perm.refl _).append (List.reverse_perm _)).append (List.Perm.refl _)
end Lag

set_option maxRecDepth 100000
set_option maxHeartbeats 8000000
/-! ### promises of defs that show data (repr): they are kept where no guard is up -/
namespace Lag
open PySem PySem.Spec PyProof.Rows L2
/-- FnOk, where no guard is up -/
structure FnG (P : Program) (w : World) (K : PySem.W.Frag) (mg : Str → Option Value) (base : Heap) (CX : CXT) (k : Nat) (f : Addr) (fd : FuncData) (ps : List Str) (sp : Sp) : Prop where
  len : ∀ vs H Q E, sp vs H Q E → vs.length = ps.length
  run : ∀ (A : Around) (outer : List Env) (s : Shared) (H : Hp) (args : Args) (us : List Value) (vs : List V) (Q : VK) (E : XK), A.guards = some [] → Room k A → Env0 P w K mg base A outer s H → BindsTo s fd args (ps.zip us) → Vals vs us → sp vs H Q E →
    codeAny (model P w) A (.call (.ref f) args) (CR CX outer P w H s Q E) s
theorem fn_g {P : Program} {w : World} {K : PySem.W.Frag} {mg : Str → Option Value} {base : Heap} {CX : CXT} {k : Nat} {f : Addr} {fd : FuncData} {ps : List Str} {sp : Sp} (F : FnOk P w K mg base CX k f fd ps sp) : FnG P w K mg base CX k f fd ps sp :=
  ⟨F.len, fun A outer s H args us vs Q E _ => F.run A outer s H args us vs Q E⟩
/-- a def by its body, entered where no guard is up -/
theorem fnG_of {CX : CXT} {P : Program} {w : World} {K : PySem.W.Frag} {mg : Str → Option Value} {base : Heap} {k : Nat} {f : Addr} {name qual : Str} {params : Arguments} {body : List Stmt} {scope : Scope} {dV kV doc pm cdv ct oc : Value} {an od : Option Addr}
    {osl : Array (Option Value)} {N ps : List Str} {sp : Sp} (lk : K.lookup f = some ⟨oc, od, .func (PySem.W.fnOf name qual params body scope dV kV doc pm an cdv ct), osl⟩) (hcd : PySem.W.codeIn K cdv qual = true) (S : FnScope N ps scope)
    (len : ∀ vs H Q E, sp vs H Q E → vs.length = ps.length)
    (hbody : ∀ (A : Around) (outer : List Env) (s : Shared) (H : Hp) (vs : List V) (Q : VK) (E : XK), A.guards = some [] → Room k (A.deeper (envOfC qual scope s.heap.objs.size f cdv)) → sp vs H Q E →
      ∃ t, PSs (cxOf CX P w K mg base N qual scope f cdv A outer s H E) body t ∧ t { nx := fun _ H' => Q .non H', rt := Q } (start N vs) H) :
    FnG P w K mg base CX (k + 1) f (PySem.W.fnOf name qual params body scope dV kV doc pm an cdv ct) ps sp := by
  constructor
  case len => exact len
  case run =>
    intro A outer s H args us vs Q E hg hr e0 hb r hsp
    obtain ⟨t, ht, hq⟩ := hbody A outer s H vs Q E hg (hr.deeper _) hsp
    have lst : ∀ b o, base.get? b = some o → s.heap.get? b = some o := fun b o e => (e0.bs b o e).1
    have KX : K.In s.heap := e0.mod.kin.keeps lst
    refine codeAny_call_function hr.depth (KX _ _ lk) rfl S.co S.gen rfl (PySem.W.codeRec_of KX hcd) (hb _ _ _ _ (wpAny_newFunctionEnv_cells S.kind (fun y hy => ?_) fun env he s1 x => ?_))
    · have hn : y.1 ∈ ps := (List.of_mem_zip (show (y.1, y.2) ∈ ps.zip us from hy)).1
      exact (S.par y.1 hn).imp id fun z => ⟨z, PySem.W.cellsFrom_some _ _ _ (.inl z)⟩
    · cases he
      refine ⟨(e0.mod.nolimit.keeps lst).keeps x.toInCall.keep, codeAny_func (wpAny_mono (ht.run [] s1 (start N vs) H _ (inv_start S hr.hd e0 (len _ _ _ _ hsp) r x) hq) (fun fl s' hs => ?_) fun e s' hs => hs)⟩
      match fl, hs with
      | .ret u, ⟨v, σ', H', J, rv, q⟩ => exact ⟨v, H', J.os, J.bare, J.base, J.hok, rv, q⟩
      | .next, ⟨σ', H', J, q⟩ => exact ⟨V.non, H', J.os, J.bare, J.base, J.hok, rfl, q⟩
      | .brk, ⟨_, _, _, q⟩ => exact False.elim q
      | .cont, ⟨_, _, _, q⟩ => exact False.elim q
/-- a def by its body, of such a promise -/
theorem fun_okG {P : Program} {w : World} {K : PySem.W.Frag} {mg : Str → Option Value} {base : Heap} {x qual : Str} {st : Stmt} {f : Addr} {fd : FuncData} {N ps : List Str} {k : Nat} {sp : Sp} (F : Fun K x qual st f fd) (S : FnScope N ps (defScope st)) (len : ∀ vs H Q E, sp vs H Q E → vs.length = ps.length)
    (hbody : ∀ (cdv : Value) (A : Around) (outer : List Env) (s : Shared) (H : Hp) (vs : List V) (Q : VK) (E : XK), (A.deeper (envOfC qual (defScope st) s.heap.objs.size f cdv)).guards = some [] → Room k (A.deeper (envOfC qual (defScope st) s.heap.objs.size f cdv)) → sp vs H Q E →
      ∃ t, PSs (cxOf CX0 P w K mg base N qual (defScope st) f cdv A outer s H E).nox (defBody st) t ∧ t { nx := fun _ H' => Q .non H', rt := Q } (start N vs) H) : FnG P w K mg base CX0 (k + 1) f fd ps sp := by
  obtain ⟨oc, od, kV, doc, pm, an, cdv, ct, osl, rfl, lk, hcd⟩ := F.ex
  refine fnG_of lk hcd S len fun A outer s H vs Q E hg hr hsp => ?_
  obtain ⟨t, h, q⟩ := hbody cdv A outer s H vs Q E hg hr hsp
  exact ⟨t, h.nox, q⟩
/-- a def at its name, of such a promise -/
structure DfG (P : Program) (w : World) (K : PySem.W.Frag) (mg : Str → Option Value) (base : Heap) (k : Nat) (name : Str) (ps : List Str) (sp : Sp) (f : Addr) (fd : FuncData) : Prop where
  ok : FnG P w K mg base CX0 k f fd ps sp
  mg : mg name = some (.ref f)
  kp : PySem.W.keepIn K (.ref f) = true
  bd : Binds K fd ps []
section
variable {X : Cx} {CX : CXT} {k : Nat} {f : Addr} {fd : FuncData} {ps : List Str} {sp : Sp} {dvs : List V} {ds : List Value} {E : XK} {x : Str} {p pos : Pos} {e : Expr} {es : List Expr} {t : TA}
/-- f(..) of such a def, in a body that was entered where no guard is up -/
theorem pe_callG (F : FnG X.prog X.w X.K X.mg X.base CX k f fd ps sp) (gd : X.A.guards = some []) (hr : Room k X.A) (hg : Gl X x) (hm : X.mg x = some (.ref f)) (hk : PySem.W.keepIn X.K (.ref f) = true) (hb : Binds X.K fd ps ds) (hd : Vals dvs ds) (hx : Passes CX X E)
    (ha : PA X (e :: es) t) (hdb : (x == ("__debug__" : Str)) = false := by decide) (he : starEach (e :: es) X.env = (false, eval e X.env) :: starEach es X.env := by rfl) (hpl : (backTo pos (starEach es X.env)).any (·.1) = false := by rfl) :
    PE X (.Call (.Name x p) (e :: es) [] pos) (tCall sp dvs E t) := by
  constructor
  intro pins s σ H Q I h
  refine wpAny_Call_Name_kw (ld_glob I hg hm (PySem.W.callWith_K (h₀ := X.base) I.ok.mod.kin hk (thn (ha.run pos pins s σ H _ I h) fun us s1 ⟨vs, H1, I1, r, q⟩ => ⟨I1.kIn, ?_⟩) he hpl) hdb)
  have r2 : Vals (vs ++ dvs) (us ++ ds) := r.append hd
  have hl : (us ++ ds).length = ps.length := by rw [← r2.length]; exact F.len _ _ _ _ q
  refine wpAny_call (codeAny_mono (F.run X.A X.stack s1 H1 ⟨us, []⟩ (us ++ ds) (vs ++ dvs) Q E gd hr I1.env0 (hb s1 us I1.kIn hl) r2 q) fun rr s' hq => ?_)
  match rr, hq with
  | .error e, hq => exact hx pins σ H1 s1 e s' I1 hq
  | .ok (.ret u), hq => exact I1.after hq
end
section
variable {X : Cx}
mutual
theorem dp_noDict {K : PySem.W.Frag} {H : Hp} : ∀ (d : PyData) {v : V}, Dp K H v d → d.hasDict = false
  | .none, _, _ => rfl
  | .bool _, _, _ => rfl
  | .int _, _, _ => rfl
  | .str _, _, _ => rfl
  | .list ds, _, h => by
    cases h with
    | lst _ a => exact dp_noDicts ds a
  | .tuple ds, _, h => by
    cases h with
    | tup _ a => exact dp_noDicts ds a
  | .dict _, _, h => by cases h
theorem dp_noDicts {K : PySem.W.Frag} {H : Hp} : ∀ (ds : List PyData) {vs : List V}, DpAll K H vs ds → PyData.hasDictAll ds = false
  | [], _, _ => rfl
  | d :: ds, _, h => by
    cases h with
    | cons h1 h2 =>
      show (d.hasDict || PyData.hasDictAll ds) = false
      rw [dp_noDict d h1, dp_noDicts ds h2]
      rfl
end
/-- repr of a list or a tuple of data -/
def rRepr (K : PySem.W.Frag) : List V → Hp → VK → Prop := fun xs H Q => ∃ (a : Addr) (d : PyData), xs = [.ref a] ∧ Dp K H (.ref a) d ∧ d.showable = true ∧ d.depth < 64 ∧ d.shown.length ≤ sizeLine ∧ Q (.str d.shown) H
theorem call_repr (gd : X.A.guards = some []) (hu : X.A.units + 65 < cLine) : CallR X (.builtin "repr") (rRepr X.K) := by
  intro pins s σ H xs us Q I r h
  obtain ⟨a, d, rfl, dp, sh, dd, hz, q⟩ := h
  obtain ⟨u, rfl, rx⟩ := vals1 r
  obtain ⟨as, rd⟩ := Dp.reads I d _ _ dp rx
  cases rx
  refine repr_of_reads' rd sh (fun hd => ?_) gd (by omega) (fun _ _ e => e) (fun h' u tk hk => ?_) hz
  · rw [dp_noDict d dp] at hd
    cases hd
  · exact I.after ⟨.str d.shown, H, rfl, I.bare, Un.kept hk, I.hok.kept hk, ⟨_, rfl⟩, q⟩
end
end Lag

set_option maxRecDepth 100000
set_option maxHeartbeats 8000000
/-! ### the end of a law whose promise is kept where no guard is up -/
namespace Lag
open PySem PySem.Spec PyProof.Rows L2
/-- the script as the law finds it: one of the module's own objects, or tracked as it stands -/
theorem script_at {P : Program} {w : World} {K : PySem.W.Frag} {a : Addr} {s : Shared} {vs : List Value} {ns : List Int} (KX : K.In s.heap) (ha : s.heap.get? a = some { cls := .type "list", data := .seq vs.toArray }) (hi : IntsAre vs ns) (hl : ns.length ≤ sizeLine) :
    ∃ H : Hp, Only H ∧ SqL K H a (ns.map V.int) ∧ HOk P w H s.heap ∧ ∀ b u, H b = some u → b = a ∧ K.lookup b = none := by
  have rv := vals_ints hi
  have lenV := hi.length
  by_cases hk : ∃ o, K.lookup a = some o
  · obtain ⟨o, hk⟩ := hk
    have e := KX a o hk
    rw [ha] at e
    cases e
    exact ⟨fun _ => none, fun _ => .inl rfl, .inr ⟨_, vs.toArray, _, hk, rfl, rfl, rfl, (by rw [List.size_toArray, lenV]; exact hl), (by simpa using rv)⟩, (fun b u z => by cases z), (fun b u z => by cases z)⟩
  · have hn : K.lookup a = none := Option.eq_none_iff_forall_ne_some.mpr fun o e => hk ⟨o, e⟩
    refine ⟨upd (fun _ => none) a (.frz { cls := .type "list", data := .seq vs.toArray } (.lst (ns.map V.int))), fun b => ?_, .inl (.inr ⟨_, upd_same⟩), fun b u z => ?_, fun b u z => ?_⟩
    · by_cases hb : b = a
      · rw [hb]
        exact .inr ⟨_, _, upd_same⟩
      · exact .inl (upd_ne hb)
    · by_cases hb : b = a
      · subst hb
        rw [upd_same] at z
        cases z
        exact ⟨ha, by rw [List.length_map]; exact hl, vs, _, rv, ha⟩
      · rw [upd_ne hb] at z
        cases z
    · by_cases hb : b = a
      · exact ⟨hb, by rw [hb]; exact hn⟩
      · rw [upd_ne hb] at z
        cases z
theorem lawG_call {P : Program} {w : World} {K : PySem.W.Frag} {mg mb : Str → Option Value} {CX : CXT} {k : Nat} {fa a : Addr} {fd : FuncData} {x : Str} {sp : Sp} {s : Shared} {vs : List Value} {ns : List Int}
    (KX : K.In s.heap) (hns : s.heap.Ns mainGlobals mg) (hb : s.heap.Ns builtinsNs mb) (hbb : ∀ x : Str, x ≠ "__name__" → mb x = bootBuiltins x) (hlim : s.heap.NoLimit) (hg : s.gens = #[])
    (ha : s.heap.get? a = some { cls := .type "list", data := .seq vs.toArray }) (hi : IntsAre vs ns) (hl : ns.length ≤ sizeLine) (hr : Room k callerA)
    (F : ∀ base : Heap, K.In base → base.Ns mainGlobals mg → FnG P w K mg base CX k fa fd [x] sp) (hbind : ∀ (s : Shared) (u : Value), BindsTo s fd ⟨[u], []⟩ [(x, u)])
    (hsp : ∀ H : Hp, Only H → SqL K H a (ns.map V.int) → sp [.ref a] H (fun v _ => v = .bl true) fun _ _ _ => False)
    (hCX : ∀ H e s', CX [] H s (fun _ _ _ => False) e s' → False) :
    codeAny (model P w) callerA (.call (.ref fa) ⟨[.ref a], []⟩) (fun r s' => r = .ok (.ret (.bool true)) ∧ OldK s.heap s'.heap ∧ s'.os = s.os ∧ AllBare s'.gens) s := by
  obtain ⟨H, only, sq, hok, own⟩ := script_at (P := P) (w := w) KX ha hi hl
  have free : ∀ {b : Addr} {o : Obj}, s.heap.get? b = some o → (b = a → (K.lookup b).isSome = true ∨ ∃ es ep, o.data = .dict es ep) → H b = none := fun {b o} e h => by
    cases q : H b with
    | none => rfl
    | some u =>
      obtain ⟨e1, e2⟩ := own b u q
      rcases h e1 with z | ⟨es, ep, z⟩
      · rw [e2] at z
        cases z
      · rw [e1, ha] at e
        have z2 : o.data = Data.seq vs.toArray 0 := (congrArg Obj.data (Option.some.inj e)).symm
        rw [z2] at z
        cases z
  have inB : ∀ {b : Addr} {o : Obj}, s.heap.get? b = some o → H b = none → (hidT s.heap H).get? b = some o := fun e n => hidT_get e n
  have nsB : ∀ {b : Addr} {m : Str → Option Value}, s.heap.Ns b m → (hidT s.heap H).Ns b m := fun ⟨o, es, ep, e, d, r⟩ => ⟨o, es, ep, inB e (free e fun _ => .inr ⟨es, ep, d⟩), d, r⟩
  have KB : K.In (hidT s.heap H) := fun b o e => inB (KX b o e) (free (KX b o e) fun _ => .inl (by rw [e]; rfl))
  obtain ⟨mc, l1, l2⟩ := hlim
  have e0 : Env0 P w K mg (hidT s.heap H) callerA [] s H :=
    { frames := rfl, mod := ⟨KB, nsB hns, ⟨mb, nsB hb, hbb⟩, ⟨mc, nsB l1, l2⟩⟩, bs := fun b o e => of_hidT e, bsz := Nat.le_of_eq (hidT_size _ _), funs := trivial, frf := (fun b z => by cases z), hok := hok, bare := .of_eq hg }
  refine codeAny_mono ((F _ KB (nsB hns)).run callerA [] s H ⟨[.ref a], []⟩ [.ref a] [.ref a] _ _ rfl hr e0 (hbind s (.ref a)) (.cons rfl .nil) (hsp H only sq)) fun r s' h => ?_
  match r, h with
  | .error e, h => exact (hCX H e s' h).elim
  | .ok (.ret u), ⟨v, H', os, bare, un, hok', rv, q⟩ =>
    have q' : v = .bl true := q
    subst q'
    cases rv
    refine ⟨rfl, OldK.of_keep fun b o e => ?_, os, bare⟩
    rcases only b with z | ⟨ob, xs, z⟩
    · exact un.keep b o e z (by intro z; cases z) (by simp)
    · obtain ⟨e1, _⟩ := hok b _ z
      obtain ⟨e2, _⟩ := hok' b _ (un.frzs b ob _ z)
      rw [e] at e1
      cases e1
      exact e2
theorem walkG_of {l : PySem.W.OpenLaw} {n k : Nat} {q : Program} {loose : List Str} {XP : (Str → Option Value) → Heap → Prop} {YP : World → Heap → Prop} {d : DefRec} {K : Params → PySem.W.Frag} {CX : World → CXT} {sp : World → Sp} {x : Str}
    (hn : l.most = some n) (hn2 : n ≤ sizeLine) (hdf : d.params.defaults = []) (hr : Room k callerA)
    (hY : ∀ (w : World) (h : Heap), YP w h → (K w.params).In h)
    (F : ∀ (w : World) (mg : Str → Option Value) (fa : Addr) (h : Heap), (K w.params).In h → h.Ns mainGlobals mg → mg d.name = some (.ref fa) →
      ∃ fd : FuncData, (∀ (s : Shared) (u : Value), BindsTo s fd ⟨[u], []⟩ [(x, u)]) ∧
        ∀ base : Heap, (K w.params).In base → base.Ns mainGlobals mg → FnG l.prog w (K w.params) mg base (CX w) k fa fd [x] (sp w))
    (hsp : ∀ (w : World) (H : Hp) (a : Addr) (ns : List Int), ns.length ≤ n → Only H → SqL (K w.params) H a (ns.map V.int) → sp w [.ref a] H (fun v _ => v = .bl true) fun _ _ _ => False)
    (hCX : ∀ (w : World) (H : Hp) (s : Shared) (e : Value) (s' : Shared), CX w [] H s (fun _ _ _ => False) e s' → False) :
    PySem.W.WalkO q loose XP YP l.row.toRowW d [] (fun f vs => PySem.call f vs) :=
  Att.attach_call hn hdf fun w s₀ s₁ mg mb fa o pm cd doc a vs ns G Y ho hd hcd hmg hobj hints hlen hg => by
    obtain ⟨fd, hb, hF⟩ := F w mg fa _ (hY w _ Y) G.T.g hmg
    exact lawG_call (hY w _ Y) G.T.g G.T.b G.T.builtins G.T.nolimit hg hobj hints (Nat.le_trans hlen hn2) hr hF hb (fun H hO hS => hsp w H a ns hlen hO hS) fun H e s' => hCX w H s₁ e s'
end Lag

set_option maxRecDepth 100000
set_option maxHeartbeats 8000000
/-! ### repr of data in which an empty dict may stand -/
namespace Lag
open PySem PySem.Spec PyProof.Rows L2
mutual
inductive Dx (K : PySem.W.Frag) (Av : Addr → Prop) (H : Hp) : V → PyData → Prop
  | non : Dx K Av H .non .none
  | bl (b : Bool) : Dx K Av H (.bl b) (.bool b)
  | int (i : Int) : Dx K Av H (.int i) (.int i)
  | str (x : Str) : Dx K Av H (.str x) (.str x)
  | lst {a : Addr} {xs : List V} {ds : List PyData} : H a = some (.lst xs) → Av a → DxAll K Av H xs ds → Dx K Av H (.ref a) (.list ds)
  | tup {a : Addr} {xs : List V} {ds : List PyData} : SqT K H a xs → DxAll K Av H xs ds → Dx K Av H (.ref a) (.tuple ds)
  | dic {a : Addr} : H a = some (.dK []) → Dx K Av H (.ref a) (.dict [])
inductive DxAll (K : PySem.W.Frag) (Av : Addr → Prop) (H : Hp) : List V → List PyData → Prop
  | nil : DxAll K Av H [] []
  | cons {v : V} {vs : List V} {d : PyData} {ds : List PyData} : Dx K Av H v d → DxAll K Av H vs ds → DxAll K Av H (v :: vs) (d :: ds)
end
abbrev Any : Addr → Prop := fun _ => True
/-- from heap to heap, and to fewer demands on the lists -/
structure XM (K : PySem.W.Frag) (Av Av' : Addr → Prop) (H H' : Hp) : Prop where
  l : ∀ a xs, Av a → H a = some (.lst xs) → H' a = some (.lst xs) ∧ Av' a
  t : ∀ a xs, SqT K H a xs → SqT K H' a xs
  d : ∀ a, H a = some (.dK []) → H' a = some (.dK [])
mutual
theorem Dx.move {K : PySem.W.Frag} {Av Av' : Addr → Prop} {H H' : Hp} (m : XM K Av Av' H H') : ∀ (d : PyData) {v : V}, Dx K Av H v d → Dx K Av' H' v d
  | .none, _, h => by cases h; exact .non
  | .bool _, _, h => by cases h; exact .bl _
  | .int _, _, h => by cases h; exact .int _
  | .str _, _, h => by cases h; exact .str _
  | .list ds, _, h => by
    cases h with
    | lst s n a => exact .lst (m.l _ _ n s).1 (m.l _ _ n s).2 (DxAll.move m ds a)
  | .tuple ds, _, h => by
    cases h with
    | tup s a => exact .tup (m.t _ _ s) (DxAll.move m ds a)
  | .dict _, _, h => by
    cases h with
    | dic e => exact .dic (m.d _ e)
theorem DxAll.move {K : PySem.W.Frag} {Av Av' : Addr → Prop} {H H' : Hp} (m : XM K Av Av' H H') : ∀ (ds : List PyData) {vs : List V}, DxAll K Av H vs ds → DxAll K Av' H' vs ds
  | [], _, h => by cases h; exact .nil
  | d :: ds, _, h => by
    cases h with
    | cons a b => exact .cons (Dx.move m d a) (DxAll.move m ds b)
end
theorem XM.same {K : PySem.W.Frag} {Av : Addr → Prop} {H H' : Hp} (s : Same H H') : XM K Av Av H H' := ⟨fun a xs n h => ⟨s _ _ h, n⟩, fun a xs h => (TK.same s).seq h, fun a h => s _ _ h⟩
theorem XM.any {K : PySem.W.Frag} {Av : Addr → Prop} {H : Hp} : XM K Av Any H H := ⟨fun a xs n h => ⟨h, trivial⟩, fun a xs h => h, fun a h => h⟩
theorem Dx.same {K : PySem.W.Frag} {Av : Addr → Prop} {H H' : Hp} {d : PyData} {v : V} (h : Dx K Av H v d) (s : Same H H') : Dx K Av H' v d := Dx.move (.same s) d h
theorem Dx.any {K : PySem.W.Frag} {Av : Addr → Prop} {H : Hp} {d : PyData} {v : V} (h : Dx K Av H v d) : Dx K Any H v d := Dx.move .any d h
theorem XM.dr {K : PySem.W.Frag} {w : Addr} {H H' : Hp} (W : WellAt w H) (r : Dr w H H') : XM K (· ≠ w) (· ≠ w) H H' := ⟨fun a xs n h => ⟨r.but _ _ n h, n⟩, fun a xs h => (TK.dr W r.but).seq h, fun a h => r.but _ _ (fun z => by
  obtain ⟨_, _, _, e⟩ := W
  rw [z, e] at h
  cases h) h⟩
theorem Dx.dr {K : PySem.W.Frag} {w : Addr} {H H' : Hp} {d : PyData} {v : V} (h : Dx K (· ≠ w) H v d) (W : WellAt w H) (r : Dr w H H') : Dx K (· ≠ w) H' v d := Dx.move (.dr W r) d h
theorem DxAll.all2 {K : PySem.W.Frag} {Av : Addr → Prop} {H : Hp} : ∀ {vs : List V} {ds : List PyData}, DxAll K Av H vs ds → All2 (Dx K Av H) vs ds
  | _, _, .nil => All2.nil
  | v :: vs, d :: ds, .cons h r => by
    have a := DxAll.all2 r
    refine ⟨by rw [List.length_cons, List.length_cons, a.1], fun i x y hx hy => ?_⟩
    cases i with
    | zero =>
      cases hx
      cases hy
      exact h
    | succ i => exact a.2 i x y hx hy
theorem DxAll.from2 {K : PySem.W.Frag} {Av : Addr → Prop} {H : Hp} : ∀ {vs : List V} {ds : List PyData}, All2 (Dx K Av H) vs ds → DxAll K Av H vs ds
  | [], [], _ => .nil
  | [], _ :: _, a => by have := a.1; simp at this
  | _ :: _, [], a => by have := a.1; simp at this
  | _ :: _, _ :: _, a => .cons (a.head) (DxAll.from2 a.tail)
section
variable {X : Cx} {pins : List (Addr × Obj)} {σ : L2.St} {H : Hp} {s : Shared}
theorem dx_empty (I : Inv X pins σ H s) {a : Addr} (e : H a = some (.dK [])) : (a == sysModules) = false ∧ ∃ o n, s.heap.get? a = some o ∧ o.cls = .type "dict" ∧ o.data = .dict #[] n := by
  obtain ⟨_, hs, vs, kv, o, es, ep, h1, h2, h3, _, h5, _⟩ := dk_of I.hok e
  cases kv
  refine ⟨hs, o, ep, h1, h2.1, ?_⟩
  have : es = #[] := by
    obtain ⟨l⟩ := es
    cases l with
    | nil => rfl
    | cons x r => cases h5
  rw [h3, this]
mutual
theorem Dx.show {Av : Addr → Prop} (I : Inv X pins σ H s) : ∀ (d : PyData) (v : V) (u : Value), Dx X.K Av H v d → RelV v u → d.showable = true → d.shown.length ≤ sizeLine → ∃ as bs, Reads s.heap u d as ∧ ReadAtMost s.heap d.depth bs ∧ ReprK X.prog X.w bs s.heap d.depth u d.shown
  | .none, _, _, h, r, _, _ => by
    cases h
    cases r
    exact ⟨_, [], Reads.none, (fun _ h => nomatch h), by simp only [PyData.shown]; exact .of_is ReprIs.none _ _ _⟩
  | .bool b, _, _, h, r, _, _ => by
    cases h
    cases r
    exact ⟨_, [], Reads.bool b, (fun _ h => nomatch h), by simp only [PyData.shown]; exact .of_is (ReprIs.bool b) _ _ _⟩
  | .int i, _, _, h, r, hs, _ => by
    cases h
    obtain ⟨t, rfl⟩ := r
    exact ⟨_, [], Reads.int i t, (fun _ h => nomatch h), by simp only [PyData.shown]; exact .of_is (ReprIs.int t (by simpa [PyData.showable] using hs)) _ _ _⟩
  | .str x, _, _, h, r, _, hz => by
    cases h
    obtain ⟨t, rfl⟩ := r
    exact ⟨_, [], Reads.str x t, (fun _ h => nomatch h), by simp only [PyData.shown]; exact .of_is (ReprIs.str x t (by simpa only [PyData.shown] using hz)) _ _ _⟩
  | .list ds, _, _, h, r, hs, hz => by
    cases h with
    | lst hq hav ha =>
      cases r
      obtain ⟨its, rv, ⟨o, n, ho, hc, _, hd⟩, _⟩ := I.list (SqL.of hq)
      have hz' : (listText (PyData.shownAll ds)).length ≤ sizeLine := by simpa only [PyData.shown] using hz
      obtain ⟨as, bs, r1, hb, hk⟩ := DxAll.show I ds _ its ha rv (by simpa [PyData.showable] using hs) (fun t ht => Nat.le_trans (listText_mem_le ht) hz')
      have r := Reads.list ho hc hd r1
      have hna := not_mem_of_deeper r (by simp only [PyData.depth]; omega) hb
      refine ⟨_, _ :: bs, r, ReadAtMost.cons r (by simp only [PyData.depth]; omega) hb, ?_⟩
      simp only [PyData.depth, PyData.shown]
      cases its with
      | nil =>
        cases r1
        simp only [PyData.shownAll, listText_nil]
        exact ReprK.listEmpty ho hc hd
      | cons x l => exact ReprK.list ho hc hd hna (by simpa using hk.length_eq) (fun i y e => hk.item i y (by simpa using e))
  | .tuple ds, _, _, h, r, hs, hz => by
    cases h with
    | tup hq ha =>
      cases r
      obtain ⟨its, rv, ⟨o, ho, hc, n, hd⟩, _⟩ := I.tuple hq
      have hz' : (tupleText (PyData.shownAll ds)).length ≤ sizeLine := by simpa only [PyData.shown] using hz
      obtain ⟨as, bs, r1, hb, hk⟩ := DxAll.show I ds _ its ha rv (by simpa [PyData.showable] using hs) (fun t ht => Nat.le_trans (tupleText_mem_le ht) hz')
      have r := Reads.tuple ho hc hd r1
      have hna := not_mem_of_deeper r (by simp only [PyData.depth]; omega) hb
      refine ⟨_, _ :: bs, r, ReadAtMost.cons r (by simp only [PyData.depth]; omega) hb, ?_⟩
      simp only [PyData.depth, PyData.shown]
      exact ReprK.tuple ho hc hd hna hk
  | .dict kvs, _, _, h, r, hs, hz => by
    cases h with
    | dic e =>
      cases r
      obtain ⟨hsys, o, n, h1, h2, h3⟩ := dx_empty I e
      have r := Reads.dict (kvs := []) (as := []) (bs := []) h1 h2 h3 (by exact ReadsAll.nil) (by exact ReadsAll.nil)
      refine ⟨_, [_], r, ReadAtMost.cons (n := 0) r (Nat.zero_le _) (fun _ h => nomatch h), ?_⟩
      simp only [PyData.depth, PyData.shown, PyData.shownKv_eq]
      exact ReprK.dict h1 h2 h3 hsys (by simp) (ReprEntriesK.of_two [] _ _ .nil .nil)
theorem DxAll.show {Av : Addr → Prop} (I : Inv X pins σ H s) : ∀ (ds : List PyData) (vs : List V) (us : List Value), DxAll X.K Av H vs ds → Vals vs us → PyData.showableAll ds = true → (∀ t ∈ PyData.shownAll ds, t.length ≤ sizeLine) → ∃ as bs, ReadsAll s.heap us ds as ∧ ReadAtMost s.heap (PyData.depthAll ds) bs ∧ ReprAllK X.prog X.w bs s.heap (PyData.depthAll ds) us (PyData.shownAll ds)
  | [], _, _, h, r, _, _ => by
    cases h
    cases r
    exact ⟨_, [], ReadsAll.nil, (fun _ h => nomatch h), by simp only [PyData.shownAll]; exact .nil⟩
  | d :: ds, _, _, h, r, hs, hz => by
    cases h with
    | cons h1 h2 =>
      cases r with
      | cons r1 r2 =>
        have hs' : d.showable = true ∧ PyData.showableAll ds = true := by simpa [PyData.showableAll] using hs
        obtain ⟨a1, b1, q1, hb1, k1⟩ := Dx.show I d _ _ h1 r1 hs'.1 (hz _ (by simp only [PyData.shownAll]; exact List.mem_cons_self ..))
        obtain ⟨a2, b2, q2, hb2, k2⟩ := DxAll.show I ds _ _ h2 r2 hs'.2 (fun t ht => hz t (by simp only [PyData.shownAll]; exact List.mem_cons_of_mem _ ht))
        refine ⟨_, b1 ++ b2, ReadsAll.cons q1 q2, ?_, ?_⟩
        · intro b hm
          simp only [PyData.depthAll]
          rcases List.mem_append.mp hm with hm | hm
          · obtain ⟨d', as', r', hd'⟩ := hb1 b hm
            exact ⟨d', as', r', Nat.le_trans hd' (Nat.le_max_left _ _)⟩
          · obtain ⟨d', as', r', hd'⟩ := hb2 b hm
            exact ⟨d', as', r', Nat.le_trans hd' (Nat.le_max_right _ _)⟩
        · simp only [PyData.depthAll, PyData.shownAll]
          exact .cons ((k1.more fun b hb => List.mem_append_left _ hb).level_le (Nat.le_max_left _ _)) (k2.more_le (fun b hb => List.mem_append_right _ hb) (Nat.le_max_right _ _))
end
end
section
variable {X : Cx}
/-- repr of such data -/
def rReprX (K : PySem.W.Frag) : List V → Hp → VK → Prop := fun xs H Q => ∃ (v : V) (d : PyData), xs = [v] ∧ Dx K Any H v d ∧ d.showable = true ∧ d.depth < 64 ∧ d.shown.length ≤ sizeLine ∧ Q (.str d.shown) H
theorem call_reprX (gd : X.A.guards = some []) (hu : X.A.units + 65 < cLine) : CallR X (.builtin "repr") (rReprX X.K) := by
  intro pins s σ H xs us Q I r h
  obtain ⟨v, d, rfl, dx, sh, dd, hz, q⟩ := h
  obtain ⟨u, rfl, rx⟩ := vals1 r
  have fin : ∀ (h' : Heap) (u : Tok) (tk : Nat), (∀ b o, s.heap.get? b = some o → h'.get? b = some o) → ∃ (v : V) (H' : Hp), Inv X pins σ H' { s with heap := h', toks := tk } ∧ RelV v (.str d.shown u) ∧ Q v H' := fun h' u tk hk => I.after ⟨.str d.shown, H, rfl, I.bare, Un.kept hk, I.hok.kept hk, ⟨_, rfl⟩, q⟩
  cases dx with
  | non =>
    cases rx
    exact PySem.P.repr_of_none (fin s.heap _ _ fun _ _ e => e)
  | bl b =>
    cases rx
    refine PySem.P.repr_of_bool ?_
    have e : (if b then ("True" : Str) else "False") = PyData.shown (.bool b) := by cases b <;> rfl
    exact fin s.heap _ _ fun _ _ e => e
  | int i =>
    obtain ⟨t, rfl⟩ := rx
    exact PySem.P.repr_of_int (by simpa [PyData.showable] using sh) (fin s.heap _ _ fun _ _ e => e)
  | str x =>
    obtain ⟨t, rfl⟩ := rx
    exact PySem.P.repr_of_str (fin s.heap _ _ fun _ _ e => e) (by simpa only [PyData.shown] using hz)
  | lst hq hav ha =>
    rename_i a xs ds
    cases rx
    obtain ⟨its, rv, ⟨o, n, ho, hc, _, hd⟩, _⟩ := I.list (SqL.of hq)
    have hz' : (listText (PyData.shownAll ds)).length ≤ sizeLine := by simpa only [PyData.shown] using hz
    obtain ⟨as, bs, r1, hb, hk⟩ := DxAll.show I ds _ its ha rv (by simpa [PyData.showable] using sh) (fun t ht => Nat.le_trans (listText_mem_le ht) hz')
    have hna : a ∉ bs := not_mem_of_deeper (Reads.list ho hc hd r1) (by simp only [PyData.depth]; omega) hb
    refine call_repr_slot (by omega) ⟨o, ho, hc⟩ (F.slot_list_repr.toG) ?_
    simp only [PyData.depth] at dd
    simp only [PyData.shown] at fin
    cases its with
    | nil =>
      cases r1
      simp only [PyData.shownAll, listText_nil] at fin
      exact call_list_repr_empty ⟨o, ho, hc⟩ ho hd ⟨_, _, rfl, fin s.heap _ _ fun _ _ e => e⟩
    | cons x l =>
      exact call_list_reprK ho hc hd hna (by simpa using hk.length_eq) (fun i y e => hk.item i y (by simpa using e)) gd (fun b _ => Clear.nil b) (by show X.A.units + 1 + _ < cLine; omega) (fun _ _ e => e) (fun h' u tk hk => ⟨_, _, rfl, fin h' u tk hk⟩) hz'
  | tup hq ha =>
    rename_i a xs ds
    cases rx
    obtain ⟨its, rv, ⟨o, ho, hc, n, hd⟩, _⟩ := I.tuple hq
    have hz' : (tupleText (PyData.shownAll ds)).length ≤ sizeLine := by simpa only [PyData.shown] using hz
    obtain ⟨as, bs, r1, hb, hk⟩ := DxAll.show I ds _ its ha rv (by simpa [PyData.showable] using sh) (fun t ht => Nat.le_trans (tupleText_mem_le ht) hz')
    have hna : a ∉ bs := not_mem_of_deeper (Reads.tuple ho hc hd r1) (by simp only [PyData.depth]; omega) hb
    refine call_repr_slot (by omega) ⟨o, ho, hc⟩ F.slot_tuple_repr ?_
    simp only [PyData.depth] at dd
    simp only [PyData.shown] at fin
    exact call_tuple_reprK ho hc hd hna hk gd (fun b _ => Clear.nil b) (by show X.A.units + 1 + _ < cLine; omega) (fun _ _ e => e) (fun h' u tk hk => ⟨_, _, rfl, fin h' u tk hk⟩) hz'
  | dic e =>
    rename_i a
    cases rx
    obtain ⟨hsys, o, n, h1, h2, h3⟩ := dx_empty I e
    refine call_repr_slot (by omega) ⟨o, h1, h2⟩ F.slot_dict_repr ?_
    simp only [PyData.depth] at dd
    simp only [PyData.shown, PyData.shownKv_eq] at fin hz
    exact call_dict_reprK (as := []) (d := 0) h1 h2 h3 hsys (by simp) (ReprEntriesK.of_two [] _ _ .nil .nil) gd (fun b _ => Clear.nil b) (by show X.A.units + 1 + _ < cLine; omega) (fun _ _ e => e) (fun h' u tk hk => ⟨_, _, rfl, fin h' u tk hk⟩) hz
end
end Lag

set_option maxRecDepth 100000
set_option maxHeartbeats 8000000
/-! ### C(..) of a class of one's own whose __init__ may raise -/
namespace L2
open PySem PySem.Spec PyProof.Rows
section
variable {X : Cx} {CX : CXT} {k : Nat} {f C : Addr} {fd : FuncData} {ps : List Str} {sp : Sp} {E : XK} {Es : St → XK} {x : Str} {p pos : Pos} {e : Expr} {es : List Expr} {t : TA}
theorem run_makeS {pins : List (Addr × Obj)} {σ : St} {H : Hp} {s : Shared} {Q : VK} {us : List Value} {vs : List V} (M : Mk X.K C f) (F : FnOk X.prog X.w X.K X.mg X.base CX k f fd ps sp) (hr : Room (k + 1) X.A) (hb : Binds X.K fd ps [])
    (hx : PassesAt CX X σ E) (I : Inv X pins σ H s) (r : Vals vs us)
    (h : ∀ x dx, H x = none → H dx = none → dx ≠ x → sp (.ref x :: vs) (upd (upd H dx (.own x)) x (.ins C dx [])) (fun v H2 => v = .non ∧ Q (.ref x) H2) E) :
    wpAny (model X.prog X.w) X.A (call (.ref C) us) (EP X pins σ Q) X.xe s := by
  have hq := h (s.heap.objs.size + 1) s.heap.objs.size (I.hok.fresh (Nat.le_succ _)) (I.hok.fresh (Nat.le_refl _)) (Nat.ne_of_lt (Nat.lt_succ_self _))
  have I2 := Inv.made (C := C) I
  have r2 : Vals (V.ref (s.heap.objs.size + 1) :: vs) (Value.ref (s.heap.objs.size + 1) :: us) := .cons rfl r
  have hl : (Value.ref (s.heap.objs.size + 1) :: us ++ []).length = ps.length := by
    rw [List.append_nil]
    have e := r2.length
    rw [F.len _ _ _ _ hq] at e
    exact e.symm
  have b := hb _ (Value.ref (s.heap.objs.size + 1) :: us) I2.kIn hl
  rw [List.append_nil] at b
  refine wpAny_call (make_map (f := f) I.kIn M.makes M.init (beq_iff_eq.mp M.fn) (codeAny_mono (F.run _ X.stack _ _ ⟨Value.ref (s.heap.objs.size + 1) :: us, []⟩ (Value.ref (s.heap.objs.size + 1) :: us) _ _ E (hr.make C us [])
    (I2.env0.make C us []) b r2 hq) fun r s' hq' => ?_))
  cases r with
  | error e => exact hx pins _ _ e s' I2 hq'
  | ok fl =>
    cases fl with
    | ret u =>
      obtain ⟨v, H', I3, rv, ev, q3⟩ := I2.after hq'
      subst ev
      exact ⟨rv, ⟨V.ref (s.heap.objs.size + 1), H', I3, rfl, q3⟩⟩
    | next => exact False.elim hq'
    | brk => exact False.elim hq'
    | cont => exact False.elim hq'
def tMakeS (C : Addr) (sp : Sp) (E : St → XK) (t : TA) : TE := fun σ H Q => t σ H fun vs H1 => ∀ x dx, H1 x = none → H1 dx = none → dx ≠ x → sp (.ref x :: vs) (upd (upd H1 dx (.own x)) x (.ins C dx [])) (fun v H2 => v = .non ∧ Q (.ref x) H2) (E σ)
theorem pe_makeS (M : Mk X.K C f) (F : FnOk X.prog X.w X.K X.mg X.base CX k f fd ps sp) (hr : Room (k + 1) X.A) (hg : Gl X x) (hm : X.mg x = some (.ref C)) (hb : Binds X.K fd ps []) (hx : ∀ σ, PassesAt CX X σ (Es σ))
    (ha : PA X (e :: es) t) (hdb : (x == ("__debug__" : Str)) = false := by decide) (he : starEach (e :: es) X.env = (false, eval e X.env) :: starEach es X.env := by rfl) (hpl : (backTo pos (starEach es X.env)).any (·.1) = false := by rfl) :
    PE X (.Call (.Name x p) (e :: es) [] pos) (tMakeS C sp Es t) := by
  refine ⟨fun pins s σ H Q I h => ?_⟩
  refine wpAny_Call_Name_kw (ld_glob I hg hm ?_ hdb)
  refine PySem.W.callWith_K (h₀ := X.base) I.ok.mod.kin M.kp (thn (ha.run pos pins s σ H _ I h) fun us s1 ⟨vs, H1, I1, r, q⟩ => ⟨I1.kIn, ?_⟩) he hpl
  exact run_makeS M F hr hb (hx σ) I1 r q
end
end L2
namespace Lag
open PySem PySem.Spec PyProof.Rows L2
abbrev sNWinit : Stmt := inClass (topS 4 /- @NoWires -/) 0
/-! ### data of any kind where a number or a turn is asked -/
def dI : PyData → Bool
  | .int _ => true
  | .bool _ => true
  | _ => false
def dB : PyData → Bool
  | .bool _ => true
  | _ => false
def dT : PyData → Bool
  | .tuple _ => true
  | _ => false
def dL : PyData → Bool
  | .list _ => true
  | _ => false
def wholeD : PyData → Bool
  | .int _ => true
  | _ => false
def fromD : PyData → Int → Int → Bool
  | .int n, a, b => decide (a ≤ n) && decide (n ≤ b)
  | _, _, _ => false
theorem whole_is (d : PyData) : wholeD d = (dI d && !dB d) := by cases d <;> rfl
theorem Dx.ty {K : PySem.W.Frag} {Av : Addr → Prop} {H : Hp} {v : V} {d : PyData} (h : Dx K Av H v d) : ∃ t : String, TyX K H v (.type t) ∧ kitB t "int" = some (dI d) ∧ kitB t "bool" = some (dB d) ∧ kitB t "tuple" = some (dT d) ∧ kitB t "list" = some (dL d) := by
  cases h with
  | non => exact ⟨"NoneType", .base .non, (show kitB "NoneType" "int" = some false by decide +kernel), (show kitB "NoneType" "bool" = some false by decide +kernel), (show kitB "NoneType" "tuple" = some false by decide +kernel), (show kitB "NoneType" "list" = some false by decide +kernel)⟩
  | bl b => exact ⟨"bool", .base (.bl b), (show kitB "bool" "int" = some true by decide +kernel), (show kitB "bool" "bool" = some true by decide +kernel), (show kitB "bool" "tuple" = some false by decide +kernel), (show kitB "bool" "list" = some false by decide +kernel)⟩
  | int i => exact ⟨"int", .base (.int i), (show kitB "int" "int" = some true by decide +kernel), (show kitB "int" "bool" = some false by decide +kernel), (show kitB "int" "tuple" = some false by decide +kernel), (show kitB "int" "list" = some false by decide +kernel)⟩
  | str x => exact ⟨"str", .base (.str x), (show kitB "str" "int" = some false by decide +kernel), (show kitB "str" "bool" = some false by decide +kernel), (show kitB "str" "tuple" = some false by decide +kernel), (show kitB "str" "list" = some false by decide +kernel)⟩
  | lst s n a => exact ⟨"list", ty_lst (SqL.of s), (show kitB "list" "int" = some false by decide +kernel), (show kitB "list" "bool" = some false by decide +kernel), (show kitB "list" "tuple" = some false by decide +kernel), (show kitB "list" "list" = some true by decide +kernel)⟩
  | tup s a => exact ⟨"tuple", ty_tup s, (show kitB "tuple" "int" = some false by decide +kernel), (show kitB "tuple" "bool" = some false by decide +kernel), (show kitB "tuple" "tuple" = some true by decide +kernel), (show kitB "tuple" "list" = some false by decide +kernel)⟩
  | dic e => exact ⟨"dict", .base (.dK e), (show kitB "dict" "int" = some false by decide +kernel), (show kitB "dict" "bool" = some false by decide +kernel), (show kitB "dict" "tuple" = some false by decide +kernel), (show kitB "dict" "list" = some false by decide +kernel)⟩
def spWholeD (K : PySem.W.Frag) : Sp := fun vs H Q _ => ∃ (v : V) (d : PyData), vs = [v] ∧ Dx K Any H v d ∧ Q (.bl (wholeD d)) H
def spFromToD (K : PySem.W.Frag) : Sp := fun vs H Q _ => ∃ (v : V) (d : PyData) (a b : Int), vs = [v, .int a, .int b] ∧ Dx K Any H v d ∧ Q (.bl (fromD d a b)) H
def spWorthD (K : PySem.W.Frag) : Sp := fun vs H Q _ => ∃ (v : V) (d : PyData), vs = [v] ∧ Dx K Any H v d ∧ Q (.bl (fromD d 0 96)) H
theorem vint_eq (a b : Int) : decide (V.int a = V.int b) = decide (a = b) := decide_eq_decide.mpr ⟨fun h => by injection h, fun h => by rw [h]⟩
/-- an error of the class at S is what «except S» names -/
theorem exm_self {K : PySem.W.Frag} {S : Addr} (h1 : PySem.W.subIn K (.ref S) (.type "BaseException") = some true) (h2 : PySem.W.isClsIn K S = true) (h3 : PySem.W.typeIn K (.ref S) = some (.type "type")) (h4 : PySem.W.subIn K (.ref S) (.ref S) = some true) :
    PySem.W.exmOne K (.ref S) (.ref S) = some true := by
  have e1 : (PySem.W.subIn K (.ref S) (.type "BaseException") == some true) = true := by rw [h1] <;> rfl
  have e2 : ((PySem.W.clsIn K S).isSome && PySem.W.typeIn K (.ref S) == some (.type "type")) = true := by
    have h2' : (PySem.W.clsIn K S).isSome = true := h2
    rw [h2', h3] <;> rfl
  show (if (PySem.W.subIn K (.ref S) (.type "BaseException") == some true) = true then (if ((PySem.W.clsIn K S).isSome && PySem.W.typeIn K (.ref S) == some (.type "type")) = true then PySem.W.subIn K (.ref S) (.ref S) else none) else none) = some true
  rw [if_pos e1, if_pos e2]
  exact h4
/-- what the top tells of a class under LagError that has nothing of its own -/
structure PEx (K : PySem.W.Frag) (mg : Str → Option Value) (x : Str) (C : Addr) : Prop where
  g : mg x = some (.ref C)
  q : PySem.W.excIn K C [.type "ValueError", .type "Exception", .type "BaseException", .type "object"] "ValueError.__new__" = true
  k : PySem.W.keepIn K (.ref C) = true
  e : PySem.W.subIn K (.ref C) (.type "BaseException") = some true
  t : PySem.W.typeIn K (.ref C) = some (.type "type")
  te : PySem.W.exmOne K (.ref C) (.ref C) = some true
theorem fn_cx0 {P : Program} {w : World} {K : PySem.W.Frag} {mg : Str → Option Value} {base : Heap} {CX : CXT} {k : Nat} {f : Addr} {fd : FuncData} {ps : List Str} {sp : Sp} (F : FnOk P w K mg base CX0 k f fd ps sp) : FnOk P w K mg base CX k f fd ps sp :=
  ⟨F.len, fun A outer s H args us vs Q E hr he hb hv hs => codeAny_mono (F.run A outer s H args us vs Q E hr he hb hv hs) fun r s' h => by
    cases r with
    | error e => exact False.elim h
    | ok fl =>
      cases fl with
      | ret u => exact h
      | next => exact False.elim h
      | brk => exact False.elim h
      | cont => exact False.elim h⟩
theorem fn_or {P : Program} {w : World} {K : PySem.W.Frag} {mg : Str → Option Value} {base : Heap} {CX : CXT} {k : Nat} {f : Addr} {fd : FuncData} {ps : List Str} {sp sp' : Sp} (F : FnOk P w K mg base CX k f fd ps sp) (F' : FnOk P w K mg base CX k f fd ps sp') : FnOk P w K mg base CX k f fd ps (fun vs H Q E => sp vs H Q E ∨ sp' vs H Q E) :=
  ⟨fun vs H Q E h => h.elim (F.len vs H Q E) (F'.len vs H Q E), fun A outer s H args us vs Q E hr he hb hv hs => hs.elim (F.run A outer s H args us vs Q E hr he hb hv) (F'.run A outer s H args us vs Q E hr he hb hv)⟩
/-! ### an exception with its own __init__, which calls that of LagError -/
section
variable {X : Cx} {e : Expr} {es : List Expr} {ta : TA} {p1 p2 pos : Pos}
theorem pe_leinit {x : Str} {C0 : Addr} {pl : Sem Bool} (hg : Gl X x) (hm : X.mg x = some (.ref C0)) (gA : PySem.W.specialIn X.K (.ref C0) "__getattribute__" = some (some (.builtin "type.__getattribute__"))) (tC : PySem.W.typeIn X.K (.ref C0) = some (.type "type")) (rC : PySem.W.readsIn X.K C0 (.type "type") = true)
    (vV : PySem.W.findCls X.K (.ref C0) (.type "type") "__init__" = some (.val (.builtin "ValueError.__init__"))) (ha : PA X (e :: es) ta) (hdb : (x == ("__debug__" : Str)) = false := by decide)
    (hc : eval (.Call (.Attribute (.Name x p1) "__init__" p2) (e :: es) [] pos) X.env = (do
      let ov ← eval (.Name x p1) X.env
      standAt p2.atName
      let (f, first) ← holding [ov] (getMethod ov "__init__" pl)
      callWith pos f first (backTo pos (starEach (e :: es) X.env)) (backToKw pos (keywordEach [] X.env))) := by rfl)
    (he : starEach (e :: es) X.env = (false, eval e X.env) :: starEach es X.env := by rfl) (hpl : (backTo pos (starEach es X.env)).any (·.1) = false := by rfl) :
    PE X (.Call (.Attribute (.Name x p1) "__init__" p2) (e :: es) [] pos) (tVeI X.K ta) := by
  refine ⟨fun pins s σ H Q I h => ?_⟩
  refine PySem.W.methodCall_KW (ld_glob I hg hm ?_ hdb) hc
  obtain ⟨m, fr⟩ := I.fr
  refine PySem.W.method_of_cls fr I.ok.mod.kin gA (PySem.W.cls_val fr I.ok.mod.kin tC rC vV (by decide +kernel) ?_)
  show wpAny _ _ (callWith pos (Value.builtin "ValueError.__init__") [] (backTo pos (starEach (e :: es) X.env)) []) _ _ _
  refine PyProof.Rows.callWith_method1 (thn (ha.run pos pins _ σ H _ (I.tok _) h) fun us s1 ⟨vs, H1, I1, r1, a, C, ws, ev, hl, T, ea, q⟩ => ?_) he hpl
  subst ev
  cases r1 with
  | @cons _ u0 _ ur ra rw' =>
    obtain rfl : u0 = Value.ref a := ra
    have hlen : ur.length ≤ sizeLine := by
      rw [← Paired.length rw', sizeLine_eq]
      omega
    exact oinit_ok T I1 ea hlen fun s' J => ⟨.non, H1, J, rfl, q⟩
end
/-- what the top tells of LagError -/
structure LEx (K : PySem.W.Frag) (mg : Str → Option Value) (C0 : Addr) : Prop where
  g : mg "LagError" = some (.ref C0)
  gA : PySem.W.specialIn K (.ref C0) "__getattribute__" = some (some (.builtin "type.__getattribute__"))
  tC : PySem.W.typeIn K (.ref C0) = some (.type "type")
  rC : PySem.W.readsIn K C0 (.type "type") = true
  vV : PySem.W.findCls K (.ref C0) (.type "type") "__init__" = some (.val (.builtin "ValueError.__init__"))
/-- .. and of a class under it with a field of its own -/
structure TEx (K : PySem.W.Frag) (mg : Str → Option Value) (x f : Str) (C fI : Addr) : Prop where
  g : mg x = some (.ref C)
  T : OexC K C
  iC : PySem.W.findIn K (.ref C) "__init__" = some (some (.ref fI))
  tI : PySem.W.typeIn K (.ref fI) = some (.type "function")
  no : PySem.W.findIn K (.ref C) f = some none
  xf : XfC K C
  te : PySem.W.exmOne K (.ref C) (.ref C) = some true
def spXI (f : Str) (C : Addr) : Sp := fun vs H Q _ => ∃ (a : Addr) (v : V), vs = [.ref a, v] ∧ H a = some (exo a C none) ∧ ∀ dx, H dx = none → dx ≠ a → Q .non (upd (upd H dx (exd dx [(f, v)])) a (exo a C (some dx)))
theorem mk_heap {H : Hp} {a d : Addr} {o1 o2 o3 o : HO} (ha : H a = none) (hd : d ≠ a) : upd (del (upd (upd (upd H a o1) d o2) a o3) a) d o = upd H d o := by
  funext b
  by_cases hb : b = d
  · rw [hb, upd_same, upd_same]
  · rw [upd_ne hb, upd_ne hb]
    by_cases hba : b = a
    · rw [hba, del_same, ha]
    · rw [del_ne hba, upd_ne hba, upd_ne hb, upd_ne hba]
section
variable {P : Program} {w : World} {K : PySem.W.Frag} {mg : Str → Option Value} {base : Heap}
theorem ok_wholeD {f : Addr} {fd : FuncData} (F : Fun K "is_whole" "is_whole" sWhole f fd) (B : Bt mg) : FnOk P w K mg base CX0 1 f fd ["thing"] (spWholeD K) := by
  refine F.ok scWhole (fun vs H Q E h => ?_) (fun cdv A outer s H vs Q E hr h => ?_)
  · obtain ⟨v, d, rfl, _⟩ := h
    rfl
  · obtain ⟨v, d, rfl, hd, q⟩ := h
    refine ⟨_, pss_one <| ps_ret <| pe_and (pe_callB call_isi (by rfl) B.isi (by decide +kernel) (pa_cons (pv 0) (pa_cons (pe_bltn (v := .ty "int") (by rfl) B.int (by decide +kernel) rfl) pa_nil)))
      (pe_one (pe_not (pe_callB call_isi (by rfl) B.isi (by decide +kernel) (pa_cons (pv 0) (pa_cons (pe_bltn (v := .ty "bool") (by rfl) B.bool (by decide +kernel) rfl) pa_nil))))), ?_⟩
    obtain ⟨t, ty, k1, k2, _⟩ := hd.ty
    rw [whole_is] at q
    refine ⟨_, rfl, _, _, _, _, dI d, rfl, .ty "int", ty, kit_ty k1, dI d, rfl, ite2 (fun e1 => ?_) (fun e1 => ?_)⟩
    · rw [e1] at q
      exact ⟨_, rfl, _, _, _, _, dB d, rfl, .ty "bool", ty, kit_ty k2, dB d, rfl, q⟩
    · have e2 : dI d = false := by simpa using e1
      rw [e2] at q
      exact q
theorem ok_fromToD {f fW : Addr} {fd fdW : FuncData} (F : Fun K "is_whole_from_to" "is_whole_from_to" sFromTo f fd) (DW : DWhole P w K mg base fW fdW) (DX : FnOk P w K mg base CX0 1 fW fdW ["thing"] (spWholeD K)) : FnOk P w K mg base CX0 2 f fd ["thing", "least", "greatest"] (spFromToD K) := by
  refine F.ok scFromTo (fun vs H Q E h => ?_) (fun cdv A outer s H vs Q E hr h => ?_)
  · obtain ⟨v, d, a, b, rfl, _⟩ := h
    rfl
  · obtain ⟨v, d, a, b, rfl, hd, q⟩ := h
    have hr1 : Room 1 _ := hr.mono (by decide)
    refine ⟨_, pss_one <| ps_ret <| pe_and (pe_call DX hr1 (by rfl) DW.mg DW.kp DW.bd .nil pass0 (pa_cons (pv 0) pa_nil)) (pe_one (pe_chain op_le op_le (pv 1) (pv 0) (pv 2))), ?_⟩
    refine ⟨_, rfl, v, d, rfl, hd, wholeD d, rfl, ?_⟩
    cases hd with
    | int n =>
      refine iteT ?_
      refine ⟨_, rfl, _, rfl, _, _, rfl, rfl, _, rfl, ?_⟩
      have q : Q (.bl (decide (a ≤ n) && decide (n ≤ b))) H := q
      cases e : decide (a ≤ n) with
      | false =>
        rw [e] at q
        exact iteF q
      | true =>
        rw [e] at q
        exact iteT ⟨_, rfl, _, _, rfl, rfl, q⟩
    | bl b' => exact iteF q
    | non => exact iteF q
    | str x => exact iteF q
    | tup s a => exact iteF q
    | lst s n a => exact iteF q
    | dic e => exact iteF q
theorem ok_worthD {f fF aK aW aF : Addr} {fd fdF : FuncData} (F : Fun K "is_worth" "is_worth" sWorth f fd) (C : Cns K mg aK aW aF) (DF : DFromTo P w K mg base fF fdF) (DX : FnOk P w K mg base CX0 2 fF fdF ["thing", "least", "greatest"] (spFromToD K)) : FnOk P w K mg base CX0 3 f fd ["thing"] (spWorthD K) := by
  obtain ⟨tg, hgw⟩ := C.gw
  refine F.ok scWorth (fun vs H Q E h => ?_) (fun cdv A outer s H vs Q E hr h => ?_)
  · obtain ⟨v, d, rfl, _⟩ := h
    rfl
  · obtain ⟨v, d, rfl, hd, q⟩ := h
    refine ⟨_, pss_one <| ps_ret <| pe_call DX hr (by rfl) DF.mg DF.kp DF.bd .nil pass0 <| pa_cons (pv 0) <| pa_cons pe_int <| pa_cons (pe_glob (v := .int 96) (by rfl) hgw ⟨_, rfl⟩) pa_nil, ?_⟩
    exact ⟨_, rfl, v, d, 0, 96, rfl, hd, q⟩
theorem scNWinit : FnScope ["self", "place"] ["self", "place"] (defScope sNWinit) := ⟨rfl, rfl, rfl, by decide +kernel, rfl, by decide +kernel, by decide +kernel⟩
theorem ok_nwInit {f C0 C fI : Addr} {fd : FuncData} (F : Fun K "__init__" "NoWires.__init__" sNWinit f fd) (L : LEx K mg C0) (TE : TEx K mg "NoWires" "place" C fI) : FnOk P w K mg base CX0 1 f fd ["self", "place"] (spXI "place" C) := by
  refine F.ok scNWinit (fun vs H Q E h => ?_) (fun cdv A outer s H vs Q E hr h => ?_)
  · obtain ⟨a, v, rfl, _⟩ := h
    rfl
  · obtain ⟨a, v, rfl, ha, q⟩ := h
    refine ⟨_, pss_cons (ps_expr (pe_leinit (by rfl) L.g L.gA L.tC L.rC L.vV (pa_cons (pv 0) (pa_cons pe_str pa_nil)))) <| pss_one (ps_ost (pv 0) (pv 1)), ?_⟩
    exact ⟨_, rfl, a, C, _, rfl, (by show 1 ≤ 1000; decide), TE.T, ha, _, rfl, _, rfl, a, C, rfl, TE.T, TE.no, .inl ⟨ha, fun dx hdx ne => q dx hdx ne⟩⟩
end
end Lag

set_option maxRecDepth 100000
set_option maxHeartbeats 8000000
namespace Lag
open PySem PySem.Spec PyProof.Rows L2
/-! ### gates and wires as data of any kind -/
def dS : PyData → Bool
  | .str _ => true
  | _ => false
theorem Dx.tyS {K : PySem.W.Frag} {Av : Addr → Prop} {H : Hp} {v : V} {d : PyData} (h : Dx K Av H v d) : ∃ t : String, TyX K H v (.type t) ∧ kitB t "str" = some (dS d) := by
  cases h with
  | non => exact ⟨"NoneType", .base .non, (show kitB "NoneType" "str" = some false by decide +kernel)⟩
  | bl b => exact ⟨"bool", .base (.bl b), (show kitB "bool" "str" = some false by decide +kernel)⟩
  | int i => exact ⟨"int", .base (.int i), (show kitB "int" "str" = some false by decide +kernel)⟩
  | str x => exact ⟨"str", .base (.str x), (show kitB "str" "str" = some true by decide +kernel)⟩
  | lst s n a => exact ⟨"list", ty_lst (SqL.of s), (show kitB "list" "str" = some false by decide +kernel)⟩
  | tup s a => exact ⟨"tuple", ty_tup s, (show kitB "tuple" "str" = some false by decide +kernel)⟩
  | dic e => exact ⟨"dict", .base (.dK e), (show kitB "dict" "str" = some false by decide +kernel)⟩
/-- the greatest wait of a kind -/
def waitTo (s : Str) : Int := if s = "in" ∨ s = "out" then 0 else 100
def isGateD : PyData → Bool
  | .tuple [.str s, w] => decide (s ∈ kinds) && fromD w 0 (waitTo s)
  | _ => false
theorem isGateD_len : ∀ {ds : List PyData}, ds.length ≠ 2 → isGateD (.tuple ds) = false
  | [], _ => rfl
  | [x], _ => by cases x <;> rfl
  | [_, _], h => absurd rfl h
  | x :: _ :: _ :: _, _ => by cases x <;> rfl
theorem isGateD_no {d1 d2 : PyData} (h : dS d1 = false) : isGateD (.tuple [d1, d2]) = false := by
  cases d1 <;> first | rfl | cases h
def gatesOkD : PyData → Bool
  | .list ds => !ds.isEmpty && ds.all isGateD
  | _ => false
def regsD : PyData → Bool
  | .tuple ws => ws.all fun d => fromD d 0 96
  | _ => false
def isWireD (n : Int) : PyData → Bool
  | .tuple [s, e, h] => fromD s 0 (n - 1) && (fromD e 0 (n - 1) && regsD h)
  | _ => false
theorem isWireD_len {n : Int} : ∀ {ds : List PyData}, ds.length ≠ 3 → isWireD n (.tuple ds) = false
  | [], _ => rfl
  | [_], _ => rfl
  | [_, _], _ => rfl
  | [_, _, _], h => absurd rfl h
  | _ :: _ :: _ :: _ :: _, _ => rfl
def intOf : PyData → Int
  | .int i => i
  | _ => 0
def asGt : PyData → Gt
  | .tuple [.str s, .int w] => (s, w)
  | _ => ("", 0)
def asWr : PyData → Wr
  | .tuple [s, e, .tuple ws] => ((intOf s).toNat, (intOf e).toNat, ws.map intOf)
  | _ => (0, 0, [])
def asGs : PyData → List Gt
  | .list ds => ds.map asGt
  | _ => []
def asWs : PyData → List Wr
  | .list ds => ds.map asWr
  | _ => []
theorem from_int {d : PyData} {a b : Int} (h : fromD d a b = true) : ∃ i, d = .int i ∧ a ≤ i ∧ i ≤ b := by
  cases d with
  | int i =>
    have h : (decide (a ≤ i) && decide (i ≤ b)) = true := h
    rw [Bool.and_eq_true] at h
    exact ⟨i, rfl, of_decide_eq_true h.1, of_decide_eq_true h.2⟩
  | _ => cases h
theorem isGate_inv {d : PyData} (h : isGateD d = true) : ∃ (x : Str) (i : Int), d = .tuple [.str x, .int i] ∧ x ∈ kinds ∧ 0 ≤ i ∧ i ≤ waitTo x := by
  match d, h with
  | .tuple [.str x, w], h =>
    have h : (decide (x ∈ kinds) && fromD w 0 (waitTo x)) = true := h
    rw [Bool.and_eq_true] at h
    obtain ⟨i, rfl, i0, i1⟩ := from_int h.2
    exact ⟨x, i, rfl, of_decide_eq_true h.1, i0, i1⟩
theorem gok_of {x : Str} {i : Int} (hx : x ∈ kinds) (i0 : 0 ≤ i) (i1 : i ≤ waitTo x) : GOk (x, i) := by
  refine ⟨hx, i0, ?_, fun hp => ?_⟩
  · show i ≤ 100
    unfold waitTo at i1
    split at i1 <;> omega
  · show i = 0
    have hp : x = "in" ∨ x = "out" := hp
    unfold waitTo at i1
    rw [if_pos hp] at i1
    omega
theorem regs_inv {d : PyData} (h : regsD d = true) : ∃ ws, d = .tuple ws ∧ (ws.all fun d => fromD d 0 96) = true := by
  match d, h with
  | .tuple ws, h => exact ⟨ws, rfl, h⟩
theorem isWire_inv {n : Nat} {d : PyData} (h : isWireD n d = true) : ∃ (i j : Int) (ws : List PyData), d = .tuple [.int i, .int j, .tuple ws] ∧ 0 ≤ i ∧ i < n ∧ 0 ≤ j ∧ j < n ∧ (ws.all fun d => fromD d 0 96) = true := by
  match d, h with
  | .tuple [d1, d2, d3], h =>
    have h : (fromD d1 0 ((n : Int) - 1) && (fromD d2 0 ((n : Int) - 1) && regsD d3)) = true := h
    rw [Bool.and_eq_true, Bool.and_eq_true] at h
    obtain ⟨h1, h2, h3⟩ := h
    obtain ⟨i, rfl, i0, i1⟩ := from_int h1
    obtain ⟨j, rfl, j0, j1⟩ := from_int h2
    obtain ⟨ws, rfl, hw⟩ := regs_inv h3
    exact ⟨i, j, ws, rfl, i0, by omega, j0, by omega, hw⟩
/-- a gate -/
theorem gate_of {K : PySem.W.Frag} {Av : Addr → Prop} {H : Hp} {v : V} {d : PyData} (hd : Dx K Av H v d) (h : isGateD d = true) : GateV K H v (asGt d) ∧ GOk (asGt d) := by
  obtain ⟨x, i, rfl, hx, i0, i1⟩ := isGate_inv h
  cases hd with
  | tup s al =>
    cases al with
    | cons h1 r =>
      cases h1
      cases r with
      | cons h2 r2 =>
        cases h2
        cases r2
        exact ⟨⟨_, rfl, s⟩, gok_of hx i0 i1⟩
theorem gates_of {K : PySem.W.Frag} {Av : Addr → Prop} {H : Hp} : ∀ {vs : List V} {ds : List PyData}, DxAll K Av H vs ds → ds.all isGateD = true → All2 (GateV K H) vs (ds.map asGt) ∧ ∀ g ∈ ds.map asGt, GOk g
  | [], [], _, _ => ⟨All2.nil, fun g h => by cases h⟩
  | v :: vs, d :: ds, .cons h1 h2, h => by
    rw [List.all_cons, Bool.and_eq_true] at h
    obtain ⟨a, b⟩ := gate_of h1 h.1
    obtain ⟨c, e⟩ := gates_of h2 h.2
    refine ⟨⟨by rw [List.length_cons, List.map_cons, List.length_cons, c.1], fun i x y hx hy => ?_⟩, fun g hg => ?_⟩
    · cases i with
      | zero =>
        cases hx
        cases hy
        exact a
      | succ i => exact c.2 i x y hx hy
    · rw [List.map_cons] at hg
      rcases List.mem_cons.mp hg with rfl | hg
      · exact b
      · exact e g hg
theorem ints_of {K : PySem.W.Frag} {Av : Addr → Prop} {H : Hp} : ∀ {vs : List V} {ds : List PyData}, DxAll K Av H vs ds → (ds.all fun d => fromD d 0 96) = true → vs = (ds.map intOf).map V.int ∧ ROk (ds.map intOf)
  | [], [], _, _ => ⟨rfl, fun y h => by cases h⟩
  | v :: vs, d :: ds, .cons h1 h2, h => by
    rw [List.all_cons, Bool.and_eq_true] at h
    obtain ⟨i, e0, i0, i1⟩ := from_int h.1
    obtain ⟨c, e⟩ := ints_of h2 h.2
    rw [e0] at h1 ⊢
    have ev : v = .int i := by
      cases h1
      rfl
    refine ⟨by rw [c, ev]; rfl, fun y hy => ?_⟩
    rw [List.map_cons] at hy
    rcases List.mem_cons.mp hy with hy | hy
    · rw [hy]
      exact ⟨i0, i1⟩
    · exact e y hy
theorem wire_of {K : PySem.W.Frag} {Av : Addr → Prop} {H : Hp} {v : V} {d : PyData} {n : Nat} (hd : Dx K Av H v d) (h : isWireD n d = true) : WireV K H v (asWr d) ∧ (asWr d).1 < n ∧ (asWr d).2.1 < n ∧ ROk (asWr d).2.2 := by
  obtain ⟨i, j, ws, rfl, i0, i1, j0, j1, hw⟩ := isWire_inv h
  cases hd with
  | tup s al =>
    cases al with
    | cons a1 r1 =>
      cases a1
      cases r1 with
      | cons a2 r2 =>
        cases a2
        cases r2 with
        | cons a3 r3 =>
          cases r3
          cases a3 with
          | @tup b ys _ s3 al3 =>
            obtain ⟨e1, e2⟩ := ints_of al3 hw
            refine ⟨⟨_, b, rfl, ?_, ?_⟩, ?_, ?_, e2⟩
            · show SqT K H _ [.int ((i.toNat : Nat) : Int), .int ((j.toNat : Nat) : Int), .ref b]
              rw [Int.toNat_of_nonneg i0, Int.toNat_of_nonneg j0]
              exact s
            · show SqT K H b ((ws.map intOf).map V.int)
              rw [← e1]
              exact s3
            · show i.toNat < n
              omega
            · show j.toNat < n
              omega
/-- do both ends let this wire -/
def takenB (gs : List Gt) (seen : List Wr) (x : Wr) : Bool := !(decide (kindAt gs x.1 = "out")) && (!(decide (kindAt gs x.2.1 = "in")) && (!(decide (kindAt gs x.2.1 = "out")) || decide (cnt seen x.2.1 = 0)))
def lacksB (gs : List Gt) (seen : List Wr) : Bool := (List.range gs.length).any fun e => (decide (kindAt gs e = "out") || decide (kindAt gs e = "first")) && decide (cnt seen e = 0)
def wfL (gs : List Gt) : List Wr → List PyData → Option Int
  | seen, [] => if lacksB gs seen = true then some ((seen.length : Nat) : Int) else none
  | seen, d :: ds => if isWireD gs.length d = true then (if takenB gs seen (asWr d) = true then wfL gs (seen ++ [asWr d]) ds else some ((seen.length : Nat) : Int)) else some ((seen.length : Nat) : Int)
def wfD (gs : List Gt) : PyData → Option Int
  | .list ds => wfL gs [] ds
  | _ => some (-1)
/-- which refusal is due -/
def dueP (G W : PyData) : PyData := if gatesOkD G = true then (match wfD (asGs G) W with
  | some p => .tuple [.str "wires", .int p]
  | none => .none) else .tuple [.str "gates", .none]
theorem wfL_none {gs : List Gt} : ∀ {ds : List PyData} {seen : List Wr}, wfL gs seen ds = none → (∀ d ∈ ds, isWireD gs.length d = true) ∧ lacksB gs (seen ++ ds.map asWr) = false ∧ (∀ x ∈ ds.map asWr, kindAt gs x.1 ≠ "out" ∧ kindAt gs x.2.1 ≠ "in") ∧ ((∀ e, kindAt gs e = "out" → cnt seen e ≤ 1) → ∀ e, kindAt gs e = "out" → cnt (seen ++ ds.map asWr) e ≤ 1)
  | [], seen, h => by
    unfold wfL at h
    split at h
    · cases h
    · rename_i hl
      rw [List.map_nil, List.append_nil]
      exact ⟨fun d hd => (by cases hd), (by simpa using hl), fun x hx => (by cases hx), fun k => k⟩
  | d :: ds, seen, h => by
    unfold wfL at h
    split at h
    · rename_i hw
      split at h
      · rename_i ht
        obtain ⟨a, b, c, e⟩ := wfL_none h
        have ht : (!(decide (kindAt gs (asWr d).1 = "out")) && (!(decide (kindAt gs (asWr d).2.1 = "in")) && (!(decide (kindAt gs (asWr d).2.1 = "out")) || decide (cnt seen (asWr d).2.1 = 0)))) = true := ht
        rw [Bool.and_eq_true, Bool.and_eq_true, Bool.or_eq_true] at ht
        obtain ⟨t1, t2, t3⟩ := ht
        have t1 : kindAt gs (asWr d).1 ≠ "out" := by simpa using t1
        have t2 : kindAt gs (asWr d).2.1 ≠ "in" := by simpa using t2
        rw [List.append_assoc] at b e
        refine ⟨fun y hy => ?_, b, fun x hx => ?_, fun k => e fun j hj => ?_⟩
        · rcases List.mem_cons.mp hy with rfl | hy
          · exact hw
          · exact a y hy
        · rw [List.map_cons] at hx
          rcases List.mem_cons.mp hx with rfl | hx
          · exact ⟨t1, t2⟩
          · exact c x hx
        · rw [cnt_app]
          by_cases hj2 : (asWr d).2.1 = j
          · rw [if_pos hj2]
            rcases t3 with t3 | t3
            · rw [hj2, hj] at t3
              simp at t3
            · have := of_decide_eq_true t3
              rw [hj2] at this
              omega
          · rw [if_neg hj2]
            exact k j hj
      · cases h
    · cases h
theorem cnt_nil (e : Nat) : cnt [] e = 0 := rfl
theorem lacks_no {gs : List Gt} {ws : List Wr} (h : lacksB gs ws = false) {e : Nat} (he : e < gs.length) (hk : kindAt gs e = "out" ∨ kindAt gs e = "first") : 1 ≤ cnt ws e := by
  unfold lacksB at h
  rw [List.any_eq_false] at h
  have := h e (List.mem_range.mpr he)
  refine Nat.one_le_iff_ne_zero.mpr fun z => this ?_
  rw [z]
  rcases hk with hk | hk <;> rw [hk] <;> simp
/-- what is due no refusal is a net, where its bare wires rise -/
theorem net_of {G W : PyData} (h : dueP G W = .none) (hg : (asGs G).length ≤ 100) (hw : (asWs W).length ≤ 1000) (hr : ∀ x ∈ asWs W, x.2.2.length ≤ 100) (ρ : Nat → Nat) (hρ : ∀ x ∈ asWs W, x.2.2 = [] → ρ x.1 < ρ x.2.1) : NetOk (asGs G) (asWs W) ∧ gatesOkD G = true ∧ wfD (asGs G) W = none := by
  unfold dueP at h
  split at h
  · rename_i hG
    cases hwf : wfD (asGs G) W with
    | some p =>
      rw [hwf] at h
      cases h
    | none =>
      refine ⟨?_, hG, rfl⟩
      cases G with
      | list gds =>
        cases W with
        | list wds =>
          have hG : (!gds.isEmpty && gds.all isGateD) = true := hG
          rw [Bool.and_eq_true] at hG
          obtain ⟨g1, g2⟩ := hG
          have hwf : wfL (gds.map asGt) [] wds = none := hwf
          obtain ⟨w1, w2, w3, w4⟩ := wfL_none hwf
          rw [List.nil_append] at w2 w4
          have w4 := w4 (fun e _ => Nat.zero_le _)
          have one : ∀ d : PyData, isGateD d = true → GOk (asGt d) := fun d hd => by
            obtain ⟨x, i, rfl, hx, i0, i1⟩ := isGate_inv hd
            exact gok_of hx i0 i1
          have wok : ∀ d ∈ wds, (asWr d).1 < (gds.map asGt).length ∧ (asWr d).2.1 < (gds.map asGt).length ∧ ROk (asWr d).2.2 := fun d hd => by
            obtain ⟨i, j, ws, rfl, i0, i1, j0, j1, hw⟩ := isWire_inv (w1 d hd)
            refine ⟨?_, ?_, fun y hy => ?_⟩
            · show i.toNat < _
              omega
            · show j.toNat < _
              omega
            · obtain ⟨z, hz, rfl⟩ := List.mem_map.mp hy
              obtain ⟨q, e, q0, q1⟩ := from_int (List.all_eq_true.mp hw z hz)
              rw [e]
              exact ⟨q0, q1⟩
          refine ⟨?_, hg, hw, fun g hgm => ?_, fun x hx => ?_, fun e he hk => ?_, fun e he hk => lacks_no w2 he (.inr hk), ρ, hρ⟩
          · intro z
            have z : gds.map asGt = [] := z
            have : gds = [] := List.map_eq_nil_iff.mp z
            rw [this] at g1
            cases g1
          · obtain ⟨d, hd, rfl⟩ := List.mem_map.mp hgm
            exact one d (List.all_eq_true.mp g2 d hd)
          · obtain ⟨d, hd, rfl⟩ := List.mem_map.mp hx
            obtain ⟨a, b, c⟩ := wok d hd
            obtain ⟨k1, k2⟩ := w3 _ (List.mem_map_of_mem hd)
            exact ⟨a, b, k1, k2, c, hr _ hx⟩
          · have h1 := w4 e hk
            have h2 := lacks_no w2 he (.inl hk)
            have h1 : cnt (asWs (.list wds)) e ≤ 1 := h1
            have h2 : 1 ≤ cnt (asWs (.list wds)) e := h2
            omega
        | _ => cases hwf
      | _ => cases hG
  · cases h
end Lag

set_option maxRecDepth 100000
set_option maxHeartbeats 8000000
namespace Lag
open PySem PySem.Spec PyProof.Rows L2
theorem kinds_inv (s : Str) : inV (.str s) (kinds.map V.str) = decide (s ∈ kinds) := by
  unfold inV
  rw [Bool.eq_iff_iff, List.any_eq_true, decide_eq_true_iff]
  constructor
  · rintro ⟨x, hx, e⟩
    obtain ⟨k, hk, rfl⟩ := List.mem_map.mp hx
    have : k = s := by
      have := eq_of_beq (show (k == s) = true from e)
      exact this
    rw [← this]
    exact hk
  · intro h
    exact ⟨.str s, List.mem_map.mpr ⟨s, h, rfl⟩, beq_self_eq_true s⟩
theorem outer_inv (s : Str) : inV (.str s) [V.str "in", V.str "out"] = decide (s = "in" ∨ s = "out") := by
  unfold inV
  rw [Bool.eq_iff_iff, List.any_eq_true, decide_eq_true_iff]
  constructor
  · rintro ⟨x, hx, e⟩
    simp only [List.mem_cons, List.not_mem_nil, or_false] at hx
    rcases hx with rfl | rfl
    · exact .inl (eq_of_beq (show (("in" : Str) == s) = true from e)).symm
    · exact .inr (eq_of_beq (show (("out" : Str) == s) = true from e)).symm
  · rintro (rfl | rfl)
    · exact ⟨_, List.mem_cons_self .., beq_self_eq_true _⟩
    · exact ⟨_, List.mem_cons_of_mem _ (List.mem_cons_self ..), beq_self_eq_true _⟩
def spIsGateD (K : PySem.W.Frag) : Sp := fun vs H Q _ => ∃ (v : V) (d : PyData), vs = [v] ∧ Dx K Any H v d ∧ Q (.bl (isGateD d)) H
def spIsWireD (K : PySem.W.Frag) : Sp := fun vs H Q _ => ∃ (v : V) (d : PyData) (n : Nat), vs = [v, .int (n : Nat)] ∧ Dx K Any H v d ∧ (∀ ds, d = .tuple ds → ds.length ≤ 1000 ∧ ∀ es, .tuple es ∈ ds → es.length ≤ 1000) ∧ ∀ H', Same H H' → Q (.bl (isWireD n d)) H'
def spTakenB (K : PySem.W.Frag) : Sp := fun vs H Q _ => ∃ (v : V) (x : Wr) (lg lc : Addr) (gs : List Gt) (seen : List Wr), vs = [v, .ref lg, .ref lc] ∧ WireV K H v x ∧ RG K H lg gs ∧ SqL K H lc ((cntL gs.length seen).map fun i => V.int (i : Nat)) ∧ x.1 < gs.length ∧ x.2.1 < gs.length ∧ Q (.bl (takenB gs seen x)) H
def spChkGatesX (K : PySem.W.Frag) (CG : Addr) : Sp := fun vs H Q E => ∃ (v : V) (d : PyData), vs = [v] ∧ Dx K Any H v d ∧ gatesOkD d = false ∧ ∀ H', Same H H' → E (.ref CG) none H'
/-- short enough to be held against -/
def ShortW (d : PyData) : Prop := ∀ ds, d = .list ds → ds.length ≤ 900 ∧ ∀ e ∈ ds, ∀ es, e = .tuple es → es.length ≤ 1000 ∧ ∀ fs, .tuple fs ∈ es → fs.length ≤ 1000
def spChkWiresX (K : PySem.W.Frag) (CW : Addr) : Sp := fun vs H Q E => ∃ (lg : Addr) (v : V) (gs : List Gt) (d : PyData) (p : Int), vs = [.ref lg, v] ∧ RG K H lg gs ∧ gs.length ≤ 100 ∧ Dx K Any H v d ∧ ShortW d ∧ wfD gs d = some p ∧ ∀ dx H', Same H H' → H' dx = none → E (.ref CW) (some dx) (upd H' dx (.xd [(("place" : Str), .int p)]))
def spInitX (K : PySem.W.Frag) (C CG CW : Addr) : Sp := fun vs H Q E => ∃ (p : Addr) (vg vw : V) (G W : PyData), vs = [.ref p, vg, vw] ∧ Dx K Any H vg G ∧ Dx K Any H vw W ∧ (asGs G).length ≤ 100 ∧ ShortW W ∧
  ((gatesOkD G = false ∧ ∀ H', Same H H' → E (.ref CG) none H') ∨ (gatesOkD G = true ∧ ∃ q : Int, wfD (asGs G) W = some q ∧ ∀ dx H', Same H H' → H' dx = none → E (.ref CW) (some dx) (upd H' dx (.xd [(("place" : Str), .int q)]))))
section
variable {P : Program} {w : World} {K : PySem.W.Frag} {mg : Str → Option Value} {base : Heap}
theorem ok_isGateD {f fF aK aW aF : Addr} {fd fdF : FuncData} (F : Fun K "is_gate" "is_gate" sIsGate f fd) (B : Bt mg) (C : Cns K mg aK aW aF) (DF : DFromTo P w K mg base fF fdF) (DX : FnOk P w K mg base CX0 2 fF fdF ["thing", "least", "greatest"] (spFromToD K)) : FnOk P w K mg base CX0 3 f fd ["thing"] (spIsGateD K) := by
  obtain ⟨tg, hga⟩ := C.ga
  refine F.ok scIsGate (fun vs H Q E h => ?_) (fun cdv A outer s H vs Q E hr h => ?_)
  · obtain ⟨v, d, rfl, _⟩ := h
    rfl
  · obtain ⟨v, d, rfl, hd, q⟩ := h
    have nd := scIsGate.nd
    refine ⟨_, pss_cons (ps_if (PW.pt (pw_or (pt_not (pt_val (pe_callB call_isi (by rfl) B.isi (by decide +kernel) (pa_cons (pv 0) (pa_cons (pe_bltn (v := .ty "tuple") (by rfl) B.tuple (by decide +kernel) rfl) pa_nil)))))
          (pw_or1 (pt_cmpR op_ne (pe_callB call_len_seq (by rfl) B.len PySem.boot_len (pa_cons (pv 0) pa_nil)) pe_int (nomark _))))) (pss_one (ps_ret pe_bl)) pss_nil) <|
      pss_cons (ps_asg (pv 0) (pg_tup (by rfl) (pgs_cons (pg_name (i := 1) nd rfl (.inl rfl)) (pgs_cons (pg_name (i := 2) nd rfl (.inl rfl)) pgs_nil)))) <|
      pss_cons (ps_if (PW.pt (pw_or (pt_not (pt_val (pe_callB call_isi (by rfl) B.isi (by decide +kernel) (pa_cons (pv 1) (pa_cons (pe_bltn (v := .ty "str") (by rfl) B.str (by decide +kernel) rfl) pa_nil)))))
          (pw_or1 (pt_cmpR op_notIn_seq (pv 1) (pe_glob (v := .ref aK) (by rfl) C.mK rfl) (by rfl))))) (pss_one (ps_ret pe_bl)) pss_nil) <|
      pss_one <| ps_ret <| pe_call DX hr (by rfl) DF.mg DF.kp DF.bd .nil pass0 <| pa_cons (pv 2) <| pa_cons pe_int <| (pa_cons · pa_nil) <|
        pe_ifExp (pt_cmpR op_in_seq (pv 1) (pe_glob (v := .ref aW) (by rfl) C.mW rfl) (by rfl)) pe_int (pe_glob (v := .int 100) (by rfl) hga ⟨_, rfl⟩), ?_⟩
    obtain ⟨t, ty, _, _, k3, _⟩ := hd.ty
    refine ⟨_, rfl, _, _, _, _, dT d, rfl, .ty "tuple", ty, kit_ty k3, dT d, rfl, ?_⟩
    cases hd with
    | @tup a xs ds sq al =>
      have hlx : xs.length = ds.length := al.all2.1
      refine iteF ?_
      by_cases hl : ds.length = 2
      · refine ⟨_, rfl, a, _, rfl, .inr sq, rfl, false, ?_, iteF ?_⟩
        · rw [vint_eq, hlx, hl]
          rfl
        match ds, hl, al, q with
        | [d1, d2], _, al, q =>
        cases al with
        | @cons v1 vs1 _ _ h1 r =>
        cases r with
        | @cons v2 vs2 _ _ h2 r2 =>
        cases r2
        refine ⟨_, rfl, a, _, rfl, sq, rfl, _, _, rfl, _, _, rfl, rfl, ?_⟩
        obtain ⟨t1, ty1, k1⟩ := h1.tyS
        refine ⟨_, rfl, _, _, _, _, dS d1, rfl, .ty "str", ty1, kit_ty k1, dS d1, rfl, ?_⟩
        cases hs : dS d1 with
        | false =>
          rw [isGateD_no hs] at q
          exact iteT q
        | true =>
          obtain ⟨x, rfl⟩ : ∃ x, d1 = .str x := by
            cases d1 with
            | str x => exact ⟨x, rfl⟩
            | _ => cases hs
          cases h1
          refine iteF ?_
          have q : Q (.bl (decide (x ∈ kinds) && fromD d2 0 (waitTo x))) H := q
          refine ⟨_, rfl, aK, _, rfl, .inr (C.sK H), rfl, flat_strs _, !decide (x ∈ kinds), ?_, ?_⟩
          · show V.bl (!inV (V.str x) (kinds.map V.str)) = _
            rw [kinds_inv]
          by_cases hx : x ∈ kinds
          · rw [decide_eq_true hx] at q ⊢
            refine iteF ?_
            refine ⟨_, rfl, _, rfl, aW, _, rfl, .inr (C.sW H), rfl, rfl, decide (x = "in" ∨ x = "out"), (by rw [← outer_inv]; rfl), ?_⟩
            by_cases ho : x = "in" ∨ x = "out"
            · rw [decide_eq_true ho]
              refine iteT ⟨v2, d2, 0, 0, rfl, h2, ?_⟩
              have e : waitTo x = 0 := if_pos ho
              rw [e] at q
              exact q
            · rw [decide_eq_false ho]
              refine iteF ⟨v2, d2, 0, 100, rfl, h2, ?_⟩
              have e : waitTo x = 100 := if_neg ho
              rw [e] at q
              exact q
          · rw [decide_eq_false hx] at q ⊢
            exact iteT q
      · refine ⟨_, rfl, a, _, rfl, .inr sq, rfl, true, ?_, iteT ?_⟩
        · rw [vint_eq, decide_eq_false (by omega)]
          rfl
        · rw [isGateD_len hl] at q
          exact q
    | non => exact iteT q
    | bl b => exact iteT q
    | int i => exact iteT q
    | str x => exact iteT q
    | lst e n a => exact iteT q
    | dic e => exact iteT q
theorem ok_chkGatesX {f fG CG : Addr} {fd fdG : FuncData} (F : Fun K "check_gates" "check_gates" sChkGates f fd) (B : Bt mg) (DG : DIsGate P w K mg base fG fdG) (DX : FnOk P w K mg base CX0 3 fG fdG ["thing"] (spIsGateD K)) (NG : PEx K mg "NoGates" CG) : FnOk P w K mg base (L2.CX P w) 4 f fd ["gates"] (spChkGatesX K CG) := by
  refine F.okX scChkGates (fun vs H Q E h => ?_) (fun cdv A outer s H vs Q E hr h => ?_)
  · obtain ⟨v, d, rfl, _⟩ := h
    rfl
  · obtain ⟨v, d, rfl, hd, bad, q⟩ := h
    have nd := scChkGates.nd
    refine ⟨_, pss_cons (ps_if (PW.pt (pw_or (pt_not (pt_val (pe_callB call_isi (by rfl) B.isi (by decide +kernel) (pa_cons (pv 0) (pa_cons (pe_bltn (v := .ty "list") (by rfl) B.list (by decide +kernel) rfl) pa_nil)))))
          (pw_or1 (pt_cmpR op_eq (pe_callB call_len_seq (by rfl) B.len PySem.boot_len (pa_cons (pv 0) pa_nil)) pe_int (nomark _))))) (pss_one (ps_raise rfl (takes_of rfl rfl rfl rfl) (pmk_own PySem.F.excBase_ValueError NG.q NG.g NG.k (raises_own NG.e NG.t) (by rfl)))) pss_nil) <|
      pss_one <| ps_for (passes_of rfl) rfl (pi_list (pv 0)) (pg_name (i := 1) nd rfl (.inl rfl)) <|
        pss_one <| ps_if (pt_not (pt_val (pe_call DX hr (by rfl) DG.mg DG.kp DG.bd .nil pass0 (pa_cons (pv 1) pa_nil)))) (pss_one (ps_raise rfl (takes_of rfl rfl rfl rfl) (pmk_own PySem.F.excBase_ValueError NG.q NG.g NG.k (raises_own NG.e NG.t) (by rfl)))) pss_nil, ?_⟩
    obtain ⟨t, ty, _, _, _, k4⟩ := hd.ty
    refine ⟨_, rfl, _, _, _, _, dL d, rfl, .ty "list", ty, kit_ty k4, dL d, rfl, ?_⟩
    have no : dL d = false → (if dL d = false then True else True) → E (.ref CG) none H := fun _ _ => q H (Same.refl H)
    cases hd with
    | @lst a xs ds e n al =>
      have a2 := al.all2
      have hlx : xs.length = ds.length := a2.1
      refine iteF ?_
      refine ⟨_, rfl, a, _, rfl, .inl (SqL.of e), rfl, decide (ds.length = 0), (by rw [vint_eq, hlx]; exact congrArg V.bl (decide_eq_decide.mpr (by omega))), ?_⟩
      by_cases hl : ds.length = 0
      · rw [decide_eq_true hl]
        exact iteT (q H (Same.refl H))
      · rw [decide_eq_false hl]
        refine iteF ?_
        have hbad : ∃ (n : Nat) (d0 : PyData), ds[n]? = some d0 ∧ isGateD d0 = false := by
          have bad : (!ds.isEmpty && ds.all isGateD) = false := bad
          have he : (!ds.isEmpty) = true := by
            cases ds with
            | nil => exact absurd rfl hl
            | cons x l => rfl
          rw [he, Bool.true_and, List.all_eq_false] at bad
          obtain ⟨d0, h0, h1⟩ := bad
          obtain ⟨n, hn⟩ := List.getElem?_of_mem h0
          exact ⟨n, d0, hn, by simpa using h1⟩
        obtain ⟨nb, d0, hnb, hb⟩ := hbad
        have hnl : nb < ds.length := (List.getElem?_eq_some_iff.mp hnb).1
        refine ⟨_, rfl, a, rfl, ⟨_, SqL.of e⟩, for_list (K := K) (a := a) (xs := xs) (fun i σ H2 => i ≤ nb ∧ ∃ y, σ = [some (.ref a), y] ∧ H2 = H) ⟨Nat.zero_le _, _, rfl, rfl⟩ (fun i σ H2 _ ⟨_, _, _, e2⟩ => by rw [e2]; exact SqL.of e) ?_ ?_⟩
        · rintro i x σ H2 hx ⟨hi, y, rfl, rfl⟩
          obtain ⟨d1, hd1, dx1⟩ := a2.get hx
          refine ⟨_, rfl, x, d1, rfl, dx1, isGateD d1, rfl, ?_⟩
          cases hg : isGateD d1 with
          | false => exact iteT (q H2 (Same.refl H2))
          | true =>
            refine iteF ⟨?_, _, rfl, rfl⟩
            by_cases z : i = nb
            · rw [z, hnb] at hd1
              rw [← Option.some.inj hd1, hb] at hg
              cases hg
            · omega
        · rintro σ H2 ⟨hi, _⟩
          exfalso
          omega
    | non => exact iteT (q H (Same.refl H))
    | bl b => exact iteT (q H (Same.refl H))
    | int i => exact iteT (q H (Same.refl H))
    | str x => exact iteT (q H (Same.refl H))
    | tup s a => exact iteT (q H (Same.refl H))
    | dic e => exact iteT (q H (Same.refl H))
theorem ok_isWireD {f fF fW : Addr} {fd fdF fdW : FuncData} (F : Fun K "is_wire" "is_wire" sIsWire f fd) (B : Bt mg) (DF : DFromTo P w K mg base fF fdF) (DFX : FnOk P w K mg base CX0 2 fF fdF ["thing", "least", "greatest"] (spFromToD K)) (DW : DWorth P w K mg base fW fdW) (DWX : FnOk P w K mg base CX0 3 fW fdW ["thing"] (spWorthD K)) : FnOk P w K mg base CX0 4 f fd ["thing", "many_gates"] (spIsWireD K) := by
  refine F.ok scIsWire (fun vs H Q E h => ?_) (fun cdv A outer s H vs Q E hr h => ?_)
  · obtain ⟨v, d, n, rfl, _⟩ := h
    rfl
  · obtain ⟨v, d, n, rfl, hd, hsh, q⟩ := h
    have nd := scIsWire.nd
    have hr2 : Room 2 _ := hr.mono (by decide)
    refine ⟨_, pss_cons (ps_if (PW.pt (pw_or (pt_not (pt_val (pe_callB call_isi (by rfl) B.isi (by decide +kernel) (pa_cons (pv 0) (pa_cons (pe_bltn (v := .ty "tuple") (by rfl) B.tuple (by decide +kernel) rfl) pa_nil)))))
          (pw_or1 (pt_cmpR op_ne (pe_callB call_len_seq (by rfl) B.len PySem.boot_len (pa_cons (pv 0) pa_nil)) pe_int (nomark _))))) (pss_one (ps_ret pe_bl)) pss_nil) <|
      pss_cons (ps_asg (pv 0) (pg_tup (by rfl) (pgs_cons (pg_name (i := 2) nd rfl (.inl rfl)) (pgs_cons (pg_name (i := 3) nd rfl (.inl rfl)) (pgs_cons (pg_name (i := 4) nd rfl (.inl rfl)) pgs_nil))))) <|
      pss_cons (ps_if (PW.pt (pw_or (pt_not (pt_val (pe_call DFX hr2 (by rfl) DF.mg DF.kp DF.bd .nil pass0 (pa_cons (pv 2) (pa_cons pe_int (pa_cons (pe_op op_sub (pv 1) pe_int) pa_nil))))))
          (pw_or1 (pt_not (pt_val (pe_call DFX hr2 (by rfl) DF.mg DF.kp DF.bd .nil pass0 (pa_cons (pv 3) (pa_cons pe_int (pa_cons (pe_op op_sub (pv 1) pe_int) pa_nil))))))))) (pss_one (ps_ret pe_bl)) pss_nil) <|
      pss_one <| ps_ret <| pe_and (pe_callB call_isi (by rfl) B.isi (by decide +kernel) (pa_cons (pv 4) (pa_cons (pe_bltn (v := .ty "tuple") (by rfl) B.tuple (by decide +kernel) rfl) pa_nil))) <| pe_one <|
        pe_callB (cr_all rfl) (by rfl) B.all (by decide +kernel) <| (pa_cons · pa_nil) <| pe_lc (own := [("worth", 5)]) (g := gName 5) (tt := tYes) (te := tCall (spWorthD K) [] E0 (tCons (tVar 5) tNil)) rfl nd (pi_tup (pv 4)) (blkOk_by (N := nIsWire) (sc := defScope sIsWire) (own := [("worth", 5)]) (by decide +kernel))
          (fun _ _ _ _ _ => pg_name (i := 5) nd rfl (.inl rfl)) (fun _ _ _ _ _ => pts_nil) (fun _ _ _ _ _ => pe_call DWX hr (by rfl) DW.mg DW.kp DW.bd .nil pass0 (pa_cons (pv 5) pa_nil)), ?_⟩
    obtain ⟨t, ty, _, _, k3, _⟩ := hd.ty
    refine ⟨_, rfl, _, _, _, _, dT d, rfl, .ty "tuple", ty, kit_ty k3, dT d, rfl, ?_⟩
    cases hd with
    | @tup a xs ds sq al =>
      have hlx : xs.length = ds.length := al.all2.1
      refine iteF ?_
      by_cases hl : ds.length = 3
      · refine ⟨_, rfl, a, _, rfl, .inr sq, rfl, false, ?_, iteF ?_⟩
        · rw [vint_eq, hlx, hl]
          rfl
        obtain ⟨_, hsh⟩ := hsh ds rfl
        match ds, hl, al, q, hsh with
        | [d1, d2, d3], _, al, q, hsh =>
        cases al with
        | @cons v1 vs1 _ _ h1 r =>
        cases r with
        | @cons v2 vs2 _ _ h2 r2 =>
        cases r2 with
        | @cons v3 vs3 _ _ h3 r3 =>
        cases r3
        refine ⟨_, rfl, a, _, rfl, sq, rfl, _, _, rfl, _, _, rfl, _, _, rfl, rfl, ?_⟩
        have q : ∀ H', Same H H' → Q (.bl (fromD d1 0 ((n : Int) - 1) && (fromD d2 0 ((n : Int) - 1) && regsD d3))) H' := q
        refine ⟨_, rfl, _, rfl, _, _, rfl, rfl, v1, d1, 0, _, rfl, h1, fromD d1 0 ((n : Int) - 1), rfl, ?_⟩
        cases f1 : fromD d1 0 ((n : Int) - 1) with
        | false =>
          rw [f1] at q
          exact iteT (q H (Same.refl H))
        | true =>
        refine iteF ?_
        refine ⟨_, rfl, _, rfl, _, _, rfl, rfl, v2, d2, 0, _, rfl, h2, fromD d2 0 ((n : Int) - 1), rfl, ?_⟩
        cases f2 : fromD d2 0 ((n : Int) - 1) with
        | false =>
          rw [f1, f2] at q
          exact iteT (q H (Same.refl H))
        | true =>
        refine iteF ?_
        rw [f1, f2, Bool.true_and, Bool.true_and] at q
        obtain ⟨t3, ty3, _, _, k5, _⟩ := h3.ty
        refine ⟨_, rfl, _, _, _, _, dT d3, rfl, .ty "tuple", ty3, kit_ty k5, dT d3, rfl, ?_⟩
        cases h3 with
        | @tup b ys ws sq3 al3 =>
          have a3 := al3.all2
          have hly : ys.length = ws.length := a3.1
          have hws := hsh ws (by simp)
          refine iteT ?_
          refine ⟨_, rfl, b, rfl, ⟨_, sq3⟩, fun D hD => ?_⟩
          refine lc_tup (K := K) (a := b) (xs := ys) (fun i Hc => Hc D = some (.lst (((ws.take i).map fun d => fromD d 0 96).map V.bl)) ∧ Same H Hc) ⟨upd_same, same_new hD⟩ (fun i Hc _ ⟨_, sm⟩ => (TK.same sm).seq sq3) ?_ ?_
          · rintro i y Hc hy ⟨hc, sm⟩
            obtain ⟨d0, hd0, dx0⟩ := a3.get hy
            have hi : i < ws.length := (List.getElem?_eq_some_iff.mp hd0).1
            refine ⟨rfl, tyes ?_⟩
            refine ⟨_, rfl, y, d0, rfl, dx0.same sm, _, hc, by rw [List.length_map, List.length_map, List.length_take]; exact small1000 (by omega), ?_, same_mut sm hD⟩
            rw [upd_same, List.take_add_one, hd0, List.map_append, List.map_append]
            rfl
          · rintro Hc ⟨hc, sm⟩
            rw [hly, List.take_length] at hc
            refine ⟨D, _, rfl, SqL.of hc, ?_⟩
            have e : (ws.map fun d => fromD d 0 96).all id = regsD (.tuple ws) := by
              rw [List.all_map]
              rfl
            rw [e]
            exact q Hc sm
        | non => exact iteF (q H (Same.refl H))
        | bl b => exact iteF (q H (Same.refl H))
        | int i => exact iteF (q H (Same.refl H))
        | str x => exact iteF (q H (Same.refl H))
        | lst e n a => exact iteF (q H (Same.refl H))
        | dic e => exact iteF (q H (Same.refl H))
      · refine ⟨_, rfl, a, _, rfl, .inr sq, rfl, true, ?_, iteT ?_⟩
        · rw [vint_eq, decide_eq_false (by omega)]
          rfl
        · rw [isWireD_len hl] at q
          exact q H (Same.refl H)
    | non => exact iteT (q H (Same.refl H))
    | bl b => exact iteT (q H (Same.refl H))
    | int i => exact iteT (q H (Same.refl H))
    | str x => exact iteT (q H (Same.refl H))
    | lst e n a => exact iteT (q H (Same.refl H))
    | dic e => exact iteT (q H (Same.refl H))
theorem ok_takenB {f : Addr} {fd : FuncData} (F : Fun K "is_taken" "is_taken" sTaken f fd) : FnOk P w K mg base CX0 1 f fd ["wire", "gates", "come"] (spTakenB K) := by
  refine F.ok scTaken (fun vs H Q E h => ?_) (fun cdv A outer s H vs Q E hr h => ?_)
  · obtain ⟨v, x, lg, lc, gs, seen, rfl, _⟩ := h
    rfl
  · obtain ⟨v, x, lg, lc, gs, seen, rfl, ⟨a, b, rfl, sq1, sq2⟩, ⟨gv, sg, ga⟩, sc, h1, h2, q⟩ := h
    have nd := scTaken.nd
    refine ⟨_, pss_cons (ps_par (i := 3) (j := 4) (by rfl) nd rfl rfl (by decide) rfl rfl (pa_cons (pe_ix ix_tup (pv 0) pe_int (fun _ _ => rfl)) (pa_cons (pe_ix ix_tup (pv 0) pe_int (fun _ _ => rfl)) pa_nil)) (by rfl)) <|
      pss_cons (ps_if (PW.pt (pw_or (pt_cmpR op_eq (pe_ix ix_tup (pe_ix ix_list (pv 1) (pv 3) (fun _ _ => rfl)) pe_int (fun _ _ => rfl)) pe_str (nomark _)) (pw_or1 (pt_cmpR op_eq (pe_ix ix_tup (pe_ix ix_list (pv 1) (pv 4) (fun _ _ => rfl)) pe_int (fun _ _ => rfl)) pe_str (nomark _))))) (pss_one (ps_ret pe_bl)) pss_nil) <|
      pss_one <| ps_ret <| pe_or (pe_cmpR op_ne (pe_ix ix_tup (pe_ix ix_list (pv 1) (pv 4) (fun _ _ => rfl)) pe_int (fun _ _ => rfl)) pe_str (nomark _)) (pe_one (pe_cmpR op_eq (pe_ix ix_list (pv 2) (pv 4) (fun _ _ => rfl)) pe_int (nomark _))), ?_⟩
    have hl : gv.length = gs.length := ga.1
    obtain ⟨vs1, g1, e1, f1, a1, rfl, s1⟩ : ∃ vs1 g1, gv[x.1]? = some vs1 ∧ gs[x.1]? = some g1 ∧ GateV K H vs1 g1 := by
      have e1 : gs[x.1]? = some (gs[x.1]'h1) := List.getElem?_eq_getElem h1
      obtain ⟨y, hy, r⟩ := ga.getR e1
      exact ⟨y, _, hy, e1, r⟩
    obtain ⟨vs2, g2, e2, f2, a2, rfl, s2⟩ : ∃ vs2 g2, gv[x.2.1]? = some vs2 ∧ gs[x.2.1]? = some g2 ∧ GateV K H vs2 g2 := by
      have e1 : gs[x.2.1]? = some (gs[x.2.1]'h2) := List.getElem?_eq_getElem h2
      obtain ⟨y, hy, r⟩ := ga.getR e1
      exact ⟨y, _, hy, e1, r⟩
    have k1 := kindAt_get f1
    have k2 := kindAt_get f2
    have q : Q (.bl (!(decide (kindAt gs x.1 = "out")) && (!(decide (kindAt gs x.2.1 = "in")) && (!(decide (kindAt gs x.2.1 = "out")) || decide (cnt seen x.2.1 = 0))))) H := q
    rw [k1, k2] at q
    have vs_eq : ∀ a b : Str, decide (V.str a = V.str b) = decide (a = b) := fun a b => decide_eq_decide.mpr ⟨fun h => V.str.inj h, fun h => by rw [h]⟩
    refine ⟨_, rfl, a, _, 0, _, rfl, rfl, sq1, atI_nat (j := 0) rfl, _, rfl, a, _, 1, _, rfl, rfl, sq1, atI_nat (j := 1) rfl, _, _, rfl, ?_⟩
    refine ⟨_, rfl, _, rfl, lg, gv, _, _, rfl, rfl, sg, atI_nat e1, a1, _, 0, _, rfl, rfl, s1, atI_nat (j := 0) rfl, rfl, decide (g1.1 = "out"), congrArg V.bl (vs_eq _ _), ?_⟩
    cases c1 : decide (g1.1 = "out") with
    | true =>
      rw [c1] at q
      exact iteT q
    | false =>
    rw [c1] at q
    refine iteF ?_
    refine ⟨_, rfl, _, rfl, lg, gv, _, _, rfl, rfl, sg, atI_nat e2, a2, _, 0, _, rfl, rfl, s2, atI_nat (j := 0) rfl, rfl, decide (g2.1 = "in"), congrArg V.bl (vs_eq _ _), ?_⟩
    cases c2 : decide (g2.1 = "in") with
    | true =>
      rw [c2] at q
      exact iteT q
    | false =>
    rw [c2] at q
    refine iteF ?_
    refine ⟨_, rfl, _, rfl, lg, gv, _, _, rfl, rfl, sg, atI_nat e2, a2, _, 0, _, rfl, rfl, s2, atI_nat (j := 0) rfl, rfl, !decide (g2.1 = "out"), congrArg (fun b => V.bl (!b)) (vs_eq _ _), ?_⟩
    cases c3 : decide (g2.1 = "out") with
    | false =>
      rw [c3] at q
      exact iteT q
    | true =>
      rw [c3] at q
      refine iteF ?_
      have hc : ((cntL gs.length seen).map fun i => V.int (i : Nat))[x.2.1]? = some (.int (cnt seen x.2.1 : Nat)) := by
        rw [List.getElem?_map, cntL_get h2]
        rfl
      refine ⟨_, rfl, _, rfl, lc, _, x.2.1, _, rfl, rfl, sc, atI_nat hc, rfl, ?_⟩
      have e : decide (V.int ((cnt seen x.2.1 : Nat) : Int) = V.int 0) = decide (cnt seen x.2.1 = 0) := by
        rw [vint_eq]
        exact decide_eq_decide.mpr (by omega)
      rw [e]
      exact q
end
end Lag

set_option maxRecDepth 100000
set_option maxHeartbeats 8000000
namespace Lag
open PySem PySem.Spec PyProof.Rows L2
section
variable {P : Program} {w : World} {K : PySem.W.Frag} {mg : Str → Option Value} {base : Heap}
theorem ok_chkWiresX {f fW fT aK aW aF CW fN : Addr} {fd fdW fdT fdN : FuncData} (F : Fun K "check_wires" "check_wires" sChkWires f fd) (B : Bt mg) (C : Cns K mg aK aW aF) (DW : DIsWire P w K mg base fW fdW) (DWX : FnOk P w K mg base CX0 4 fW fdW ["thing", "many_gates"] (spIsWireD K)) (DT : DTaken P w K mg base fT fdT) (DTX : FnOk P w K mg base CX0 1 fT fdT ["wire", "gates", "come"] (spTakenB K))
    (TE : TEx K mg "NoWires" "place" CW fN) (nwI : FnOk P w K mg base CX0 1 fN fdN ["self", "place"] (spXI "place" CW)) (bT : Binds K fdN ["self", "place"] []) : FnOk P w K mg base (L2.CX P w) 5 f fd ["gates", "wires"] (spChkWiresX K CW) := by
  refine F.okX scChkWires (fun vs H Q E h => ?_) (fun cdv A outer s H vs Q E hr h => ?_)
  · obtain ⟨lg, v, gs, d, p, rfl, _⟩ := h
    rfl
  · obtain ⟨lg, v, gs, d, p, rfl, RGs, hgl, hd, hsh, hwf, q⟩ := h
    have nd := scChkWires.nd
    have hr1 : Room 1 _ := hr.mono (by decide)
    refine ⟨_, pss_cons (ps_if (pt_not (pt_val (pe_callB call_isi (by rfl) B.isi (by decide +kernel) (pa_cons (pv 1) (pa_cons (pe_bltn (v := .ty "list") (by rfl) B.list (by decide +kernel) rfl) pa_nil))))) (pss_one (ps_raise rfl (takes_of rfl rfl rfl rfl) (pmk_oex TE.T TE.iC TE.tI nwI (hr.mono (by decide)) bT .nil pass0 (by rfl) TE.g (pa_cons (pe_un un_neg pe_int) pa_nil)))) pss_nil) <|
      pss_cons (ps_set (i := 2) nd rfl (Or.inl rfl) (pe_op op_rep (pe_lst (pa_cons pe_int pa_nil)) (pe_callB call_len_seq (by rfl) B.len PySem.boot_len (pa_cons (pv 0) pa_nil)))) <|
      pss_cons (ps_for (passes_of rfl) rfl (pi_enum (by rfl) B.enum (pa_cons (pv 1) pa_nil)) (pg_tup rfl (pgs_cons (pg_name (i := 3) nd rfl (Or.inl rfl)) (pgs_cons (pg_name (i := 4) nd rfl (Or.inl rfl)) pgs_nil))) <|
        pss_cons (ps_if (PW.pt (pw_or (pt_not (pt_val (pe_call DWX (hr.mono (by decide)) (by rfl) DW.mg DW.kp DW.bd .nil pass0 (pa_cons (pv 4) (pa_cons (pe_callB call_len_seq (by rfl) B.len PySem.boot_len (pa_cons (pv 0) pa_nil)) pa_nil)))))
            (pw_or1 (pt_not (pt_val (pe_call DTX hr1 (by rfl) DT.mg DT.kp DT.bd .nil pass0 (pa_cons (pv 4) (pa_cons (pv 0) (pa_cons (pv 2) pa_nil))))))))) (pss_one (ps_raise rfl (takes_of rfl rfl rfl rfl) (pmk_oex TE.T TE.iC TE.tI nwI (hr.mono (by decide)) bT .nil pass0 (by rfl) TE.g (pa_cons (pv 3) pa_nil)))) pss_nil) <|
        pss_one <| ps_augS (pv 2) (pe_ix ix_tup (pv 4) pe_int (fun _ _ => rfl)) get_list pe_int ip_add set_list) <|
      pss_one <| ps_for (passes_of rfl) rfl (pi_zip (by rfl) B.zip (pa_cons (pv 0) (pa_cons (pv 2) pa_nil))) (pg_tup rfl (pgs_cons (pg_name (i := 5) nd rfl (Or.inl rfl)) (pgs_cons (pg_name (i := 6) nd rfl (Or.inl rfl)) pgs_nil))) <|
        pss_one <| ps_if (PW.pt (pw_and (pt_cmpR op_in_seq (pe_ix ix_tup (pv 5) pe_int (fun _ _ => rfl)) (pe_glob (v := .ref aF) (by rfl) C.mF rfl) (by rfl)) (pw_and1 (pt_cmpR op_eq (pv 6) pe_int (nomark _))))) (pss_one (ps_raise rfl (takes_of rfl rfl rfl rfl) (pmk_oex TE.T TE.iC TE.tI nwI (hr.mono (by decide)) bT .nil pass0 (by rfl) TE.g (pa_cons (pe_callB call_len_seq (by rfl) B.len PySem.boot_len (pa_cons (pv 1) pa_nil)) pa_nil)))) pss_nil, ?_⟩
    obtain ⟨gv, sg, ga⟩ := id RGs
    have hlg : gv.length = gs.length := ga.1
    obtain ⟨t, ty, _, _, _, k4⟩ := hd.ty
    refine ⟨_, rfl, _, _, _, _, dL d, rfl, .ty "list", ty, kit_ty k4, dL d, rfl, ?_⟩
    have bad : dL d = false → p = -1 := fun e => by
      cases d with
      | list ds => cases e
      | _ => exact (Option.some.inj hwf).symm
    cases hb : dL d with
    | false =>
      have hp := bad hb
      subst hp
      refine iteT ?_
      refine ⟨_, rfl, (by show 1 ≤ 1000; decide), fun a ha => ⟨a, _, rfl, upd_same, fun dx hdx ne => ⟨rfl, dx, _, upd_same, by rw [upd_ne ne, upd_same], ?_, ?_⟩⟩⟩
      · rw [upd_ne ne] at hdx
        exact hdx
      · rw [mk_heap ha ne]
        refine q dx _ (Same.refl H) ?_
        rw [upd_ne ne] at hdx
        exact hdx
    | true =>
    obtain ⟨ds, rfl⟩ : ∃ ds, d = .list ds := by
      cases d with
      | list ds => exact ⟨ds, rfl⟩
      | _ => cases hb
    cases hd with
    | @lst lw wv _ ew _ al =>
    have wa := al.all2
    have hlw : wv.length = ds.length := wa.1
    have hwf : wfL gs [] ds = some p := hwf
    obtain ⟨hdl, hsh⟩ := hsh ds rfl
    refine iteF ?_
    refine ⟨(by show 1 ≤ sizeLine; decide), fun l0 hl0 => ?_⟩
    refine ⟨_, rfl, lg, gv, rfl, .inl ((same_new hl0).seq sg), ?_⟩
    refine ⟨l0, _, _, rfl, rfl, upd_same, by omega, by omega, ?_, fun lc hlc => ?_⟩
    · show 1 * _ ≤ sizeLine
      have : 1 * ((gv.length : Int)).toNat ≤ 1000 := by omega
      exact Nat.le_of_lt (small1000 this)
    have sm0 : Same H (upd H l0 (.lst [.int 0])) := same_new hl0
    have hlc0 : H lc = none := sm0.free hlc
    have e0 : (List.replicate ((gv.length : Int)).toNat [V.int 0]).flatten = (cntL gs.length []).map fun i => V.int (i : Nat) := by
      rw [cntL_nil, List.map_replicate, ← hlg, Int.toNat_natCast]
      generalize gv.length = n
      induction n with
      | zero => rfl
      | succ n ih =>
        rw [List.replicate_succ, List.flatten_cons, ih, List.replicate_succ]
        rfl
    rw [e0]
    refine ⟨_, rfl, lw, wv, rfl, SqL.of ((sm0.trans (same_new hlc)) _ _ ew), for_it (walk_enum (K := K) (a := lw) (xs := wv)) (fun i σ H2 => ∃ (s3 s4 : Option V) (seen : List Wr), σ = [some (.ref lg), some (.ref lw), some (.ref lc), s3, s4, none, none] ∧ seen.length = i ∧ wfL gs seen (ds.drop i) = some p ∧
        H2 lc = some (.lst ((cntL gs.length seen).map fun i => V.int (i : Nat))) ∧ Same H H2)
      ⟨_, _, [], rfl, rfl, hwf, upd_same, sm0.trans (same_new hlc)⟩ (fun i σ H2 _ ⟨_, _, _, _, _, _, _, sm⟩ => SqL.of (sm _ _ ew)) ?_ ?_⟩
    · rintro i v σ H2 H2' hi ⟨s3, s4, seen, rfl, hsl, hf, hc, sm⟩ ⟨T, x1, y, rfl, hT, rfl, ex, ey⟩
      cases ex
      obtain ⟨d1, hd1, dx1⟩ := wa.get ey
      have hxi : i < ds.length := (List.getElem?_eq_some_iff.mp hd1).1
      have hdr : ds.drop i = d1 :: ds.drop (i + 1) := by
        obtain ⟨h1, h2⟩ := List.getElem?_eq_some_iff.mp hd1
        rw [← h2]
        exact List.drop_eq_getElem_cons h1
      rw [hdr] at hf
      unfold wfL at hf
      have smT : Same H2 (upd H2 T (.tup [.int (i : Nat), y])) := same_new hT
      have sm2 := sm.trans smT
      refine ⟨T, _, rfl, .inl (.inl upd_same), rfl, _, _, rfl, _, _, rfl, rfl, ?_⟩
      have raise : ((i : Nat) : Int) = p → ∀ {H3 : Hp}, Same H H3 → ∀ {a dx : Addr}, H3 a = none → dx ≠ a → H3 dx = none → E (.ref CW) (some dx) (upd H3 dx (.xd [(("place" : Str), .int (i : Nat))])) := fun e H3 s3 a dx _ _ hdx => by
        have := q dx H3 s3 hdx
        rw [← e] at this
        exact this
      refine ⟨_, rfl, _, rfl, lg, gv, rfl, .inl (sm2.seq sg), y, d1, gv.length, rfl, (dx1.same sm2), (fun es e => hsh d1 (List.mem_of_getElem? hd1) es e), fun H3 sm3 => ?_⟩
      have sm4 := sm2.trans sm3
      have hc3 := sm3 _ _ (smT _ _ hc)
      rw [hlg]
      refine ⟨isWireD gs.length d1, rfl, ?_⟩
      cases hw1 : isWireD gs.length d1 with
      | false =>
        rw [hw1, if_neg (by decide), hsl] at hf
        refine iteT ?_
        refine ⟨_, rfl, (by show 1 ≤ 1000; decide), fun a ha => ⟨a, _, rfl, upd_same, fun dx hdx ne => ⟨rfl, dx, _, upd_same, by rw [upd_ne ne, upd_same], ?_, ?_⟩⟩⟩
        · rw [upd_ne ne] at hdx
          exact hdx
        · rw [mk_heap ha ne]
          rw [upd_ne ne] at hdx
          exact raise (Option.some.inj hf) sm4 ha ne hdx
      | true =>
        rw [hw1, if_pos rfl] at hf
        refine iteF ?_
        obtain ⟨wx, x1, x2, x3⟩ := wire_of (dx1.same sm4) hw1
        refine ⟨_, rfl, _, rfl, _, rfl, y, asWr d1, lg, lc, gs, seen, rfl, wx, RGs.same sm4, SqL.of hc3, x1, x2, takenB gs seen (asWr d1), rfl, ?_⟩
        cases ht : takenB gs seen (asWr d1) with
        | false =>
          rw [ht, if_neg (by decide), hsl] at hf
          refine iteT ?_
          refine ⟨_, rfl, (by show 1 ≤ 1000; decide), fun a ha => ⟨a, _, rfl, upd_same, fun dx hdx ne => ⟨rfl, dx, _, upd_same, by rw [upd_ne ne, upd_same], ?_, ?_⟩⟩⟩
          · rw [upd_ne ne] at hdx
            exact hdx
          · rw [mk_heap ha ne]
            rw [upd_ne ne] at hdx
            exact raise (Option.some.inj hf) sm4 ha ne hdx
        | true =>
          rw [ht, if_pos rfl] at hf
          refine iteF ?_
          obtain ⟨a, b, rfl, sq1, sq2⟩ := wx
          have hlen : (asWr d1).2.1 < (cntL gs.length seen).length := by rw [cntL_len]; exact x2
          refine ⟨_, rfl, _, rfl, a, _, 1, _, rfl, rfl, sq1, atI_nat (j := 1) rfl, lc, _, (asWr d1).2.1, .int (cnt seen (asWr d1).2.1 : Nat), rfl, rfl, SqL.of hc3, by rw [List.getElem?_map, cntL_get x2]; rfl, _, _, rfl, rfl, lc, _, _, (asWr d1).2.1, rfl, rfl, hc3, Evl.ixN_nat (by rw [List.length_map]; exact hlen), ?_⟩
          refine ⟨_, _, seen ++ [asWr d1], rfl, by rw [List.length_append, hsl]; rfl, hf, ?_, same_mut sm4 hlc0⟩
          rw [upd_same, ← cntL_app x2, ← map_set']
          rfl
    · rintro σ H2 ⟨s3, s4, seen, rfl, hsl, hf, hc, sm⟩
      rw [hlw, List.drop_length] at hf
      unfold wfL at hf
      have hlk : lacksB gs seen = true := by
        cases hz : lacksB gs seen with
        | true => rfl
        | false =>
          rw [hz, if_neg (by decide)] at hf
          cases hf
      rw [hlk, if_pos rfl, hsl, hlw] at hf
      have hp : ((ds.length : Nat) : Int) = p := Option.some.inj hf
      obtain ⟨e0, he0, hk0, hc0⟩ : ∃ e, e < gs.length ∧ (kindAt gs e = "out" ∨ kindAt gs e = "first") ∧ cnt seen e = 0 := by
        unfold lacksB at hlk
        rw [List.any_eq_true] at hlk
        obtain ⟨e, h1, h2⟩ := hlk
        rw [Bool.and_eq_true, Bool.or_eq_true] at h2
        exact ⟨e, List.mem_range.mp h1, h2.1.imp of_decide_eq_true of_decide_eq_true, of_decide_eq_true h2.2⟩
      refine ⟨_, rfl, _, rfl, lg, lc, gv, _, rfl, sm.seq sg, SqL.of hc, RZ.for_zipL (K := K) (a := lg) (b := lc) (xs := gv) (by rw [List.length_map, cntL_len]; exact hlg) (fun i σ H3 => i ≤ e0 ∧ ∃ s5 s6 : Option V, σ = [some (.ref lg), some (.ref lw), some (.ref lc), s3, s4, s5, s6] ∧ Same H2 H3)
        ⟨Nat.zero_le _, _, _, rfl, Same.refl H2⟩ (fun i σ H3 ⟨_, _, _, _, sm3⟩ => ⟨(sm.trans sm3).seq sg, SqL.of (sm3 _ _ hc)⟩) ?_ ?_⟩
      · rintro i x y T σ H3 hx hy ⟨hie, s5, s6, rfl, sm3⟩ hT
        obtain ⟨g, hg, a, rfl, sq⟩ := ga.get hx
        have hgi : i < gs.length := (List.getElem?_eq_some_iff.mp hg).1
        rw [List.getElem?_map, cntL_get hgi] at hy
        cases hy
        have sm4 : Same H (upd H3 T (.tup [.ref a, .int (cnt seen i : Nat)])) := (sm.trans sm3).trans (same_new hT)
        have sm5 : Same H2 (upd H3 T (.tup [.ref a, .int (cnt seen i : Nat)])) := sm3.trans (same_new hT)
        refine ⟨T, _, rfl, .inl (.inl upd_same), rfl, _, _, rfl, _, _, rfl, rfl, ?_⟩
        generalize upd H3 T (.tup [.ref a, .int (cnt seen i : Nat)]) = H4 at sm4 sm5
        have next : (i = e0 → False) → i + 1 ≤ e0 := fun h => by
          by_cases z : i = e0
          · exact absurd z (fun z => h z)
          · omega
        refine ⟨_, rfl, a, _, 0, _, rfl, rfl, (TK.same sm4).seq sq, atI_nat (j := 0) rfl, aF, _, rfl, .inr (C.sF _), rfl, rfl, _, rfl, ite2 (fun e => ?_) (fun e => ?_)⟩
        · refine ⟨_, rfl, rfl, decide (cnt seen i = 0), ?_, ?_⟩
          · show V.bl (decide (V.int ((cnt seen i : Nat) : Int) = V.int 0)) = _
            rw [vint_eq]
            exact congrArg V.bl (decide_eq_decide.mpr (by omega))
          · cases hz : decide (cnt seen i = 0) with
            | true =>
              refine iteT ?_
              refine ⟨_, rfl, lw, wv, rfl, .inl (SqL.of (sm4 _ _ ew)), (by show 1 ≤ 1000; decide), fun a ha => ⟨a, _, rfl, upd_same, fun dx hdx ne => ⟨rfl, dx, _, upd_same, by rw [upd_ne ne, upd_same], ?_, ?_⟩⟩⟩
              · rw [upd_ne ne] at hdx
                exact hdx
              · rw [mk_heap ha ne]
                rw [upd_ne ne] at hdx
                have := q dx H4 sm4 hdx
                rw [← hp, ← hlw] at this
                exact this
            | false =>
              refine iteF ⟨next fun z => ?_, _, _, rfl, sm5⟩
              rw [z, hc0] at hz
              cases hz
        · refine ⟨next fun z => e ?_, _, _, rfl, sm5⟩
          have hk := kindAt_get hg
          rw [z] at hk
          rw [hk] at hk0
          show inV (V.str g.1) [V.str "out", V.str "first"] = true
          rcases hk0 with h | h <;> rw [h] <;> decide +kernel
      · rintro σ H3 ⟨hie, _⟩
        exfalso
        omega
theorem ok_initX {f fG fW C CG CW : Addr} {fd fdG fdW : FuncData} (F : Fun K "__init__" "Net.__init__" sInit f fd) (DG : DChkGates P w K mg base fG fdG) (DGX : FnOk P w K mg base (L2.CX P w) 4 fG fdG ["gates"] (spChkGatesX K CG)) (DW : DChkWires P w K mg base fW fdW) (DWX : FnOk P w K mg base (L2.CX P w) 5 fW fdW ["gates", "wires"] (spChkWiresX K CW)) :
    FnOk P w K mg base (L2.CX P w) 6 f fd ["self", "gates", "wires"] (spInitX K C CG CW) := by
  refine F.okX scInit (fun vs H Q E h => ?_) (fun cdv A outer s H vs Q E hr h => ?_)
  · obtain ⟨p, vg, vw, G, W, rfl, _⟩ := h
    rfl
  · obtain ⟨p, vg, vw, G, W, rfl, dg, dw, hgl, hsh, h⟩ := h
    have nd := scInit.nd
    refine ⟨_, pss_cons (ps_expr (pe_callS (fn_or (fn_cx0 DG.ok) DGX) (hr.mono (by decide)) (by rfl) DG.mg DG.kp DG.bd (fun σ => passAt (takes_of rfl rfl rfl rfl) σ) (pa_cons (pv 1) pa_nil))) <|
      pss_cons (ps_expr (pe_callS DWX (hr.mono (by decide)) (by rfl) DW.mg DW.kp DW.bd (fun σ => passAt (takes_of rfl rfl rfl rfl) σ) (pa_cons (pv 1) (pa_cons (pv 2) pa_nil)))) <|
      pss_cons ps_never <| pss_cons ps_never <| pss_one ps_never, ?_⟩
    rcases h with ⟨bad, q⟩ | ⟨good, pl, hwf, q⟩
    · exact ⟨_, rfl, .inr ⟨vg, G, rfl, dg, bad, fun H' s => q H' s⟩⟩
    · cases G with
      | list gds =>
        cases dg with
        | @lst lg gv _ eg _ al =>
        have good : (!gds.isEmpty && gds.all isGateD) = true := good
        rw [Bool.and_eq_true] at good
        obtain ⟨g1, g2⟩ := good
        obtain ⟨ga, gok⟩ := gates_of al g2
        have RGs : RG K H lg (gds.map asGt) := ⟨gv, SqL.of eg, ga⟩
        refine ⟨_, rfl, .inl ⟨lg, gds.map asGt, rfl, RGs, ?_, gok, fun H1 s1 => ?_⟩⟩
        · intro z
          have : gds = [] := List.map_eq_nil_iff.mp z
          rw [this] at g1
          cases g1
        exact ⟨_, rfl, _, rfl, lg, vw, gds.map asGt, W, pl, rfl, RGs.same s1, hgl, dw.same s1, hsh, hwf, fun dx H' s hd => q dx H' (s1.trans s) hd⟩
      | _ => cases good
end
end Lag

set_option maxRecDepth 100000
set_option maxHeartbeats 4000000
namespace Lag
open PySem PySem.Spec PyProof.Rows L2
/-! ### rings of wires without registers: the mathematics -/
abbrev Ranked (ws : List Wr) : Prop := ∃ ρ : Nat → Nat, ∀ x ∈ ws, x.2.2 = [] → ρ x.1 < ρ x.2.1
def stO (ws : List Wr) (p : Nat) : Nat := ((ws[p]?).getD (0, 0, [])).1
def enO (ws : List Wr) (p : Nat) : Nat := ((ws[p]?).getD (0, 0, [])).2.1
def BareAt (ws : List Wr) (p : Nat) : Prop := ∃ x, ws[p]? = some x ∧ x.2.2 = []
structure IsRing (ws : List Wr) (r : List Nat) : Prop where
  ne : r ≠ []
  ok : ∀ p ∈ r, BareAt ws p
  nd : (r.map (stO ws)).Nodup
  eq : r.map (enO ws) = (r.map (stO ws)).drop 1 ++ (r.map (stO ws)).take 1
/-- a way of wires without registers, of l + 1 wires -/
inductive Pth (ws : List Wr) : Nat → Nat → Nat → Prop
  | one {a b : Nat} {x : Wr} : x ∈ ws → x.1 = a → x.2.1 = b → x.2.2 = [] → Pth ws 0 a b
  | more {l a b c : Nat} {x : Wr} : Pth ws l a b → x ∈ ws → x.1 = b → x.2.1 = c → x.2.2 = [] → Pth ws (l + 1) a c
theorem Pth.rank {ws : List Wr} {ρ : Nat → Nat} (h : ∀ x ∈ ws, x.2.2 = [] → ρ x.1 < ρ x.2.1) {l a b : Nat} (p : Pth ws l a b) : ρ a < ρ b := by
  induction p with
  | one m e1 e2 e3 =>
    have := h _ m e3
    rw [e1, e2] at this
    exact this
  | more _ m e1 e2 e3 ih =>
    have := h _ m e3
    rw [e1, e2] at this
    exact Nat.lt_trans ih this
/-- what the law comes to from k -/
def come0 (ws : List Wr) (k : Nat) : List Nat := (ws.filter fun x => x.1 == k && x.2.2.isEmpty).map fun x => x.2.1
def comeS (ws : List Wr) (c : List Nat) : List Nat := c ++ (ws.filter fun x => c.contains x.1 && (x.2.2.isEmpty && !c.contains x.2.1)).map fun x => x.2.1
def comeN (ws : List Wr) (k : Nat) : Nat → List Nat
  | 0 => come0 ws k
  | t + 1 => comeS ws (comeN ws k t)
theorem come_sound {ws : List Wr} {k : Nat} : ∀ {t b : Nat}, b ∈ comeN ws k t → ∃ l, Pth ws l k b
  | 0, b, h => by
    obtain ⟨x, hx, rfl⟩ := List.mem_map.mp h
    rw [List.mem_filter, Bool.and_eq_true] at hx
    exact ⟨0, .one hx.1 (eq_of_beq hx.2.1) rfl (List.isEmpty_iff.mp hx.2.2)⟩
  | t + 1, b, h => by
    rcases List.mem_append.mp h with h | h
    · exact come_sound h
    · obtain ⟨x, hx, rfl⟩ := List.mem_map.mp h
      rw [List.mem_filter, Bool.and_eq_true, Bool.and_eq_true] at hx
      obtain ⟨l, p⟩ := come_sound (t := t) (List.contains_iff_mem.mp hx.2.1)
      exact ⟨l + 1, .more p hx.1 rfl rfl (List.isEmpty_iff.mp hx.2.2.1)⟩
theorem come_mono {ws : List Wr} {k b : Nat} {t : Nat} (h : b ∈ comeN ws k t) : ∀ {t' : Nat}, t ≤ t' → b ∈ comeN ws k t' := by
  intro t' le
  induction le with
  | refl => exact h
  | step _ ih => exact List.mem_append_left _ ih
theorem come_all {ws : List Wr} {k : Nat} {l b : Nat} (p : Pth ws l k b) : b ∈ comeN ws k l := by
  induction p with
  | one m e1 e2 e3 =>
    refine List.mem_map.mpr ⟨_, List.mem_filter.mpr ⟨m, ?_⟩, e2⟩
    rw [Bool.and_eq_true]
    exact ⟨beq_iff_eq.mpr e1, List.isEmpty_iff.mpr e3⟩
  | @more l a b c x p m e1 e2 e3 ih =>
    by_cases hc : c ∈ comeN ws a l
    · exact List.mem_append_left _ hc
    · refine List.mem_append_right _ (List.mem_map.mpr ⟨x, List.mem_filter.mpr ⟨m, ?_⟩, e2⟩)
      rw [Bool.and_eq_true, Bool.and_eq_true]
      refine ⟨?_, List.isEmpty_iff.mpr e3, ?_⟩
      · rw [e1]
        exact List.contains_iff_mem.mpr ih
      · rw [e2]
        have : (comeN ws a l).contains c = false := by
          cases z : (comeN ws a l).contains c with
          | true => exact absurd (List.contains_iff_mem.mp z) hc
          | false => rfl
        rw [this]
        rfl
theorem come_len {ws : List Wr} {k : Nat} : ∀ t, (comeN ws k t).length ≤ ws.length * (t + 1)
  | 0 => by
    show (come0 ws k).length ≤ _
    unfold come0
    rw [List.length_map]
    have := List.length_filter_le (fun x : Wr => x.1 == k && x.2.2.isEmpty) ws
    omega
  | t + 1 => by
    show (comeS ws (comeN ws k t)).length ≤ _
    unfold comeS
    rw [List.length_append, List.length_map, Nat.mul_succ]
    have := List.length_filter_le (fun x : Wr => (comeN ws k t).contains x.1 && (x.2.2.isEmpty && !(comeN ws k t).contains x.2.1)) ws
    have := come_len (ws := ws) (k := k) t
    omega
def hasRing (ws : List Wr) (n : Nat) : Bool := (List.range n).any fun k => (comeN ws k n).contains k
theorem ranked_none {ws : List Wr} {n : Nat} (h : Ranked ws) : hasRing ws n = false := by
  obtain ⟨ρ, hρ⟩ := h
  unfold hasRing
  rw [List.any_eq_false]
  intro k _ z
  obtain ⟨l, p⟩ := come_sound (List.contains_iff_mem.mp z)
  exact Nat.lt_irrefl _ (p.rank hρ)
theorem IsRing.len {ws : List Wr} {r : List Nat} {n : Nat} (h : IsRing ws r) (hw : ∀ x ∈ ws, x.1 < n ∧ x.2.1 < n) : r.length ≤ n := by
  have h2 := List.Nodup.length_le_of_subset h.nd (l₂ := List.range n) (fun a ha => by
    obtain ⟨p, hp, rfl⟩ := List.mem_map.mp ha
    obtain ⟨x, hx, _⟩ := h.ok p hp
    unfold stO
    rw [hx]
    exact List.mem_range.mpr (hw x (List.mem_of_getElem? hx)).1)
  rw [List.length_map, List.length_range] at h2
  exact h2
theorem IsRing.path {ws : List Wr} {r : List Nat} (h : IsRing ws r) : ∀ (j : Nat) (p0 p : Nat), r[0]? = some p0 → r[j]? = some p → Pth ws j (stO ws p0) (enO ws p)
  | 0, p0, p, e0, e => by
    rw [e0] at e
    cases e
    obtain ⟨x, hx, hb⟩ := h.ok p0 (List.mem_of_getElem? e0)
    refine .one (List.mem_of_getElem? hx) ?_ ?_ hb <;> (first | unfold stO | unfold enO) <;> rw [hx] <;> rfl
  | j + 1, p0, p, e0, e => by
    have hl : j + 1 < r.length := (List.getElem?_eq_some_iff.mp e).1
    have e1 : r[j]? = some (r[j]'(by omega)) := List.getElem?_eq_getElem (by omega)
    have ih := h.path j p0 _ e0 e1
    obtain ⟨x, hx, hb⟩ := h.ok p (List.mem_of_getElem? e)
    refine .more ih (List.mem_of_getElem? hx) ?_ ?_ hb
    · have a1 : (r.map (enO ws))[j]? = some (enO ws (r[j]'(by omega))) := by
        rw [List.getElem?_map, e1]
        rfl
      rw [h.eq, List.getElem?_append_left (by rw [List.length_drop, List.length_map]; omega), List.getElem?_drop, List.getElem?_map, Nat.add_comm, e] at a1
      have := Option.some.inj a1
      rw [← this]
      unfold stO
      rw [hx]
      rfl
    · unfold enO
      rw [hx]
      rfl
theorem IsRing.has {ws : List Wr} {r : List Nat} {n : Nat} (h : IsRing ws r) (hw : ∀ x ∈ ws, x.1 < n ∧ x.2.1 < n) : hasRing ws n = true := by
  have hl := h.len hw
  have hp : 0 < r.length := List.length_pos_iff.mpr h.ne
  have e0 : r[0]? = some (r[0]'hp) := List.getElem?_eq_getElem hp
  have e1 : r[r.length - 1]? = some (r[r.length - 1]'(by omega)) := List.getElem?_eq_getElem (by omega)
  have p := h.path _ _ _ e0 e1
  have back : enO ws (r[r.length - 1]'(by omega)) = stO ws (r[0]'hp) := by
    have a1 : (r.map (enO ws))[r.length - 1]? = some (enO ws (r[r.length - 1]'(by omega))) := by
      rw [List.getElem?_map, e1]
      rfl
    rw [h.eq, List.getElem?_append_right (by rw [List.length_drop, List.length_map]; omega), List.length_drop, List.length_map, Nat.sub_self, List.getElem?_take_of_lt (by decide), List.getElem?_map, e0] at a1
    exact (Option.some.inj a1).symm
  rw [back] at p
  unfold hasRing
  rw [List.any_eq_true]
  obtain ⟨x, hx, _⟩ := h.ok _ (List.mem_of_getElem? e0)
  refine ⟨stO ws (r[0]'hp), List.mem_range.mpr ?_, List.contains_iff_mem.mpr (come_mono (come_all p) (by omega))⟩
  unfold stO
  rw [hx]
  exact (hw x (List.mem_of_getElem? hx)).1
/-! ### the walk back -/
structure Wk (ws : List Wr) (n : Nat) (es path : List Nat) (cur : Nat) : Prop where
  nd : es.Nodup
  lt : ∀ e ∈ es, e < n
  clt : cur < n
  en : path.map (enO ws) = es
  st : path.map (stO ws) = (es ++ [cur]).drop 1
  ok : ∀ p ∈ path, BareAt ws p
theorem Wk.len {ws : List Wr} {n : Nat} {es path : List Nat} {cur : Nat} (h : Wk ws n es path cur) : path.length = es.length := by
  rw [← h.en, List.length_map]
theorem Wk.le {ws : List Wr} {n : Nat} {es path : List Nat} {cur : Nat} (h : Wk ws n es path cur) : es.length ≤ n := by
  have h2 := List.Nodup.length_le_of_subset h.nd (l₂ := List.range n) (fun a ha => List.mem_range.mpr (h.lt a ha))
  rw [List.length_range] at h2
  exact h2
theorem Wk.step {ws : List Wr} {n : Nat} {es path : List Nat} {cur p s : Nat} (h : Wk ws n es path cur) (hn : cur ∉ es) (hp : ws[p]? = some (s, cur, [])) (hs : s < n) : Wk ws n (es ++ [cur]) (path ++ [p]) s := by
  refine ⟨?_, ?_, hs, ?_, ?_, ?_⟩
  · rw [List.nodup_append]
    refine ⟨h.nd, by simp, fun a ha c hc => ?_⟩
    simp at hc
    subst hc
    intro z
    exact hn (by rw [← z]; exact ha)
  · intro e he
    rcases List.mem_append.mp he with he | he
    · exact h.lt e he
    · simp at he
      subst he
      exact h.clt
  · rw [List.map_append, h.en]
    unfold enO
    simp [hp]
  · rw [List.map_append, h.st, List.drop_append_of_le_length (by simp : 1 ≤ (es ++ [cur]).length)]
    unfold stO
    simp [hp]
  · intro q hq
    rcases List.mem_append.mp hq with hq | hq
    · exact h.ok q hq
    · simp at hq
      subst hq
      exact ⟨_, hp, rfl⟩
theorem Wk.ring {ws : List Wr} {n : Nat} {es path : List Nat} {cur j : Nat} (h : Wk ws n es path cur) (hj : es[j]? = some cur) : IsRing ws (path.drop j).reverse := by
  obtain ⟨hjl, hje⟩ := List.getElem?_eq_some_iff.mp hj
  have hd : es.drop j = cur :: es.drop (j + 1) := by
    rw [List.drop_eq_getElem_cons hjl, hje]
  have e1 : (path.drop j).map (enO ws) = cur :: es.drop (j + 1) := by
    rw [List.map_drop, h.en, hd]
  have e2 : (path.drop j).map (stO ws) = es.drop (j + 1) ++ [cur] := by
    rw [List.map_drop, h.st, List.drop_drop, List.drop_append_of_le_length (by omega), Nat.add_comm]
  have nd2 : (cur :: es.drop (j + 1)).Nodup := by
    rw [← hd]
    exact h.nd.sublist (List.drop_sublist _ _)
  refine ⟨?_, fun p hp => h.ok p (List.mem_of_mem_drop (List.mem_reverse.mp hp)), ?_, ?_⟩
  · intro z
    have : path.drop j = [] := by simpa using z
    rw [this] at e1
    cases e1
  · rw [List.map_reverse, e2]
    exact (List.reverse_perm _).nodup_iff.mpr ((List.perm_append_comm (l₁ := [cur]) (l₂ := es.drop (j + 1))).nodup_iff.mp nd2)
  · rw [List.map_reverse, List.map_reverse, e1, e2]
    simp
/-- what is left out has a wire from what is left out -/
theorem Ord.back {n : Nat} {ws : List Wr} {ord : List Nat} (h : Ord n ws ord) {e : Nat} (he : e < n) (hn : e ∉ ord) : ∃ x ∈ ws, x.2.2 = [] ∧ x.2.1 = e ∧ x.1 ∉ ord := by
  have h1 : ¬ mis (bare ws) (ord.take ord.length) e = 0 := fun z => hn ((h.iff e he).mpr z)
  rw [List.take_length] at h1
  unfold mis at h1
  rw [List.countP_eq_zero] at h1
  have h2 : ∃ b ∈ bare ws, b.2 = e ∧ b.1 ∉ ord := by
    refine Classical.byContradiction fun z => h1 fun b hb hh => z ⟨b, hb, ?_⟩
    rw [Bool.and_eq_true] at hh
    refine ⟨eq_of_beq hh.1, fun m => ?_⟩
    have := hh.2
    rw [List.contains_iff_mem.mpr m] at this
    cases this
  obtain ⟨b, hb, rfl, hno⟩ := h2
  obtain ⟨x, hx, rfl⟩ := List.mem_map.mp hb
  rw [List.mem_filter] at hx
  exact ⟨x, hx.1, List.isEmpty_iff.mp hx.2, rfl, hno⟩
theorem Ord.le {n : Nat} {ws : List Wr} {ord : List Nat} (h : Ord n ws ord) : ord.length ≤ n := by
  have h2 := List.Nodup.length_le_of_subset h.nd (l₂ := List.range n) (fun a ha => List.mem_range.mpr (h.lt a ha))
  rw [List.length_range] at h2
  exact h2
theorem Ord.all {n : Nat} {ws : List Wr} {ord : List Nat} (h : Ord n ws ord) (hl : ord.length = n) : ∀ e, e < n → e ∈ ord := by
  intro e he
  refine Classical.byContradiction fun z => ?_
  have nd : (e :: ord).Nodup := List.nodup_cons.mpr ⟨z, h.nd⟩
  have h2 := List.Nodup.length_le_of_subset nd (l₂ := List.range n) (fun a ha => by
    rcases List.mem_cons.mp ha with rfl | ha
    · exact List.mem_range.mpr he
    · exact List.mem_range.mpr (h.lt a ha))
  rw [List.length_range, List.length_cons] at h2
  omega
theorem Ord.ranked {n : Nat} {ws : List Wr} {ord : List Nat} (h : Ord n ws ord) (hw : ∀ x ∈ ws, x.1 < n ∧ x.2.1 < n) (hl : ord.length = n) : Ranked ws := by
  refine ⟨fun e => ord.idxOf e, fun x hx hb => ?_⟩
  have m := h.all hl _ (hw x hx).2
  have hj : ord.idxOf x.2.1 < ord.length := List.idxOf_lt_length_iff.mpr m
  have e1 : ord[ord.idxOf x.2.1]? = some x.2.1 := by
    rw [List.getElem?_eq_getElem hj, List.getElem_idxOf hj]
  have t := h.top _ _ e1 (x.1, x.2.1) (List.mem_map.mpr ⟨x, List.mem_filter.mpr ⟨hx, List.isEmpty_iff.mpr hb⟩, rfl⟩) rfl
  obtain ⟨i, hi⟩ := List.getElem?_of_mem t
  have hi1 : i < ord.idxOf x.2.1 := by
    have := (List.getElem?_eq_some_iff.mp hi).1
    rw [List.length_take] at this
    omega
  rw [List.getElem?_take_of_lt hi1] at hi
  have h3 := (List.getElem?_eq_some_iff.mp hi).1
  have h4 : ord.idxOf x.1 = i := by
    have m1 : x.1 ∈ ord := List.mem_of_getElem? hi
    have h5 : ord.idxOf x.1 < ord.length := List.idxOf_lt_length_iff.mpr m1
    exact nd_ix h.nd (by rw [List.getElem?_eq_getElem h5, List.getElem_idxOf h5]) hi
  show ord.idxOf x.1 < ord.idxOf x.2.1
  omega
/-- the least one left out is there, if some are -/
theorem Ord.lacks {n : Nat} {ws : List Wr} {ord : List Nat} (h : Ord n ws ord) (hw : ∀ x ∈ ws, x.1 < n ∧ x.2.1 < n) (nr : ¬ Ranked ws) : ord.length < n ∧ ∃ e, e < n ∧ e ∉ ord := by
  have hl : ord.length < n := by
    have := h.le
    by_cases z : ord.length = n
    · exact absurd (h.ranked hw z) nr
    · omega
  refine ⟨hl, Classical.byContradiction fun z => ?_⟩
  have sub : List.range n ⊆ ord := fun e he => Classical.byContradiction fun z2 => z ⟨e, List.mem_range.mp he, z2⟩
  have := List.Nodup.length_le_of_subset (List.nodup_range (n := n)) sub
  rw [List.length_range] at this
  omega
end Lag

set_option maxRecDepth 100000
set_option maxHeartbeats 8000000
namespace Lag
open PySem PySem.Spec PyProof.Rows L2
abbrev sNRinit : Stmt := inClass (topS 5 /- @NoRing -/) 0
abbrev sRingFrom : Stmt := topS 13 -- @ring_from
abbrev sBareRing : Stmt := topS 27 -- @bare_ring
/-! ### tables by membership -/
theorem mem_putK {kvs : List (Key × V)} {k : Key} {v : V} {x : Key × V} (h : x ∈ putK kvs k v) : x ∈ kvs ∨ x = (k, v) := by
  unfold putK at h
  split at h
  · obtain ⟨y, hy, rfl⟩ := List.mem_map.mp h
    by_cases e : y.1 = k
    · rw [if_pos e, e]
      exact .inr rfl
    · rw [if_neg e]
      exact .inl hy
  · rcases List.mem_append.mp h with h | h
    · exact .inl h
    · exact .inr (List.mem_singleton.mp h)
theorem valV_has {kvs : List (Key × V)} {k : Key} : (∃ x ∈ kvs, x.1 = k) → ∃ v, valV kvs k = some v ∧ (k, v) ∈ kvs := by
  induction kvs with
  | nil => rintro ⟨x, h, _⟩; cases h
  | cons y l ih =>
    rintro ⟨x, h, e⟩
    by_cases ey : y.1 = k
    · refine ⟨y.2, valV_pos ey, ?_⟩
      rw [← ey]
      exact List.mem_cons_self ..
    · rcases List.mem_cons.mp h with rfl | h
      · exact absurd e ey
      · obtain ⟨v, hv, hm⟩ := ih ⟨x, h, e⟩
        exact ⟨v, by rw [valV_neg ey]; exact hv, List.mem_cons_of_mem _ hm⟩
theorem has_of_val {kvs : List (Key × V)} {k : Key} {v : V} (h : valV kvs k = some v) : ∃ x ∈ kvs, x.1 = k := by
  induction kvs with
  | nil => cases h
  | cons y l ih =>
    by_cases ey : y.1 = k
    · exact ⟨y, List.mem_cons_self .., ey⟩
    · rw [valV_neg ey] at h
      obtain ⟨x, hx, e⟩ := ih h
      exact ⟨x, List.mem_cons_of_mem _ hx, e⟩
theorem has_putK {kvs : List (Key × V)} {k k' : Key} {v : V} (h : ∃ x ∈ kvs, x.1 = k') : ∃ x ∈ putK kvs k v, x.1 = k' := by
  obtain ⟨u, hu, _⟩ := valV_has h
  by_cases e : k' = k
  · exact has_of_val (v := v) (by rw [valV_put, if_pos e])
  · exact has_of_val (v := u) (by rw [valV_put, if_neg e]; exact hu)
theorem new_putK {kvs : List (Key × V)} {k : Key} {v : V} : ∃ x ∈ putK kvs k v, x.1 = k := has_of_val (v := v) (by rw [valV_put, if_pos rfl])
/-- the way back: for an end the place and the start of a wire without registers, from what is left out -/
structure BackD (K : PySem.W.Frag) (H : Hp) (d : Addr) (kvs : List (Key × V)) (ws : List Wr) (ord : List Nat) : Prop where
  at_ : H d = some (.dK kvs)
  mem : ∀ x ∈ kvs, ∃ (e p s : Nat) (t : Addr), x = (.inl (e : Int), .ref t) ∧ SqT K H t [.int (p : Nat), .int (s : Nat)] ∧ ws[p]? = some (s, e, []) ∧ s ∉ ord
theorem BackD.same {K : PySem.W.Frag} {H H' : Hp} {d : Addr} {kvs : List (Key × V)} {ws : List Wr} {ord : List Nat} (h : BackD K H d kvs ws ord) (s : Same H H') : BackD K H' d kvs ws ord :=
  ⟨s _ _ h.at_, fun x hx => by
    obtain ⟨e, p, s', t, h1, h2, h3⟩ := h.mem x hx
    exact ⟨e, p, s', t, h1, (TK.same s).seq h2, h3⟩⟩
theorem BackD.get {K : PySem.W.Frag} {H : Hp} {d : Addr} {kvs : List (Key × V)} {ws : List Wr} {ord : List Nat} (h : BackD K H d kvs ws ord) {e : Nat} (he : ∃ x ∈ kvs, x.1 = Sum.inl (e : Int)) :
    ∃ (p s : Nat) (t : Addr), DGet H d (.int (e : Nat)) (some (.ref t)) ∧ SqT K H t [.int (p : Nat), .int (s : Nat)] ∧ ws[p]? = some (s, e, []) ∧ s ∉ ord := by
  obtain ⟨v, hv, hm⟩ := valV_has he
  obtain ⟨e', p, s, t, h1, h2, h3, h4⟩ := h.mem _ hm
  injection h1 with a b
  have : e = e' := by have := Sum.inl.inj a; omega
  subst this
  subst b
  refine ⟨p, s, t, ?_, h2, h3, h4⟩
  have := DGet.k (k := Sum.inl (e : Int)) h.at_
  rw [hv] at this
  exact this
/-- what was seen, with its place -/
def SeenD (H : Hp) (D : Addr) (es : List Nat) : Prop := ∃ kvs : List (Key × V), H D = some (.dK kvs) ∧ kvs.length ≤ es.length ∧ ∀ g : Nat, valV kvs (Sum.inl (g : Int)) = if g ∈ es then some (.int ((es.idxOf g : Nat) : Int)) else none
theorem SeenD.get {H : Hp} {D : Addr} {es : List Nat} (h : SeenD H D es) (g : Nat) : DGet H D (.int (g : Nat)) (if g ∈ es then some (.int ((es.idxOf g : Nat) : Int)) else none) := by
  obtain ⟨kvs, e, _, hv⟩ := h
  have := DGet.k (k := Sum.inl (g : Int)) e
  rw [hv g] at this
  exact this
theorem SeenD.put {H : Hp} {D : Addr} {es : List Nat} (h : SeenD H D es) (hm : es.length < sizeLine) {c : Nat} (hc : c ∉ es) : ∃ o, DPut H D (.int (c : Nat)) (.int ((es.length : Nat) : Int)) (upd H D o) ∧ SeenD (upd H D o) D (es ++ [c]) := by
  obtain ⟨kvs, e, hl, hv⟩ := h
  refine ⟨.dK (putK kvs (Sum.inl (c : Int)) (.int ((es.length : Nat) : Int))), DPut.k (k := Sum.inl (c : Int)) e (by omega), _, upd_same, by have := length_putK kvs (Sum.inl (c : Int)) (.int ((es.length : Nat) : Int)); rw [List.length_append]; show _ ≤ es.length + 1; omega, fun j => ?_⟩
  rw [valV_put]
  by_cases hj : j = c
  · subst hj
    rw [if_pos rfl, if_pos (by simp), List.idxOf_append, if_neg hc]
    simp
  · rw [if_neg (fun z => hj (by have := Sum.inl.inj z; omega)), hv j]
    by_cases hm : j ∈ es
    · rw [if_pos hm, if_pos (List.mem_append_left _ hm), List.idxOf_append, if_pos hm]
    · rw [if_neg hm, if_neg (fun z => by
        rcases List.mem_append.mp z with z | z
        · exact hm z
        · exact hj (List.mem_singleton.mp z))]
def ivs (l : List Nat) : List V := l.map fun i => V.int (i : Nat)
def spRingFrom (K : PySem.W.Frag) : Sp := fun vs H Q _ => ∃ (e0 n : Nat) (d : Addr) (kvs : List (Key × V)) (ws : List Wr) (ord : List Nat), vs = [.int (e0 : Nat), .ref d] ∧ BackD K H d kvs ws ord ∧ (∀ e, e < n → e ∉ ord → ∃ x ∈ kvs, x.1 = Sum.inl (e : Int)) ∧ (∀ x ∈ ws, x.1 < n ∧ x.2.1 < n) ∧ n ≤ 1000 ∧ e0 < n ∧ e0 ∉ ord ∧
  ∀ (r : List Nat) (l : Addr) (H' : Hp), IsRing ws r.reverse → Same H H' → H l = none → H' l = some (.lst (ivs r)) → Q (.ref l) H'
def spBareRing (K : PySem.W.Frag) : Sp := fun vs H Q _ => ∃ (n : Nat) (lo lw : Addr) (ws : List Wr) (ord : List Nat), vs = [.ref lo, .ref lw] ∧ H lo = some (.lst (ivs ord)) ∧ RW K H lw ws ∧ (∀ x ∈ ws, x.1 < n ∧ x.2.1 < n) ∧ n ≤ 1000 ∧ ws.length ≤ 1000 ∧ Ord n ws ord ∧ (∃ e, e < n ∧ e ∉ ord) ∧
  ∀ (r : List Nat) (l : Addr) (H' : Hp), IsRing ws r → Same H H' → H l = none → H' l = some (.lst (ivs r)) → Q (.ref l) H'
def spChkRingsX (K : PySem.W.Frag) (CR : Addr) : Sp := fun vs H Q E => ∃ (n : Nat) (lw : Addr) (ws : List Wr), vs = [.int (n : Nat), .ref lw] ∧ RW K H lw ws ∧ (∀ x ∈ ws, x.1 < n ∧ x.2.1 < n) ∧ n ≤ 1000 ∧ ws.length ≤ 1000 ∧ ¬ Ranked ws ∧
  ∀ (r : List Nat) (l dx : Addr) (H' : Hp), IsRing ws r → Same H H' → H l = none → H' l = some (.lst (ivs r)) → H' dx = none → E (.ref CR) (some dx) (upd H' dx (.xd [(("ring" : Str), .ref l)]))
section
variable {P : Program} {w : World} {K : PySem.W.Frag} {mg : Str → Option Value} {base : Heap}
theorem scNRinit : FnScope ["self", "ring"] ["self", "ring"] (defScope sNRinit) := ⟨rfl, rfl, rfl, by decide +kernel, rfl, by decide +kernel, by decide +kernel⟩
theorem ok_nrInit {f C0 C fI : Addr} {fd : FuncData} (F : Fun K "__init__" "NoRing.__init__" sNRinit f fd) (L : LEx K mg C0) (TE : TEx K mg "NoRing" "ring" C fI) : FnOk P w K mg base CX0 1 f fd ["self", "ring"] (spXI "ring" C) := by
  refine F.ok scNRinit (fun vs H Q E h => ?_) (fun cdv A outer s H vs Q E hr h => ?_)
  · obtain ⟨a, v, rfl, _⟩ := h
    rfl
  · obtain ⟨a, v, rfl, ha, q⟩ := h
    refine ⟨_, pss_cons (ps_expr (pe_leinit (by rfl) L.g L.gA L.tC L.rC L.vV (pa_cons (pv 0) (pa_cons pe_str pa_nil)))) <| pss_one (ps_ost (pv 0) (pv 1)), ?_⟩
    exact ⟨_, rfl, a, C, _, rfl, (by show 1 ≤ 1000; decide), TE.T, ha, _, rfl, _, rfl, a, C, rfl, TE.T, TE.no, .inl ⟨ha, fun dx hdx ne => q dx hdx ne⟩⟩
/-! ### ring_from -/
abbrev nRingFrom : List Str := ["place", "onward", "seen", "path", "passed"]
theorem scRingFrom : FnScope nRingFrom ["place", "onward"] (defScope sRingFrom) := ⟨rfl, rfl, rfl, by decide +kernel, rfl, by decide +kernel, by decide +kernel⟩
abbrev DRingFrom (P : Program) (w : World) (K : PySem.W.Frag) (mg : Str → Option Value) (base : Heap) := Df P w K mg base 1 "ring_from" ["place", "onward"] (spRingFrom K)
theorem ok_ringFrom {f : Addr} {fd : FuncData} (F : Fun K "ring_from" "ring_from" sRingFrom f fd) (hm : mg "ring_from" = some (.ref f)) (B : Bt mg) : DRingFrom P w K mg base f fd := by
  refine ⟨?_, hm, F.kp, F.binds fun _ _ _ _ _ _ us hl => match us, hl with | [_, _], _ => rfl⟩
  refine F.ok scRingFrom (fun vs H Q E h => ?_) (fun cdv A outer s H vs Q E hr h => ?_)
  · obtain ⟨e0, n, d, kvs, ws, ord, rfl, _⟩ := h
    rfl
  · obtain ⟨e0, n, d, kvs, ws, ord, rfl, bd, key, hw, hn, he0, hno, q⟩ := h
    have nd := scRingFrom.nd
    refine ⟨_, pss_cons (ps_set (i := 2) nd rfl (.inl rfl) pe_dnewK) <|
      pss_cons (ps_set (i := 3) nd rfl (.inl rfl) (pe_lst pa_nil)) <|
      pss_cons (ps_while PassesOwn.never (pt_cmp (pc_dnotin (hu_of hr) (pv 0) (pv 2))) <|
        pss_cons (ps_dput (hu_of hr) (pv 2) (pv 0) (pe_callB call_len_seq (by rfl) B.len PySem.boot_len (pa_cons (pv 3) pa_nil)) rfl) <|
        pss_cons (ps_asg (pe_dget (hu_of hr) (pv 1) (pv 0) (fun _ _ => rfl)) (pg_tup rfl (pgs_cons (pg_name (i := 4) nd rfl (.inl rfl)) (pgs_cons (pg_name (i := 0) nd rfl (.inl rfl)) pgs_nil)))) <|
        pss_one (ps_expr (pe_bm PySem.F.plainAttrs_list PySem.F.slot_list_append PySem.F.type_list_append mt_append (pv 3) (pa_cons (pv 4) pa_nil)))) <|
      pss_one (ps_ret (pe_slice sl_list (pv 3) (po_some (pe_dget (hu_of hr) (pv 2) (pv 0) (fun _ _ => rfl))) po_none)), ?_⟩
    intro ls hls
    have s1 : Same H (upd H ls (.dK [])) := same_new hls
    refine ⟨(by show 0 ≤ sizeLine; decide), fun lp hlp => ?_⟩
    have hlp0 : H lp = none := s1.free hlp
    have nsp : ls ≠ lp := ne_of_none (upd_same (H := H) (a := ls) (o := .dK [])) hlp
    refine ⟨fun m σ H6 => ∃ (es path : List Nat) (cur : Nat) (s4 : Option V), σ = [some (.int (cur : Nat)), some (.ref d), some (.ref ls), some (.ref lp), s4] ∧ Wk ws n es path cur ∧ cur ∉ ord ∧ SeenD H6 ls es ∧ H6 lp = some (.lst (ivs path)) ∧ Same H H6 ∧ m = n - es.length, ?_, ?_⟩
    · refine ⟨_, [], [], e0, none, rfl, ⟨List.nodup_nil, (by intro e h; cases h), he0, rfl, rfl, (by intro e h; cases h)⟩, hno, ⟨[], ?_, Nat.le_refl _, fun g => by rw [if_neg (by simp)]; exact valV_nil⟩, upd_same, s1.trans (same_new hlp), rfl⟩
      rw [upd_ne nsp]
      exact upd_same
    · rintro m σ H6 ⟨es, path, cur, s4, rfl, wk, hco, sd, hp6, sm, rfl⟩
      refine ⟨_, rfl, _, rfl, ls, _, rfl, sd.get cur, ?_⟩
      by_cases hc : cur ∈ es
      · rw [if_pos hc]
        refine ⟨_, rfl, iteF ?_⟩
        have hg := sd.get cur
        rw [if_pos hc] at hg
        refine ⟨_, rfl, _, rfl, _, rfl, ls, _, rfl, hg, _, rfl, lp, _, rfl, SqL.of hp6, fun p hp => ?_⟩
        have hj : es[es.idxOf cur]? = some cur := by
          have h5 : es.idxOf cur < es.length := List.idxOf_lt_length_iff.mpr hc
          rw [List.getElem?_eq_getElem h5, List.getElem_idxOf h5]
        refine q (path.drop (es.idxOf cur)) p _ (wk.ring hj) (sm.trans (same_new hp)) (sm.free hp) ?_
        rw [upd_same, cut_from]
        unfold ivs
        rw [List.map_drop]
      · rw [if_neg hc]
        refine ⟨_, rfl, iteT ?_⟩
        have hle := wk.le
        have hlt : es.length < n := by
          have nd2 : (es ++ [cur]).Nodup := by
            rw [List.nodup_append]
            refine ⟨wk.nd, by simp, fun a ha c hc2 => ?_⟩
            simp at hc2
            subst hc2
            intro z
            exact hc (by rw [← z]; exact ha)
          have h2 := List.Nodup.length_le_of_subset nd2 (l₂ := List.range n) (fun a ha => by
            rcases List.mem_append.mp ha with ha | ha
            · exact List.mem_range.mpr (wk.lt a ha)
            · rw [List.mem_singleton.mp ha]
              exact List.mem_range.mpr wk.clt)
          rw [List.length_range, List.length_append] at h2
          simp at h2
          omega
        have hpl : (ivs path).length = es.length := by
          unfold ivs
          rw [List.length_map, wk.len]
        obtain ⟨o, dp, sd2⟩ := sd.put (small1000 (by omega)) hc
        refine ⟨fun σ H7 => ∃ (es' path : List Nat) (cur : Nat) (s4 : Option V), σ = [some (.int (cur : Nat)), some (.ref d), some (.ref ls), some (.ref lp), s4] ∧ Wk ws n es' path cur ∧ cur ∉ ord ∧ SeenD H7 ls es' ∧ H7 lp = some (.lst (ivs path)) ∧ Same H H7 ∧ es'.length = es.length + 1, ?_, ?_⟩
        · rintro σ' H' ⟨es', path', cur', t4, rfl, wk', hco', sd', hp', sm', hl'⟩
          exact ⟨n - (es.length + 1), by omega, es', path', cur', t4, rfl, wk', hco', sd', hp', sm', by rw [hl']⟩
        refine ⟨_, rfl, lp, _, rfl, .inl (SqL.of hp6), _, rfl, _, rfl, ls, _, rfl, (by rw [hpl]; exact dp), ?_⟩
        have sm7 : Same H (upd H6 ls o) := same_mut sm hls
        have bd7 := bd.same sm7
        obtain ⟨p, s, t, hg, sq, hp, hs⟩ := bd7.get (key cur wk.clt hco)
        have hp7 : (upd H6 ls o) lp = some (.lst (ivs path)) := by
          rw [upd_ne nsp.symm]
          exact hp6
        have hsn := (hw _ (List.mem_of_getElem? hp)).1
        generalize upd H6 ls o = H7 at sm7 bd7 hg sq hp7 sd2
        refine ⟨_, rfl, _, rfl, d, _, rfl, hg, t, _, rfl, sq, rfl, _, _, rfl, _, _, rfl, rfl, ?_⟩
        have sd3 : SeenD (upd H7 lp (.lst (ivs path ++ [V.int (p : Nat)]))) ls (es ++ [cur]) := by
          obtain ⟨kv, h1, h2⟩ := sd2
          exact ⟨kv, by rw [upd_ne nsp]; exact h1, h2⟩
        refine ⟨_, rfl, .inl ⟨rfl, _, SqL.of hp7⟩, _, rfl, lp, _, _, rfl, rfl, hp7, small1000 (by omega), ?_⟩
        refine ⟨es ++ [cur], path ++ [p], s, _, rfl, wk.step hc hp hsn, hs, sd3, ?_, same_mut sm7 hlp0, by rw [List.length_append]; rfl⟩
        rw [upd_same]
        unfold ivs
        rw [List.map_append]
        rfl
/-! ### bare_ring -/
abbrev nBareRing : List Str := ["placed", "wires", "back", "place", "start", "end", "held"]
theorem scBareRing : FnScope nBareRing ["placed", "wires"] (defScope sBareRing) := ⟨rfl, rfl, rfl, by decide +kernel, rfl, by decide +kernel, by decide +kernel⟩
theorem inv_ivs (l : List Nat) (k : Nat) : inV (.int (k : Nat)) (ivs l) = decide (k ∈ l) := by
  unfold inV ivs
  rw [Bool.eq_iff_iff, List.any_eq_true, decide_eq_true_iff]
  constructor
  · rintro ⟨x, hx, e⟩
    obtain ⟨j, hj, rfl⟩ := List.mem_map.mp hx
    have : (j : Int) = (k : Int) := eq_of_beq (show ((j : Int) == (k : Int)) = true from e)
    have : j = k := by omega
    rw [← this]
    exact hj
  · intro h
    exact ⟨_, List.mem_map.mpr ⟨k, h, rfl⟩, beq_self_eq_true _⟩
theorem flat_ivs (l : List Nat) : (ivs l).all flatV = true := flat_ints l
abbrev DBareRing (P : Program) (w : World) (K : PySem.W.Frag) (mg : Str → Option Value) (base : Heap) := Df P w K mg base 2 "bare_ring" ["placed", "wires"] (spBareRing K)
theorem ok_bareRing {f fR : Addr} {fd fdR : FuncData} (F : Fun K "bare_ring" "bare_ring" sBareRing f fd) (hm : mg "bare_ring" = some (.ref f)) (B : Bt mg) (mn : mg "min" = none) (DR : DRingFrom P w K mg base fR fdR) : DBareRing P w K mg base f fd := by
  refine ⟨?_, hm, F.kp, F.binds fun _ _ _ _ _ _ us hl => match us, hl with | [_, _], _ => rfl⟩
  refine F.ok scBareRing (fun vs H Q E h => ?_) (fun cdv A outer s H vs Q E hr h => ?_)
  · obtain ⟨n, lo, lw, ws, ord, rfl, _⟩ := h
    rfl
  · obtain ⟨n, lo, lw, ws, ord, rfl, hlo, ⟨wv, sw, wa⟩, hw, hn, hwl, ho, ⟨e0, he0, hno⟩, q⟩ := h
    have nd := scBareRing.nd
    refine ⟨_, pss_cons (ps_set (i := 2) nd rfl (.inl rfl) pe_dnewK) <|
      pss_cons (ps_for PassesOwn.never rfl (pi_enum (by rfl) B.enum (pa_cons (pv 1) pa_nil)) (pg_tup rfl (pgs_cons (pg_name (i := 3) nd rfl (.inl rfl)) (pgs_cons (pg_tup rfl (pgs_cons (pg_name (i := 4) nd rfl (.inl rfl)) (pgs_cons (pg_name (i := 5) nd rfl (.inl rfl)) (pgs_cons (pg_name (i := 6) nd rfl (.inl rfl)) pgs_nil)))) pgs_nil))) <|
        pss_one <| ps_if (PW.pt (pw_and (pt_cmpR op_eq (pe_callB call_len_seq (by rfl) B.len PySem.boot_len (pa_cons (pv 6) pa_nil)) pe_int (nomark _)) (pw_and1 (pt_cmpR op_notIn_seq (pv 4) (pv 0) (by rfl)))))
          (pss_one (ps_dput (hu_of hr) (pv 2) (pv 5) (pe_tup (pa_cons (pv 3) (pa_cons (pv 4) pa_nil))) rfl)) pss_nil) <|
      pss_one (ps_ret (pe_revL (pe_call DR.ok hr (by rfl) DR.mg DR.kp DR.bd .nil pass0 (pa_cons (pe_callB (cr_min rfl) (by rfl) mn (by decide +kernel) (pa_cons (pe_callTy (call_list_dK rfl) (by rfl) B.list (by decide +kernel) (pa_cons (pv 2) pa_nil)) pa_nil)) (pa_cons (pv 2) pa_nil))))), ?_⟩
    have hlw : wv.length = ws.length := wa.1
    intro d hd
    have s1 : Same H (upd H d (.dK [])) := same_new hd
    refine ⟨_, rfl, lw, wv, rfl, s1.seq sw, for_it (walk_enum (K := K) (a := lw) (xs := wv)) (fun i σ H2 => ∃ (s3 s4 s5 s6 : Option V) (kvs : List (Key × V)), σ = [some (.ref lo), some (.ref lw), some (.ref d), s3, s4, s5, s6] ∧ BackD K H2 d kvs ws ord ∧ kvs.length ≤ i ∧ (∀ x ∈ ws.take i, x.2.2 = [] → x.1 ∉ ord → ∃ y ∈ kvs, y.1 = Sum.inl (x.2.1 : Int)) ∧ Same H H2)
      ⟨_, _, _, _, [], rfl, ⟨upd_same, fun x h => by cases h⟩, Nat.le_refl _, fun x h => by simp at h, s1⟩ (fun i σ H2 _ ⟨_, _, _, _, _, _, _, _, _, sm⟩ => sm.seq sw) ?_ ?_⟩
    · rintro i v σ H2 H2' hi ⟨s3, s4, s5, s6, kvs, rfl, bd, hkl, full, sm⟩ ⟨T, x1, y, rfl, hT, rfl, ex, ey⟩
      cases ex
      obtain ⟨x, hx, a, b, rfl, sq1, sq2⟩ := wa.get ey
      have hxi : i < ws.length := (List.getElem?_eq_some_iff.mp hx).1
      have smT : Same H2 (upd H2 T (.tup [.int (i : Nat), .ref a])) := same_new hT
      have eT : (upd H2 T (.tup [.int (i : Nat), .ref a])) T = some (.tup [.int (i : Nat), .ref a]) := upd_same
      have sm2 := sm.trans smT
      have bd2 := bd.same smT
      generalize upd H2 T (.tup [.int (i : Nat), .ref a]) = H3 at smT eT sm2 bd2
      have tk := TK.same sm2
      have et : ws.take (i + 1) = ws.take i ++ [x] := by rw [List.take_add_one, hx]; rfl
      have skip : (x.2.2 = [] → x.1 ∈ ord) → ∀ y ∈ ws.take (i + 1), y.2.2 = [] → y.1 ∉ ord → ∃ z ∈ kvs, z.1 = Sum.inl (y.2.1 : Int) := fun h y hy h1 h2 => by
        rw [et] at hy
        rcases List.mem_append.mp hy with hy | hy
        · exact full y hy h1 h2
        · rw [List.mem_singleton.mp hy] at h1 h2
          exact absurd (h h1) h2
      refine ⟨T, _, rfl, .inl (.inl eT), rfl, _, _, rfl, _, _, rfl, a, _, rfl, tk.seq sq1, rfl, _, _, rfl, _, _, rfl, _, _, rfl, rfl, rfl, ?_⟩
      refine ⟨_, rfl, b, _, rfl, .inr (tk.seq sq2), rfl, _, rfl, ite2 (fun e => ?_) (fun e => ?_)⟩
      · have he : x.2.2 = [] := by
          have e' : (((x.2.2.map V.int).length : Nat) : Int) = 0 := V.int.inj (of_decide_eq_true e)
          rw [List.length_map] at e'
          exact List.length_eq_zero_iff.mp (by omega)
        refine ⟨_, rfl, _, rfl, lo, _, rfl, .inl (SqL.of (sm2 _ _ hlo)), rfl, flat_ivs _, !decide (x.1 ∈ ord), ?_, ?_⟩
        · show V.bl (!inV (V.int (x.1 : Nat)) (ivs ord)) = _
          rw [inv_ivs]
        by_cases hm : x.1 ∈ ord
        · rw [decide_eq_true hm]
          exact iteF ⟨_, _, _, _, kvs, rfl, bd2, by omega, skip (fun _ => hm), sm2⟩
        · rw [decide_eq_false hm]
          refine iteT ?_
          refine ⟨_, rfl, _, rfl, (by show 2 ≤ sizeLine; decide), fun t ht => ?_⟩
          have sm3 : Same H3 (upd H3 t (.tup [.int (i : Nat), .int (x.1 : Nat)])) := same_new ht
          have et3 : (upd H3 t (.tup [.int (i : Nat), .int (x.1 : Nat)])) t = some (.tup [.int (i : Nat), .int (x.1 : Nat)]) := upd_same
          have bd3 := bd2.same sm3
          generalize upd H3 t (.tup [.int (i : Nat), .int (x.1 : Nat)]) = H4 at sm3 et3 bd3
          refine ⟨_, rfl, _, rfl, d, _, rfl, DPut.k (k := Sum.inl (x.2.1 : Int)) bd3.at_ (small1000 (by omega)), ?_⟩
          have ntd : t ≠ d := fun z => by
            rw [z, bd3.at_] at et3
            cases et3
          have smd : ∀ {u : Addr} {xs : List V}, SqT K H4 u xs → SqT K (upd H4 d (.dK (putK kvs (Sum.inl (x.2.1 : Int)) (.ref t)))) u xs := fun {u xs} h => by
            have tk4 : TK H4 (upd H4 d (.dK (putK kvs (Sum.inl (x.2.1 : Int)) (.ref t)))) := fun b o to eb => by
              rw [upd_ne (fun z => by
                rw [z, bd3.at_] at eb
                cases eb
                exact to)]
              exact eb
            exact tk4.seq h
          refine ⟨_, _, _, _, putK kvs (Sum.inl (x.2.1 : Int)) (.ref t), rfl, ⟨upd_same, fun z hz => ?_⟩, ?_, ?_, same_mut (sm2.trans sm3) hd⟩
          · rcases mem_putK hz with hz | rfl
            · obtain ⟨e, p, s, t', h1, h2, h3⟩ := bd3.mem z hz
              exact ⟨e, p, s, t', h1, smd h2, h3⟩
            · refine ⟨x.2.1, i, x.1, t, rfl, smd (SqT.of et3), ?_, hm⟩
              rw [hx, ← he]
          · have := length_putK kvs (Sum.inl (x.2.1 : Int)) (V.ref t)
            omega
          · intro y hy h1 h2
            rw [et] at hy
            rcases List.mem_append.mp hy with hy | hy
            · exact has_putK (full y hy h1 h2)
            · rw [List.mem_singleton.mp hy]
              exact new_putK
      · have he : ¬ x.2.2 = [] := fun z => by
          apply e
          rw [z]
          rfl
        exact ⟨_, _, _, _, kvs, rfl, bd2, by omega, skip (fun z => absurd z he), sm2⟩
    · rintro σ H2 ⟨s3, s4, s5, s6, kvs, rfl, bd, hkl, full, sm⟩
      rw [hlw, List.take_length] at full
      have key : ∀ e, e < n → e ∉ ord → ∃ x ∈ kvs, x.1 = Sum.inl (e : Int) := fun e he hn => by
        obtain ⟨x, hx, hb, rfl, hs⟩ := ho.back he hn
        exact full x hx hb hs
      obtain ⟨ns, hns⟩ : ∃ ns : List Nat, kvs.map (fun kv => kV kv.1) = ivs ns ∧ ∀ e ∈ ns, ∃ x ∈ kvs, x.1 = Sum.inl (e : Int) := by
        have hmem := bd.mem
        clear key full hkl bd
        induction kvs with
        | nil => exact ⟨[], rfl, fun e h => by cases h⟩
        | cons y l ih =>
          obtain ⟨ns, h1, h2⟩ := ih fun x hx => hmem x (List.mem_cons_of_mem _ hx)
          obtain ⟨e, p, s, t, rfl, _⟩ := hmem y (List.mem_cons_self ..)
          refine ⟨e :: ns, ?_, fun e' he' => ?_⟩
          · rw [List.map_cons, h1]
            rfl
          · rcases List.mem_cons.mp he' with rfl | he'
            · exact ⟨_, List.mem_cons_self .., rfl⟩
            · obtain ⟨x, hx, hx2⟩ := h2 e' he'
              exact ⟨x, List.mem_cons_of_mem _ hx, hx2⟩
      obtain ⟨hns1, hns2⟩ := hns
      refine ⟨_, rfl, d, kvs, rfl, bd.at_, fun lk hlk => ?_⟩
      have smk : Same H2 (upd H2 lk (.lst (kvs.map fun kv => kV kv.1))) := same_new hlk
      have ek : (upd H2 lk (.lst (kvs.map fun kv => kV kv.1))) lk = some (.lst (kvs.map fun kv => kV kv.1)) := upd_same
      have bd2 := bd.same smk
      generalize upd H2 lk (.lst (kvs.map fun kv => kV kv.1)) = H3 at smk ek bd2
      rw [hns1] at ek
      have ek2 : H3 lk = some (.lst ((ns.map fun i => ((i : Nat) : Int)).map V.int)) := by
        rw [ek]
        unfold ivs
        rw [List.map_map]
        rfl
      refine ⟨lk, _, rfl, SqL.of ek2, ?_, fun m hm _ => ?_⟩
      · rw [List.length_map]
        obtain ⟨x, hx, _⟩ := key e0 he0 hno
        have h1 : 0 < kvs.length := List.length_pos_of_mem hx
        have h2 := congrArg List.length hns1
        unfold ivs at h2
        rw [List.length_map, List.length_map] at h2
        omega
      obtain ⟨e, hem, rfl⟩ := List.mem_map.mp hm
      obtain ⟨z, hz, hze⟩ := hns2 e hem
      obtain ⟨p, s, t, _, _, hp, hs⟩ := bd2.get ⟨z, hz, hze⟩
      have hlt := (hw _ (List.mem_of_getElem? hp)).2
      have hno' : e ∉ ord := fun m => by
        obtain ⟨j, hj⟩ := List.getElem?_of_mem m
        have t1 := ho.top j e hj (s, e) (List.mem_map.mpr ⟨(s, e, []), List.mem_filter.mpr ⟨List.mem_of_getElem? hp, rfl⟩, rfl⟩) rfl
        exact hs (List.mem_of_mem_take t1)
      refine ⟨_, rfl, e, n, d, kvs, ws, ord, rfl, bd2, key, hw, hn, hlt, hno', fun r l H4 ring s4 hl4 e4 => ?_⟩
      refine ⟨l, _, rfl, SqL.of e4, fun lr hlr => ?_⟩
      have s14 := (sm.trans smk).trans s4
      refine q r.reverse lr _ ring (s14.trans (same_new hlr)) (s14.free hlr) ?_
      rw [upd_same]
      unfold ivs
      rw [List.map_reverse]
/-! ### check_rings, that refuses -/
theorem ok_chkRingsX {f fO fB CR fN : Addr} {fd fdO fdB fdN : FuncData} (F : Fun K "check_rings" "check_rings" sChkRings f fd) (B : Bt mg) (DO : DOrder P w K mg base fO fdO) (DB : DBareRing P w K mg base fB fdB)
    (TE : TEx K mg "NoRing" "ring" CR fN) (nrI : FnOk P w K mg base CX0 1 fN fdN ["self", "ring"] (spXI "ring" CR)) (bT : Binds K fdN ["self", "ring"] []) : FnOk P w K mg base (L2.CX P w) 3 f fd ["many_gates", "wires"] (spChkRingsX K CR) := by
  refine F.okX scChkRings (fun vs H Q E h => ?_) (fun cdv A outer s H vs Q E hr h => ?_)
  · obtain ⟨n, lw, ws, rfl, _⟩ := h
    rfl
  · obtain ⟨n, lw, ws, rfl, R, hws, hn, hwl, nr, q⟩ := h
    have nd := scChkRings.nd
    refine ⟨_, pss_cons (ps_set (i := 2) nd rfl (Or.inl rfl) (pe_call DO.ok hr (by rfl) DO.mg DO.kp DO.bd .nil pass0 (pa_cons (pv 0) (pa_cons (pv 1) pa_nil)))) <|
      pss_one <| ps_if (pt_cmpR op_lt (pe_callB call_len_seq (by rfl) B.len PySem.boot_len (pa_cons (pv 2) pa_nil)) (pv 0) (nomark _)) (pss_one (ps_raise rfl (takes_of rfl rfl rfl rfl) (pmk_oex TE.T TE.iC TE.tI nrI (hr.mono (by decide)) bT .nil pass0 (by rfl) TE.g (pa_cons (pe_call DB.ok hr (by rfl) DB.mg DB.kp DB.bd .nil pass0 (pa_cons (pv 2) (pa_cons (pv 1) pa_nil))) pa_nil)))) pss_nil, ?_⟩
    refine ⟨_, rfl, _, rfl, n, lw, ws, rfl, R, hws, hn, hwl, fun ord p H1 ho sm hp h1 => ?_⟩
    obtain ⟨hlt, hex⟩ := ho.lacks hws nr
    refine ⟨_, rfl, p, _, rfl, .inl (SqL.of h1), _, rfl, _, _, rfl, rfl, true, ?_, iteT ?_⟩
    · show V.bl (decide (((ord.map fun i => V.int (i : Nat)).length : Int) < (n : Int))) = V.bl true
      rw [decide_eq_true]
      rw [List.length_map]
      omega
    refine ⟨_, rfl, _, rfl, n, p, lw, ws, ord, rfl, h1, R.same sm, hws, hn, hwl, ho, hex, fun r l H2 ring s2 hl2 e2 => ?_⟩
    refine ⟨(by show 1 ≤ 1000; decide), fun a ha => ⟨a, _, rfl, upd_same, fun dx hdx ne => ⟨rfl, dx, _, upd_same, by rw [upd_ne ne, upd_same], ?_, ?_⟩⟩⟩
    · rw [upd_ne ne] at hdx
      exact hdx
    · rw [mk_heap ha ne]
      rw [upd_ne ne] at hdx
      exact q r l dx H2 ring (sm.trans s2) (sm.free hl2) e2 hdx
end
end Lag

set_option maxRecDepth 100000
set_option maxHeartbeats 8000000
namespace Lag
open PySem PySem.Spec PyProof.Rows L2
/-- all that a net keeps to but the registers of its rings -/
structure NetOkW (gs : List Gt) (ws : List Wr) : Prop where
  ne : gs ≠ []
  gl : gs.length ≤ 100
  wl : ws.length ≤ 900
  gok : ∀ g ∈ gs, GOk g
  wok : ∀ x ∈ ws, WOk gs x
  one : ∀ e, e < gs.length → kindAt gs e = "out" → cnt ws e = 1
  some : ∀ e, e < gs.length → kindAt gs e = "first" → 1 ≤ cnt ws e
theorem NetOkW.net {gs : List Gt} {ws : List Wr} (N : NetOkW gs ws) (r : Ranked ws) : NetOk gs ws := ⟨N.ne, N.gl, by have := N.wl; omega, N.gok, N.wok, N.one, N.some, r⟩
def spChkWiresW (K : PySem.W.Frag) : Sp := fun vs H Q _ => ∃ (lg lw : Addr) (gs : List Gt) (ws : List Wr), vs = [.ref lg, .ref lw] ∧ RG K H lg gs ∧ RW K H lw ws ∧ NetOkW gs ws ∧ ∀ H', Same H H' → Q .non H'
/-- Net of gates and wires among which a ring has no registers -/
def spInitR (K : PySem.W.Frag) (CR : Addr) : Sp := fun vs H Q E => ∃ (p lg lw : Addr) (gs : List Gt) (ws : List Wr), vs = [.ref p, .ref lg, .ref lw] ∧ RG K H lg gs ∧ RW K H lw ws ∧ NetOkW gs ws ∧ ¬ Ranked ws ∧
  ∀ (r : List Nat) (l dx : Addr) (H' : Hp), IsRing ws r → Same H H' → H l = none → H' l = some (.lst (ivs r)) → H' dx = none → E (.ref CR) (some dx) (upd H' dx (.xd [(("ring" : Str), .ref l)]))
section
variable {P : Program} {w : World} {K : PySem.W.Frag} {mg : Str → Option Value} {base : Heap}
theorem ok_chkWiresW {f fW fT aK aW aF : Addr} {fd fdW fdT : FuncData} (F : Fun K "check_wires" "check_wires" sChkWires f fd) (B : Bt mg) (C : Cns K mg aK aW aF) (DW : DIsWire P w K mg base fW fdW) (DT : DTaken P w K mg base fT fdT) : FnOk P w K mg base CX0 5 f fd ["gates", "wires"] (spChkWiresW K) := by
  refine F.ok scChkWires (fun vs H Q E h => ?_) (fun cdv A outer s H vs Q E hr h => ?_)
  · obtain ⟨lg, lw, gs, ws, rfl, _⟩ := h
    rfl
  · obtain ⟨lg, lw, gs, ws, rfl, RGs, ⟨wv, sw, wa⟩, N, q⟩ := h
    have nd := scChkWires.nd
    have hr1 : Room 1 _ := hr.mono (by decide)
    refine ⟨_, pss_cons (ps_if (pt_not (pt_val (pe_callB call_isi (by rfl) B.isi (by decide +kernel) (pa_cons (pv 1) (pa_cons (pe_bltn (v := .ty "list") (by rfl) B.list (by decide +kernel) rfl) pa_nil))))) (pss_one ps_never) pss_nil) <|
      pss_cons (ps_set (i := 2) nd rfl (Or.inl rfl) (pe_op op_rep (pe_lst (pa_cons pe_int pa_nil)) (pe_callB call_len_seq (by rfl) B.len PySem.boot_len (pa_cons (pv 0) pa_nil)))) <|
      pss_cons (ps_for PassesOwn.never rfl (pi_enum (by rfl) B.enum (pa_cons (pv 1) pa_nil)) (pg_tup rfl (pgs_cons (pg_name (i := 3) nd rfl (Or.inl rfl)) (pgs_cons (pg_name (i := 4) nd rfl (Or.inl rfl)) pgs_nil))) <|
        pss_cons (ps_if (PW.pt (pw_or (pt_not (pt_val (pe_call DW.ok hr (by rfl) DW.mg DW.kp DW.bd .nil pass0 (pa_cons (pv 4) (pa_cons (pe_callB call_len_seq (by rfl) B.len PySem.boot_len (pa_cons (pv 0) pa_nil)) pa_nil)))))
            (pw_or1 (pt_not (pt_val (pe_call DT.ok hr1 (by rfl) DT.mg DT.kp DT.bd .nil pass0 (pa_cons (pv 4) (pa_cons (pv 0) (pa_cons (pv 2) pa_nil))))))))) (pss_one ps_never) pss_nil) <|
        pss_one <| ps_augS (pv 2) (pe_ix ix_tup (pv 4) pe_int (fun _ _ => rfl)) get_list pe_int ip_add set_list) <|
      pss_one <| ps_for PassesOwn.never rfl (pi_zip (by rfl) B.zip (pa_cons (pv 0) (pa_cons (pv 2) pa_nil))) (pg_tup rfl (pgs_cons (pg_name (i := 5) nd rfl (Or.inl rfl)) (pgs_cons (pg_name (i := 6) nd rfl (Or.inl rfl)) pgs_nil))) <|
        pss_one <| ps_if (PW.pt (pw_and (pt_cmpR op_in_seq (pe_ix ix_tup (pv 5) pe_int (fun _ _ => rfl)) (pe_glob (v := .ref aF) (by rfl) C.mF rfl) (by rfl)) (pw_and1 (pt_cmpR op_eq (pv 6) pe_int (nomark _))))) (pss_one ps_never) pss_nil, ?_⟩
    obtain ⟨gv, sg, ga⟩ := id RGs
    have hlg : gv.length = gs.length := ga.1
    have hlw : wv.length = ws.length := wa.1
    have hgl := N.gl
    refine ⟨_, rfl, _, _, _, _, true, rfl, .ty "list", ty_lst sw, kit_ty (by decide +kernel), true, rfl, iteF ?_⟩
    refine ⟨(by show 1 ≤ sizeLine; decide), fun l0 hl0 => ?_⟩
    refine ⟨_, rfl, lg, gv, rfl, .inl ((same_new hl0).seq sg), ?_⟩
    refine ⟨l0, _, _, rfl, rfl, upd_same, by omega, by omega, ?_, fun lc hlc => ?_⟩
    · show 1 * _ ≤ sizeLine
      have : 1 * ((gv.length : Int)).toNat ≤ 1000 := by omega
      exact Nat.le_of_lt (small1000 this)
    have sm0 : Same H (upd H l0 (.lst [.int 0])) := same_new hl0
    have hlc0 : H lc = none := sm0.free hlc
    have e0 : (List.replicate ((gv.length : Int)).toNat [V.int 0]).flatten = (cntL gs.length (ws.take 0)).map fun i => V.int (i : Nat) := by
      rw [List.take_zero, cntL_nil, List.map_replicate, ← hlg, Int.toNat_natCast]
      generalize gv.length = n
      induction n with
      | zero => rfl
      | succ n ih =>
        rw [List.replicate_succ, List.flatten_cons, ih, List.replicate_succ]
        rfl
    rw [e0]
    -- for place, thing in enumerate(wires)
    refine ⟨_, rfl, lw, wv, rfl, (sm0.trans (same_new hlc)).seq sw, for_it (walk_enum (K := K) (a := lw) (xs := wv)) (fun i σ H2 => ∃ s3 s4 : Option V, σ = [some (.ref lg), some (.ref lw), some (.ref lc), s3, s4, none, none] ∧
        H2 lc = some (.lst ((cntL gs.length (ws.take i)).map fun i => V.int (i : Nat))) ∧ Same H H2)
      ⟨_, _, rfl, upd_same, sm0.trans (same_new hlc)⟩ (fun i σ H2 _ ⟨_, _, _, _, sm⟩ => sm.seq sw) ?_ ?_⟩
    · rintro i v σ H2 H2' hi ⟨s3, s4, rfl, hc, sm⟩ ⟨T, x1, y, rfl, hT, rfl, ex, ey⟩
      cases ex
      obtain ⟨x, hx, wx⟩ := wa.get ey
      have W := N.wok x (List.mem_of_getElem? hx)
      have hxi : i < ws.length := (List.getElem?_eq_some_iff.mp hx).1
      have smT : Same H2 (upd H2 T (.tup [.int (i : Nat), y])) := same_new hT
      have sm2 := sm.trans smT
      refine ⟨T, _, rfl, .inl (.inl upd_same), rfl, _, _, rfl, _, _, rfl, rfl, ?_⟩
      refine ⟨_, rfl, _, rfl, lg, gv, rfl, .inl (sm2.seq sg), y, x, gv.length, rfl, wx.tk (TK.same sm2), by rw [hlg]; exact W.s, by rw [hlg]; exact W.e, W.r, by have := W.rl; omega, fun H3 sm3 => ⟨true, rfl, iteF ?_⟩⟩
      have sm4 := sm2.trans sm3
      have hc3 := sm3 _ _ (smT _ _ hc)
      refine ⟨_, rfl, _, rfl, _, rfl, y, x, lg, lc, gs, cntL gs.length (ws.take i), rfl, wx.tk (TK.same sm4), RGs.same sm4, SqL.of hc3, W, cntL_len _ _, fun hk => ?_, true, rfl, iteF ?_⟩
      · rw [cntL_get W.e]
        have h1 := N.one _ W.e hk
        have h2 := cnt_take_lt hx
        congr 1
        omega
      obtain ⟨a, b, rfl, sq1, sq2⟩ := wx
      have hlen : x.2.1 < (cntL gs.length (ws.take i)).length := by rw [cntL_len]; exact W.e
      refine ⟨_, rfl, _, rfl, a, _, 1, _, rfl, rfl, (TK.same sm4).seq sq1, atI_nat (j := 1) rfl, lc, _, x.2.1, .int (cnt (ws.take i) x.2.1 : Nat), rfl, rfl, SqL.of hc3, by rw [List.getElem?_map, cntL_get W.e]; rfl, _, _, rfl, rfl, lc, _, _, x.2.1, rfl, rfl, hc3, Evl.ixN_nat (by rw [List.length_map]; exact hlen), ?_⟩
      refine ⟨_, _, rfl, ?_, same_mut sm4 hlc0⟩
      have et : ws.take (i + 1) = ws.take i ++ [x] := by rw [List.take_add_one, hx]; rfl
      rw [upd_same, et, ← cntL_app W.e, ← map_set']
      rfl
    · rintro σ H2 ⟨s3, s4, rfl, hc, sm⟩
      rw [hlw, List.take_length] at hc
      -- for gate, many in zip(gates, come)
      refine ⟨_, rfl, _, rfl, lg, lc, gv, _, rfl, sm.seq sg, SqL.of hc, RZ.for_zipL (K := K) (a := lg) (b := lc) (xs := gv) (by rw [List.length_map, cntL_len]; exact hlg) (fun i σ H3 => ∃ s5 s6 : Option V, σ = [some (.ref lg), some (.ref lw), some (.ref lc), s3, s4, s5, s6] ∧ Same H2 H3)
        ⟨_, _, rfl, Same.refl H2⟩ (fun i σ H3 ⟨_, _, _, sm3⟩ => ⟨(sm.trans sm3).seq sg, SqL.of (sm3 _ _ hc)⟩) ?_ ?_⟩
      · rintro i x y T σ H3 hx hy ⟨s5, s6, rfl, sm3⟩ hT
        obtain ⟨g, hg, a, rfl, sq⟩ := ga.get hx
        have hgi : i < gs.length := (List.getElem?_eq_some_iff.mp hg).1
        rw [List.getElem?_map, cntL_get hgi] at hy
        cases hy
        have sm4 : Same H (upd H3 T (.tup [.ref a, .int (cnt ws i : Nat)])) := (sm.trans sm3).trans (same_new hT)
        refine ⟨T, _, rfl, .inl (.inl upd_same), rfl, _, _, rfl, _, _, rfl, rfl, ?_⟩
        refine ⟨_, rfl, a, _, 0, _, rfl, rfl, (TK.same sm4).seq sq, atI_nat (j := 0) rfl, aF, _, rfl, .inr (C.sF _), rfl, rfl, _, rfl, ite2 (fun e => ?_) (fun e => ?_)⟩
        · have e' : inV (V.str g.1) [V.str "out", V.str "first"] = true := e
          have hpos : 1 ≤ cnt ws i := by
            unfold inV at e'
            rw [List.any_eq_true] at e'
            obtain ⟨x, hx, hxe⟩ := e'
            simp only [List.mem_cons, List.not_mem_nil, or_false] at hx
            rcases hx with rfl | rfl
            · have := N.one i hgi (by rw [kindAt_get hg]; exact (eq_of_beq hxe).symm)
              omega
            · exact N.some i hgi (by rw [kindAt_get hg]; exact (eq_of_beq hxe).symm)
          refine ⟨_, rfl, rfl, false, ?_, iteF ⟨_, _, rfl, sm3.trans (same_new hT)⟩⟩
          show V.bl (decide (V.int (cnt ws i : Int) = V.int 0)) = V.bl false
          rw [decide_eq_false]
          intro z
          have := V.int.inj z
          omega
        · exact iteF ⟨_, _, rfl, sm3.trans (same_new hT)⟩
      · rintro σ H3 ⟨s5, s6, rfl, sm3⟩
        exact q H3 (sm.trans sm3)
theorem ok_initR {f fG fW fR CR : Addr} {fd fdG fdW fdR : FuncData} (F : Fun K "__init__" "Net.__init__" sInit f fd) (B : Bt mg) (DG : DChkGates P w K mg base fG fdG) (DW : DChkWires P w K mg base fW fdW) (DWW : FnOk P w K mg base CX0 5 fW fdW ["gates", "wires"] (spChkWiresW K)) (DR : DChkRings P w K mg base fR fdR) (DRX : FnOk P w K mg base (L2.CX P w) 3 fR fdR ["many_gates", "wires"] (spChkRingsX K CR)) :
    FnOk P w K mg base (L2.CX P w) 6 f fd ["self", "gates", "wires"] (spInitR K CR) := by
  refine F.okX scInit (fun vs H Q E h => ?_) (fun cdv A outer s H vs Q E hr h => ?_)
  · obtain ⟨p, lg, lw, gs, ws, rfl, _⟩ := h
    rfl
  · obtain ⟨p, lg, lw, gs, ws, rfl, RGs, RWs, N, nr, q⟩ := h
    have nd := scInit.nd
    refine ⟨_, pss_cons (ps_expr (pe_call DG.ok (hr.mono (by decide)) (by rfl) DG.mg DG.kp DG.bd .nil pass0 (pa_cons (pv 1) pa_nil))) <|
      pss_cons (ps_expr (pe_call DWW (hr.mono (by decide)) (by rfl) DW.mg DW.kp DW.bd .nil pass0 (pa_cons (pv 1) (pa_cons (pv 2) pa_nil)))) <|
      pss_cons (ps_expr (pe_callS DRX (hr.mono (by decide)) (by rfl) DR.mg DR.kp DR.bd (fun σ => passAt (takes_of rfl rfl rfl rfl) σ) (pa_cons (pe_callB call_len_seq (by rfl) B.len PySem.boot_len (pa_cons (pv 1) pa_nil)) (pa_cons (pv 2) pa_nil)))) <|
      pss_cons ps_never <| pss_one ps_never, ?_⟩
    refine ⟨_, rfl, lg, gs, rfl, RGs, N.ne, N.gok, fun H1 sm1 => ?_⟩
    refine ⟨_, rfl, _, rfl, lg, lw, gs, ws, rfl, RGs.same sm1, RWs.same sm1, N, fun H2 sm2 => ?_⟩
    have s2 := sm1.trans sm2
    obtain ⟨gv, sg, ga⟩ := RGs.same s2
    have hlg : gv.length = gs.length := ga.1
    refine ⟨_, rfl, lg, gv, rfl, .inl sg, _, rfl, gv.length, lw, ws, rfl, RWs.same s2, fun x hx => ?_, by have := N.gl; omega, by have := N.wl; omega, nr, fun r l dx H3 ring sm3 hl e3 hdx => q r l dx H3 ring (s2.trans sm3) (s2.free hl) e3 hdx⟩
    rw [hlg]
    exact ⟨(N.wok x hx).s, (N.wok x hx).e⟩
end
end Lag

set_option maxRecDepth 100000
set_option maxHeartbeats 8000000
namespace Lag
open PySem PySem.Spec PyProof.Rows L2
abbrev sDrawn : Stmt := topS 33 -- @_law_drawn
theorem lgdr {K : PySem.W.Frag} {wl l : Addr} {H H' : Hp} {gs : List Gt} (h : LG K H l gs) (n : l ≠ wl) (W : WellAt wl H) (d : Dr wl H H') : LG K H' l gs := by
  obtain ⟨vs, q, a⟩ := h
  exact ⟨vs, d.but _ _ n q, a.imp fun _ _ r => r.tk (TK.dr W d.but)⟩
theorem lwdr {K : PySem.W.Frag} {wl l : Addr} {H H' : Hp} {ws : List Wr} (h : LW K H l ws) (n : l ≠ wl) (W : WellAt wl H) (d : Dr wl H H') : LW K H' l ws := by
  obtain ⟨vs, q, a⟩ := h
  exact ⟨vs, d.but _ _ n q, a.imp fun _ _ r => r.tk (TK.dr W d.but)⟩
theorem lgup {K : PySem.W.Frag} {l u : Addr} {H : Hp} {gs : List Gt} {xs : List V} {o : HO} (h : LG K H l gs) (e : H u = some (.lst xs)) (n : l ≠ u) : LG K (upd H u o) l gs := by
  obtain ⟨vs, q, a⟩ := h
  exact ⟨vs, by rw [upd_ne n]; exact q, a.imp fun _ _ r => r.tk (TK.lst e)⟩
theorem lgapp {K : PySem.W.Frag} {l : Addr} {H : Hp} {gs : List Gt} {gv : List V} {v : V} {x : Gt} (h : H l = some (.lst gv)) (a : All2 (GateV K H) gv gs) (r : GateV K H v x) : LG K (upd H l (.lst (gv ++ [v]))) l (gs ++ [x]) :=
  ⟨_, upd_same, (a.imp fun _ _ r => r.tk (TK.lst h)).snoc (r.tk (TK.lst h))⟩
theorem lwapp {K : PySem.W.Frag} {l : Addr} {H : Hp} {gs : List Wr} {gv : List V} {v : V} {x : Wr} (h : H l = some (.lst gv)) (a : All2 (WireV K H) gv gs) (r : WireV K H v x) : LW K (upd H l (.lst (gv ++ [v]))) l (gs ++ [x]) :=
  ⟨_, upd_same, (a.imp fun _ _ r => r.tk (TK.lst h)).snoc (r.tk (TK.lst h))⟩
/-- a gate as drawn, at its place -/
def DG1 (i : Nat) (x : Gt) : Prop := ((x.1 = "sum" ∨ x.1 = "times" ∨ x.1 = "most" ∨ x.1 = "least" ∨ x.1 = "one") ∧ 0 ≤ x.2 ∧ x.2 ≤ 9) ∨ (i = 0 ∧ x = (("in" : Str), (0 : Int)))
structure DrawnOk (gs : List Gt) (ws : List Wr) : Prop where
  l2 : 2 ≤ gs.length
  l9 : gs.length ≤ 9
  g : ∀ i x, gs[i]? = some x → DG1 i x
  wl : ws.length ≤ 15
  w : ∀ x ∈ ws, x.1 < gs.length ∧ x.2.1 < gs.length ∧ kindAt gs x.2.1 ≠ "in" ∧ ROk x.2.2 ∧ x.2.2.length ≤ 2
theorem plain_kind : ∀ k : Str, (k = "sum" ∨ k = "times" ∨ k = "most" ∨ k = "least" ∨ k = "one") → k ∈ kinds ∧ ¬ (k = "in" ∨ k = "out") ∧ k ≠ "out" ∧ k ≠ "first" := by
  rintro k (rfl | rfl | rfl | rfl | rfl) <;> decide +kernel
theorem gn_norm {i : Nat} {x : V} {σ σ' : L2.St} {H : Hp} {N : L2.St → Hp → Prop} (e : σ.set i (some x) = σ') (h : N σ' H) : gName i x σ H N := by
  subst e
  exact h
theorem DG1.ok {i : Nat} {x : Gt} (h : DG1 i x) : GOk x ∧ x.1 ≠ "out" ∧ x.1 ≠ "first" := by
  rcases h with ⟨hk, h0, h9⟩ | ⟨_, rfl⟩
  · obtain ⟨k, z⟩ := x
    have hk : k = "sum" ∨ k = "times" ∨ k = "most" ∨ k = "least" ∨ k = "one" := hk
    have h0 : 0 ≤ z := h0
    have h9 : z ≤ 9 := h9
    obtain ⟨k1, k2, k3, k4⟩ := plain_kind k hk
    exact ⟨⟨k1, h0, by show z ≤ 100; omega, fun p => absurd p k2⟩, k3, k4⟩
  · exact ⟨⟨by decide +kernel, by decide, by decide, fun _ => rfl⟩, by decide +kernel, by decide +kernel⟩
theorem kind_ne {gs : List Gt} {k : Str} (hk : k ≠ "") (h : ∀ x ∈ gs, x.1 ≠ k) (e : Nat) : kindAt gs e ≠ k := by
  intro z
  cases g : gs[e]? with
  | none =>
    unfold kindAt at z
    rw [List.getD_eq_getElem?_getD, g] at z
    exact hk z.symm
  | some x =>
    rw [kindAt_get g] at z
    exact h x (List.mem_of_getElem? g) z
theorem DrawnOk.net {gs : List Gt} {ws : List Wr} (D : DrawnOk gs ws) : NetOkW gs ws := by
  have all : ∀ x ∈ gs, GOk x ∧ x.1 ≠ "out" ∧ x.1 ≠ "first" := fun x hx => by
    obtain ⟨i, hi⟩ := List.getElem?_of_mem hx
    exact (D.g i x hi).ok
  have no : ∀ e, kindAt gs e ≠ "out" := kind_ne (by decide +kernel) fun x hx => (all x hx).2.1
  have nf : ∀ e, kindAt gs e ≠ "first" := kind_ne (by decide +kernel) fun x hx => (all x hx).2.2
  refine ⟨?_, by have := D.l9; omega, by have := D.wl; omega, fun x hx => (all x hx).1, fun x hx => ?_, fun e _ h => absurd h (no e), fun e _ h => absurd h (nf e)⟩
  · intro z
    have := D.l2
    rw [z] at this
    simp at this
  · obtain ⟨a, b, c, d, e⟩ := D.w x hx
    exact ⟨a, b, no _, c, d, by omega⟩
def spDrawn (K : PySem.W.Frag) : Sp := fun vs H Q _ => ∃ wl : Addr, vs = [.ref wl] ∧ WellAt wl H ∧ ∀ (gs : List Gt) (ws : List Wr) (lg lw p : Addr) (H' : Hp), DrawnOk gs ws → Dr wl H H' → H lg = none → H lw = none → lg ≠ lw → LG K H' lg gs → LW K H' lw ws → H' p = some (.tup [.ref lg, .ref lw]) → Q (.ref p) H'
section
variable {P : Program} {w : World} {K : PySem.W.Frag} {mg : Str → Option Value} {base : Heap}
abbrev nDrawn : List Str := ["_law_well_here", "_law_gates", "_law_k", "_law_begin", "_law_wires", "_law_bare", "_law_start", "_law_end", "_law_j", "_law_regs"]
theorem scDrawn : FnScope nDrawn ["_law_well_here"] (defScope sDrawn) := ⟨rfl, rfl, rfl, by decide +kernel, rfl, by decide +kernel, by decide +kernel⟩

abbrev DDrawn (P : Program) (w : World) (K : PySem.W.Frag) (mg : Str → Option Value) (base : Heap) := Df P w K mg base 3 "_law_drawn" ["_law_well_here"] (spDrawn K)
theorem ok_drawn {f fD fO : Addr} {fd fdD fdO : FuncData} (F : Fun K "_law_drawn" "_law_drawn" sDrawn f fd) (hm : mg "_law_drawn" = some (.ref f)) (B : Bt mg) (DD : DDraw P w K mg base fD fdD) (DO : DOne P w K mg base fO fdO) : DDrawn P w K mg base f fd := by
  refine ⟨?_, hm, F.kp, F.binds fun _ _ _ _ _ _ us hl => match us, hl with | [_], _ => rfl⟩
  refine F.ok scDrawn (fun vs H Q E h => ?_) (fun cdv A outer s H vs Q E hr h => ?_)
  · obtain ⟨wl, rfl, _⟩ := h
    rfl
  · obtain ⟨wl, rfl, W0, q⟩ := h
    have nd := scDrawn.nd
    refine ⟨_, pss_cons (ps_set (i := 1) nd rfl (.inl rfl) (pe_lst pa_nil)) <|
        pss_cons (ps_for PassesOwn.never rfl (pi_range1 (by rfl) B.range (pa_cons (pe_op op_add pe_int (pe_call DD.ok (hr.mono (by decide)) (by rfl) DD.mg DD.kp DD.bd .nil pass0 (pa_cons (pv 0) (pa_cons pe_int pa_nil)))) pa_nil)) (pg_name (i := 2) nd rfl (.inl rfl)) (pss_one (ps_expr (pe_bm PySem.F.plainAttrs_list PySem.F.slot_list_append PySem.F.type_list_append mt_append (pv 1) (pa_cons (pe_tup (pa_cons (pe_call DO.ok (hr.mono (by decide)) (by rfl) DO.mg DO.kp DO.bd .nil pass0 (pa_cons (pv 0) (pa_cons (pe_lst (pa_cons pe_str (pa_cons pe_str (pa_cons pe_str (pa_cons pe_str (pa_cons pe_str pa_nil)))))) pa_nil))) (pa_cons (pe_call DD.ok (hr.mono (by decide)) (by rfl) DD.mg DD.kp DD.bd .nil pass0 (pa_cons (pv 0) (pa_cons pe_int pa_nil))) pa_nil))) pa_nil))))) <|
        pss_cons (ps_set (i := 3) nd rfl (.inl rfl) (pe_call DD.ok (hr.mono (by decide)) (by rfl) DD.mg DD.kp DD.bd .nil pass0 (pa_cons (pv 0) (pa_cons pe_int pa_nil)))) <|
        Evl.pss_cut (ps_if (pt_cmpR op_eq (pv 3) pe_int (nomark _)) (pss_one (ps_asg (pe_tup (pa_cons pe_str (pa_cons pe_int pa_nil))) (pg_sub (pv 1) pe_int set_list))) pss_nil) <|
        pss_cons (ps_set (i := 4) nd rfl (.inl rfl) (pe_lst pa_nil)) <|
        pss_cons (ps_set (i := 5) nd rfl (.inl rfl) (pe_call DO.ok (hr.mono (by decide)) (by rfl) DO.mg DO.kp DO.bd .nil pass0 (pa_cons (pv 0) (pa_cons (pe_lst (pa_cons pe_int (pa_cons pe_int (pa_cons pe_int pa_nil)))) pa_nil)))) <|
        pss_cons (ps_for PassesOwn.never rfl (pi_range1 (by rfl) B.range (pa_cons (pe_call DD.ok (hr.mono (by decide)) (by rfl) DD.mg DD.kp DD.bd .nil pass0 (pa_cons (pv 0) (pa_cons pe_int pa_nil))) pa_nil)) (pg_name (i := 2) nd rfl (.inl rfl)) (pss_cons (ps_set (i := 6) nd rfl (.inl rfl) (pe_call DD.ok (hr.mono (by decide)) (by rfl) DD.mg DD.kp DD.bd .nil pass0 (pa_cons (pv 0) (pa_cons (pe_callB call_len_seq (by rfl) B.len PySem.boot_len (pa_cons (pv 1) pa_nil)) pa_nil)))) <|
        pss_cons (ps_set (i := 7) nd rfl (.inl rfl) (pe_op op_add (pv 3) (pe_call DD.ok (hr.mono (by decide)) (by rfl) DD.mg DD.kp DD.bd .nil pass0 (pa_cons (pv 0) (pa_cons (pe_op op_sub (pe_callB call_len_seq (by rfl) B.len PySem.boot_len (pa_cons (pv 1) pa_nil)) (pv 3)) pa_nil))))) <|
        pss_cons (ps_set (i := 9) nd rfl (.inl rfl) (pe_callTy call_tuple_of (by rfl) B.tuple (by decide +kernel) (pa_cons (pe_lc (own := [("_law_j", 8)]) (g := (gName 8)) (tt := tYes) (te := (tCall spDraw [] E0 (tCons (tVar 0) (tCons (tC (.int 97)) tNil)))) rfl nd (pi_range1 (by rfl) B.range (pa_cons (pe_op op_add pe_int (pe_call DD.ok (hr.mono (by decide)) (by rfl) DD.mg DD.kp DD.bd .nil pass0 (pa_cons (pv 0) (pa_cons pe_int pa_nil)))) pa_nil)) (blkOk_by (N := nDrawn) (sc := defScope sDrawn) (own := [("_law_j", 8)]) (by decide +kernel)) (fun _ _ _ _ _ => (pg_name (i := 8) nd rfl (.inl rfl))) (fun _ _ _ _ _ => pts_nil) (fun _ _ _ _ _ => (pe_call DD.ok (hr.mono (by decide)) (by rfl) DD.mg DD.kp DD.bd .nil pass0 (pa_cons (pv 0) (pa_cons pe_int pa_nil))))) pa_nil))) <|
        Evl.pss_cut (ps_if (pt_cmpR op_gt (pe_call DD.ok (hr.mono (by decide)) (by rfl) DD.mg DD.kp DD.bd .nil pass0 (pa_cons (pv 0) (pa_cons (pv 5) pa_nil))) pe_int (nomark _)) (pss_one (ps_set (i := 9) nd rfl (.inl rfl) (pe_tup pa_nil))) pss_nil) <|
        pss_one (ps_expr (pe_bm PySem.F.plainAttrs_list PySem.F.slot_list_append PySem.F.type_list_append mt_append (pv 4) (pa_cons (pe_tup (pa_cons (pv 6) (pa_cons (pv 7) (pa_cons (pv 9) pa_nil)))) pa_nil))))) <|
        pss_one (ps_ret (pe_tup (pa_cons (pv 1) (pa_cons (pv 4) pa_nil)))), ?_⟩
    -- gates = []
    refine ⟨Nat.zero_le _, fun g hg => ?_⟩
    have ngw : g ≠ wl := (W0.ne hg).symm
    refine ⟨_, rfl, wl, 8, rfl, by decide, by decide, W0.new hg, fun d H1 d0 d1 E1 => ?_⟩
    have D1 := (Dr.new (o := .lst []) W0 hg).trans E1
    refine ⟨_, _, rfl, rfl, _, rfl, by omega, by omega, ?_⟩
    refine for_range (lo := 0) (n := (2 + d).toNat) (fun i σ H2 => ∃ (k2 : Option V) (gs : List Gt), σ = [some (.ref wl), some (.ref g), k2, none, none, none, none, none, none, none] ∧ gs.length = i ∧ Dr wl H H2 ∧ LG K H2 g gs ∧ ∀ i x, gs[i]? = some x → DG1 i x ∧ x.1 ≠ "in")
      ⟨none, [], rfl, rfl, D1, ⟨[], E1.but _ _ ngw upd_same, All2.nil⟩, fun i x h => by cases h⟩ ?_ ?_
    · rintro i σ H2 hi ⟨k2, gs, rfl, hgl, D2, LGs, hk⟩
      refine gn_norm (σ' := [some (.ref wl), some (.ref g), some (.int (0 + (i : Nat))), none, none, none, none, none, none, none]) rfl ?_
      obtain ⟨gv, hgv, hga⟩ := id LGs
      refine ⟨_, rfl, .inl ⟨rfl, _, SqL.of hgv⟩, _, rfl, (by show 5 ≤ sizeLine; decide), fun l5 hl5 => ?_⟩
      have D3 := D2.trans (Dr.new (o := .lst [.str "sum", .str "times", .str "most", .str "least", .str "one"]) D2.well hl5)
      refine ⟨wl, l5, _, rfl, (D2.well.ne hl5).symm, D3.well, SqL.of upd_same, by simp, by show 5 < 1000000; decide, fun v H4 hv E4 => ?_⟩
      have D4 := D3.trans E4
      refine ⟨_, rfl, wl, 10, rfl, by decide, by decide, D4.well, fun z H5 z0 z1 E5 => ?_⟩
      have D5 := D4.trans E5
      refine ⟨(by show 2 ≤ sizeLine; decide), fun t ht => ?_⟩
      have L5 : LG K H5 g gs := lgdr (lgdr (lgdr LGs ngw D2.well (Dr.new D2.well hl5)) ngw D3.well E4) ngw D4.well E5
      have L6 : LG K (upd H5 t (.tup [v, .int z])) g gs := lgdr L5 ngw D5.well (Dr.new D5.well ht)
      have D6 := D5.trans (Dr.new (o := .tup [v, .int z]) D5.well ht)
      have et : (upd H5 t (.tup [v, .int z])) t = some (.tup [v, .int z]) := upd_same
      generalize upd H5 t (.tup [v, .int z]) = H6 at L6 D6 et
      obtain ⟨k, hk5, hkin⟩ : ∃ k : Str, (k = "sum" ∨ k = "times" ∨ k = "most" ∨ k = "least" ∨ k = "one") ∧ v = .str k := by
        simp only [List.mem_cons, List.not_mem_nil, or_false] at hv
        rcases hv with h | h | h | h | h
        · exact ⟨_, .inl rfl, h⟩
        · exact ⟨_, .inr (.inl rfl), h⟩
        · exact ⟨_, .inr (.inr (.inl rfl)), h⟩
        · exact ⟨_, .inr (.inr (.inr (.inl rfl))), h⟩
        · exact ⟨_, .inr (.inr (.inr (.inr rfl))), h⟩
      subst hkin
      obtain ⟨gv6, hgv6, hga6⟩ := L6
      refine ⟨g, gv6, _, rfl, rfl, hgv6, small1000 (by rw [hga6.1]; omega), _, gs ++ [(k, z)], rfl, by simp [hgl], set_well D6 hg ngw, lgapp hgv6 hga6 ⟨t, rfl, SqT.of et⟩, fun j x hx => ?_⟩
      by_cases hj : j < gs.length
      · rw [List.getElem?_append_left hj] at hx
        exact hk j x hx
      · rw [List.getElem?_append_right (by omega)] at hx
        have hx := List.mem_singleton.mp (List.mem_of_getElem? hx)
        subst hx
        refine ⟨.inl ⟨hk5, z0, by show z ≤ 9; omega⟩, ?_⟩
        show k ≠ "in"
        rcases hk5 with rfl | rfl | rfl | rfl | rfl <;> decide +kernel
    rintro σ H2 ⟨k2, gs, rfl, hgl, D2, LGs, hk⟩
    have hn2 : 2 ≤ gs.length := by omega
    have hn9 : gs.length ≤ 9 := by omega
    refine ⟨_, rfl, wl, 2, rfl, by decide, by decide, D2.well, fun b H3 b0 b1 E3 => ?_⟩
    have D3 := D2.trans E3
    have L3 := lgdr LGs ngw D2.well E3
    refine gn_norm (σ' := [some (.ref wl), some (.ref g), k2, some (.int b), none, none, none, none, none, none]) rfl ?_
    -- gates[0] = ("in", 0)
    refine ⟨fun σ Hc => ∃ gs' : List Gt, σ = [some (.ref wl), some (.ref g), k2, some (.int b), none, none, none, none, none, none] ∧ Dr wl H Hc ∧ LG K Hc g gs' ∧ gs'.length = gs.length ∧ ∀ i x, gs'[i]? = some x → DG1 i x ∧ (x.1 = "in" → (i : Int) < b), ?_, ?_⟩
    · refine ⟨_, rfl, rfl, _, rfl, ite2 (fun e => ?_) (fun e => ?_)⟩
      · have hb : b = 1 := V.int.inj (of_decide_eq_true e)
        refine ⟨(by show 2 ≤ sizeLine; decide), fun t ht => ?_⟩
        have L4 : LG K (upd H3 t (.tup [.str "in", .int 0])) g gs := lgdr L3 ngw D3.well (Dr.new D3.well ht)
        have D4 := D3.trans (Dr.new (o := .tup [.str "in", .int 0]) D3.well ht)
        have et : (upd H3 t (.tup [.str "in", .int 0])) t = some (.tup [.str "in", .int 0]) := upd_same
        generalize upd H3 t (.tup [.str "in", .int 0]) = H4 at L4 D4 et
        obtain ⟨gv4, hgv4, hga4⟩ := L4
        have hgv0 : 0 < gv4.length := by rw [hga4.1]; omega
        refine ⟨_, rfl, g, gv4, _, 0, rfl, rfl, hgv4, Evl.ixN_nat (j := 0) hgv0, ?_⟩
        refine ⟨gs.set 0 (("in" : Str), (0 : Int)), rfl, set_well D4 hg ngw, ⟨_, upd_same, ?_⟩, by simp, fun i x hx => ?_⟩
        · refine ⟨by rw [List.length_set, List.length_set]; exact hga4.1, fun i x y hx hy => ?_⟩
          rw [List.getElem?_set] at hx hy
          by_cases hi : 0 = i
          · subst hi
            rw [if_pos rfl, if_pos hgv0] at hx
            rw [if_pos rfl, if_pos (by omega)] at hy
            cases hx
            cases hy
            exact GateV.tk (TK.lst hgv4) ⟨t, rfl, SqT.of et⟩
          · rw [if_neg hi] at hx hy
            exact (hga4.2 i x y hx hy).tk (TK.lst hgv4)
        · rw [List.getElem?_set] at hx
          by_cases hi : 0 = i
          · subst hi
            rw [if_pos rfl, if_pos (by omega)] at hx
            cases hx
            exact ⟨.inr ⟨rfl, rfl⟩, fun _ => by omega⟩
          · rw [if_neg hi] at hx
            exact ⟨(hk i x hx).1, fun z => absurd z (hk i x hx).2⟩
      · exact ⟨gs, rfl, D3, L3, rfl, fun i x hx => ⟨(hk i x hx).1, fun z => absurd z (hk i x hx).2⟩⟩
    generalize hn : gs.length = n at hn2 hn9
    clear LGs L3 hk hgl D2 D3 E3 E1 D1 hn gs
    rintro σ H3 ⟨gs, rfl, D3, L3, hgl, hk⟩
    -- wires = []
    refine ⟨Nat.zero_le _, fun lw hlw => ?_⟩
    have hlw0 : H lw = none := D3.free W0 hlw
    have nww : lw ≠ wl := (D3.well.ne hlw).symm
    have ngl : g ≠ lw := by
      obtain ⟨gv, hgv, _⟩ := L3
      exact ne_of_none hgv hlw
    have L4 : LG K (upd H3 lw (.lst [])) g gs := lgdr L3 ngw D3.well (Dr.new D3.well hlw)
    have D4 := D3.trans (Dr.new (o := .lst []) D3.well hlw)
    have W4 : LW K (upd H3 lw (.lst [])) lw [] := ⟨[], upd_same, All2.nil⟩
    generalize upd H3 lw (.lst []) = H4 at L4 D4 W4
    -- bare
    refine ⟨_, rfl, (by show 3 ≤ sizeLine; decide), fun l3 hl3 => ?_⟩
    have E5 : Dr wl H4 (upd H4 l3 (.lst [.int 2, .int 3, .int 6])) := Dr.new D4.well hl3
    refine ⟨wl, l3, _, rfl, (D4.well.ne hl3).symm, (D4.trans E5).well, SqL.of upd_same, by simp, by show 3 < 1000000; decide, fun v H6 hv E6 => ?_⟩
    have E46 := E5.trans E6
    have D6 := D4.trans E46
    have L6 := lgdr L4 ngw D4.well E46
    have W6 := lwdr W4 nww D4.well E46
    obtain ⟨c, rfl, c2, c6⟩ : ∃ c : Int, v = .int c ∧ 2 ≤ c ∧ c ≤ 6 := by
      simp only [List.mem_cons, List.not_mem_nil, or_false] at hv
      rcases hv with h | h | h
      · exact ⟨2, h, by decide, by decide⟩
      · exact ⟨3, h, by decide, by decide⟩
      · exact ⟨6, h, by decide, by decide⟩
    refine gn_norm (σ' := [some (.ref wl), some (.ref g), k2, some (.int b), some (.ref lw), some (.int c), none, none, none, none]) rfl ?_
    refine ⟨_, rfl, wl, 16, rfl, by decide, by decide, D6.well, fun m H7 m0 m1 E7 => ?_⟩
    have D7 := D6.trans E7
    have L7 := lgdr L6 ngw D6.well E7
    have W7 := lwdr W6 nww D6.well E7
    clear L4 D4 W4 L6 D6 W6 E46 E5 E6 E7
    refine ⟨m, rfl, by omega, by omega, ?_⟩
    refine for_range (lo := 0) (n := m.toNat) (fun i σ Hc => ∃ (k2 s6 s7 s9 : Option V) (ws : List Wr), σ = [some (.ref wl), some (.ref g), k2, some (.int b), some (.ref lw), some (.int c), s6, s7, none, s9] ∧ ws.length = i ∧ Dr wl H Hc ∧ LG K Hc g gs ∧ LW K Hc lw ws ∧ ∀ x ∈ ws, x.1 < n ∧ x.2.1 < n ∧ b ≤ (x.2.1 : Int) ∧ ROk x.2.2 ∧ x.2.2.length ≤ 2)
      ⟨_, _, _, _, [], rfl, rfl, D7, L7, W7, fun x h => by cases h⟩ ?_ ?_
    · rintro i σ H8 hi ⟨k2', s6, s7, s9, ws, rfl, hwl, D8, L8, W8, hw⟩
      refine gn_norm (σ' := [some (.ref wl), some (.ref g), some (.int (0 + (i : Nat))), some (.int b), some (.ref lw), some (.int c), s6, s7, none, s9]) rfl ?_
      obtain ⟨gv8, hgv8, hga8⟩ := id L8
      have hl8 : gv8.length = n := by rw [hga8.1, hgl]
      -- start
      refine ⟨_, rfl, _, rfl, g, gv8, rfl, .inl (SqL.of hgv8), wl, _, rfl, by omega, by omega, D8.well, fun a H9 a0 a1 E9 => ?_⟩
      have D9 := D8.trans E9
      have L9 := lgdr L8 ngw D8.well E9
      have W9 := lwdr W8 nww D8.well E9
      refine gn_norm (σ' := [some (.ref wl), some (.ref g), some (.int (0 + (i : Nat))), some (.int b), some (.ref lw), some (.int c), some (.int a), s7, none, s9]) rfl ?_
      obtain ⟨gv9, hgv9, hga9⟩ := id L9
      have hl9 : gv9.length = n := by rw [hga9.1, hgl]
      -- end
      refine ⟨_, rfl, _, rfl, _, rfl, g, gv9, rfl, .inl (SqL.of hgv9), _, rfl, _, _, rfl, rfl, wl, _, rfl, by omega, by omega, D9.well, fun e H10 e0 e1 E10 => ?_⟩
      have D10 := D9.trans E10
      have L10 := lgdr L9 ngw D9.well E10
      have W10 := lwdr W9 nww D9.well E10
      refine ⟨_, _, rfl, rfl, ?_⟩
      refine gn_norm (σ' := [some (.ref wl), some (.ref g), some (.int (0 + (i : Nat))), some (.int b), some (.ref lw), some (.int c), some (.int a), some (.int (b + e)), none, s9]) rfl ?_
      -- regs
      refine ⟨_, rfl, wl, 2, rfl, by decide, by decide, D10.well, fun r H11 r0 r1 E11 => ?_⟩
      have D11 := D10.trans E11
      have L11 := lgdr L10 ngw D10.well E11
      have W11 := lwdr W10 nww D10.well E11
      refine ⟨_, _, rfl, rfl, _, rfl, by omega, by omega, fun D hD => ?_⟩
      have hD0 : H D = none := D11.free W0 hD
      have nDw : D ≠ wl := (D11.well.ne hD).symm
      refine lc_range (lo := 0) (n := (1 + r).toNat) (fun j Hc => ∃ rs : List Int, rs.length = j ∧ ROk rs ∧ Hc D = some (.lst (rs.map V.int)) ∧ Dr wl H11 Hc) ⟨[], rfl, by simp [ROk], upd_same, Dr.new D11.well hD⟩ ?_ ?_
      · rintro j Hc hj ⟨rs, hrl, hrk, hrD, Dc⟩
        refine ⟨rfl, tyes ?_⟩
        refine ⟨_, rfl, wl, 97, rfl, by decide, by decide, Dc.well, fun y Hd y0 y1 Ed => ?_⟩
        have h6 := Ed.but _ _ nDw hrD
        refine ⟨_, h6, by rw [List.length_map, hrl]; exact small1000 (by omega), rs ++ [y], by simp [hrl], ?_, ?_, set_well (Dc.trans Ed) hD nDw⟩
        · intro x hx
          rcases List.mem_append.mp hx with hx | hx
          · exact hrk x hx
          · simp at hx
            subst hx
            exact ⟨y0, by omega⟩
        · rw [upd_same, List.map_append]
          rfl
      rintro Hc ⟨rs, hrl, hrk, hrD, Ec⟩
      refine ⟨D, _, rfl, .inl ⟨SqL.of hrD, fun t ht => ?_⟩⟩
      have Dc := D11.trans Ec
      have Et : Dr wl Hc (upd Hc t (.tup (rs.map V.int))) := Dr.new Dc.well ht
      have et : (upd Hc t (.tup (rs.map V.int))) t = some (.tup (rs.map V.int)) := upd_same
      generalize upd Hc t (.tup (rs.map V.int)) = H12 at Et et
      have E12 := Ec.trans Et
      have D12 := D11.trans E12
      have L12 := lgdr L11 ngw D11.well E12
      have W12 := lwdr W11 nww D11.well E12
      refine gn_norm (σ' := [some (.ref wl), some (.ref g), some (.int (0 + (i : Nat))), some (.int b), some (.ref lw), some (.int c), some (.int a), some (.int (b + e)), none, some (.ref t)]) rfl ?_
      -- if draw(bare) > 0
      refine ⟨fun σ Hc => ∃ (t : Addr) (rs : List Int), σ = [some (.ref wl), some (.ref g), some (.int (0 + (i : Nat))), some (.int b), some (.ref lw), some (.int c), some (.int a), some (.int (b + e)), none, some (.ref t)] ∧ Dr wl H Hc ∧ LG K Hc g gs ∧ LW K Hc lw ws ∧ SqT K Hc t (rs.map V.int) ∧ ROk rs ∧ rs.length ≤ 2, ?_, ?_⟩
      · refine ⟨_, rfl, _, rfl, wl, c, rfl, by omega, by omega, D12.well, fun u H13 u0 u1 E13 => ⟨_, _, rfl, rfl, _, rfl, ite2 (fun _ => ?_) (fun _ => ?_)⟩⟩
        · have D13 := D12.trans E13
          refine ⟨(by show 0 ≤ sizeLine; decide), fun t2 ht2 => ?_⟩
          have Et2 : Dr wl H13 (upd H13 t2 (.tup [])) := Dr.new D13.well ht2
          exact ⟨t2, [], rfl, D13.trans Et2, lgdr (lgdr L12 ngw D12.well E13) ngw D13.well Et2, lwdr (lwdr W12 nww D12.well E13) nww D13.well Et2, SqT.of upd_same, (by intro x h; cases h), Nat.zero_le _⟩
        · exact ⟨t, rs, rfl, D12.trans E13, lgdr L12 ngw D12.well E13, lwdr W12 nww D12.well E13, (TK.dr D12.well E13.but).seq (SqT.of et), hrk, by omega⟩
      clear ht et E12 Et Ec Dc hrD hrl hrk D12 L12 W12 D11 L11 W11 t rs
      rintro σ H13 ⟨t, rs, rfl, D13, L13, W13, sqt, hrk, hrl⟩
      obtain ⟨wv, hwv, hwa⟩ := id W13
      refine ⟨_, rfl, .inl ⟨rfl, _, SqL.of hwv⟩, _, rfl, _, rfl, _, rfl, (by show 3 ≤ sizeLine; decide), fun p hp => ?_⟩
      have Ep : Dr wl H13 (upd H13 p (.tup [.int a, .int (b + e), .ref t])) := Dr.new D13.well hp
      have ep : (upd H13 p (.tup [.int a, .int (b + e), .ref t])) p = some (.tup [.int a, .int (b + e), .ref t]) := upd_same
      have sqt2 := (TK.new (o := .tup [.int a, .int (b + e), .ref t]) hp).seq sqt
      generalize upd H13 p (.tup [.int a, .int (b + e), .ref t]) = H14 at Ep ep sqt2
      have D14 := D13.trans Ep
      have L14 := lgdr L13 ngw D13.well Ep
      obtain ⟨wv4, hwv4, hwa4⟩ := lwdr W13 nww D13.well Ep
      have WV : WireV K H14 (.ref p) (a.toNat, (b + e).toNat, rs) := by
        refine ⟨p, t, rfl, ?_, sqt2⟩
        show SqT K H14 p [.int ((a.toNat : Nat) : Int), .int (((b + e).toNat : Nat) : Int), .ref t]
        rw [Int.toNat_of_nonneg a0, Int.toNat_of_nonneg (by omega)]
        exact SqT.of ep
      refine ⟨lw, wv4, _, rfl, rfl, hwv4, small1000 (by rw [hwa4.1]; omega), _, _, _, _, ws ++ [(a.toNat, (b + e).toNat, rs)], rfl, by simp [hwl], set_well D14 hlw0 nww, lgup L14 hwv4 ngl, lwapp hwv4 hwa4 WV, fun x hx => ?_⟩
      rcases List.mem_append.mp hx with hx | hx
      · exact hw x hx
      · have hx := List.mem_singleton.mp hx
        subst hx
        refine ⟨?_, ?_, ?_, hrk, hrl⟩
        · show a.toNat < n
          omega
        · show (b + e).toNat < n
          omega
        · show b ≤ ((b + e).toNat : Int)
          omega
    · rintro σ H8 ⟨k2', s6, s7, s9, ws, rfl, hwl, D8, L8, W8, hw⟩
      refine ⟨_, rfl, _, rfl, (by show 2 ≤ sizeLine; decide), fun p hp => ?_⟩
      have Ep : Dr wl H8 (upd H8 p (.tup [.ref g, .ref lw])) := Dr.new D8.well hp
      refine q gs ws g lw p _ ⟨by omega, by omega, fun i x hx => (hk i x hx).1, by omega, fun x hx => ?_⟩ (D8.trans Ep) hg hlw0 ngl (lgdr L8 ngw D8.well Ep) (lwdr W8 nww D8.well Ep) upd_same
      obtain ⟨h1, h2, h3, h4, h5⟩ := hw x hx
      refine ⟨by omega, by omega, fun z => ?_, h4, h5⟩
      have hx2 : x.2.1 < gs.length := by omega
      have ge : gs[x.2.1]? = some (gs[x.2.1]'hx2) := List.getElem?_eq_getElem hx2
      rw [kindAt_get ge] at z
      have := (hk _ _ ge).2 z
      omega
end
end Lag

set_option maxRecDepth 100000
set_option maxHeartbeats 8000000
namespace Lag
open PySem PySem.Spec PyProof.Rows L2
abbrev sHasRing : Stmt := topS 34 -- @_law_has_ring
abbrev sLIsRing : Stmt := topS 35 -- @_law_is_ring
theorem fm_take {α β : Type} {p : α → Bool} {f : α → β} {l : List α} {i : Nat} {x : α} (h : l[i]? = some x) : ((l.take (i + 1)).filter p).map f = ((l.take i).filter p).map f ++ if p x = true then [f x] else [] := by
  rw [List.take_add_one, h]
  show ((l.take i ++ [x]).filter p).map f = _
  rw [List.filter_append, List.map_append, List.filter_cons]
  by_cases e : p x = true
  · rw [if_pos e, if_pos e]
    rfl
  · rw [if_neg e, if_neg e]
    rfl
def spHasRing (K : PySem.W.Frag) : Sp := fun vs H Q _ => ∃ (lg lw : Addr) (gs : List Gt) (ws : List Wr), vs = [.ref lg, .ref lw] ∧ LG K H lg gs ∧ LW K H lw ws ∧ gs.length ≤ 9 ∧ ws.length ≤ 15 ∧ ∀ H', Same H H' → Q (.bl (hasRing ws gs.length)) H'
def spIsRing (K : PySem.W.Frag) : Sp := fun vs H Q _ => ∃ (lw lr : Addr) (ws : List Wr) (r : List Nat), vs = [.ref lw, .ref lr] ∧ LW K H lw ws ∧ H lr = some (.lst (ivs r)) ∧ IsRing ws r ∧ r.length ≤ 1000 ∧ ∀ H', Same H H' → Q (.bl true) H'
section
variable {P : Program} {w : World} {K : PySem.W.Frag} {mg : Str → Option Value} {base : Heap}
abbrev nHasRing : List Str := ["_law_gates", "_law_wires", "_law_k", "_law_wire", "_law_come", "_law_turn"]
theorem scHasRing : FnScope nHasRing ["_law_gates", "_law_wires"] (defScope sHasRing) := ⟨rfl, rfl, rfl, by decide +kernel, rfl, by decide +kernel, by decide +kernel⟩

abbrev DHasRing (P : Program) (w : World) (K : PySem.W.Frag) (mg : Str → Option Value) (base : Heap) := Df P w K mg base 1 "_law_has_ring" ["_law_gates", "_law_wires"] (spHasRing K)
theorem ok_hasRing {f : Addr} {fd : FuncData} (F : Fun K "_law_has_ring" "_law_has_ring" sHasRing f fd) (hm : mg "_law_has_ring" = some (.ref f)) (B : Bt mg) : DHasRing P w K mg base f fd := by
  refine ⟨?_, hm, F.kp, F.binds fun _ _ _ _ _ _ us hl => match us, hl with | [_, _], _ => rfl⟩
  refine F.ok scHasRing (fun vs H Q E h => ?_) (fun cdv A outer s H vs Q E hr h => ?_)
  · obtain ⟨lg, lw, gs, ws, rfl, _⟩ := h
    rfl
  · obtain ⟨lg, lw, gs, ws, rfl, ⟨gv, hgv, hga⟩, ⟨wv, hwv, hwa⟩, hgl, hwl, q⟩ := h
    have nd := scHasRing.nd
    refine ⟨_, pss_cons (ps_for PassesOwn.never rfl (pi_range1 (by rfl) B.range (pa_cons (pe_callB call_len_seq (by rfl) B.len PySem.boot_len (pa_cons (pv 0) pa_nil)) pa_nil)) (pg_name (i := 2) nd rfl (.inr rfl)) (pss_cons (ps_set (i := 4) nd rfl (.inr rfl) (pe_lc (own := [("_law_wire", 3)]) (g := (gName 3)) (tt := (tAnd (tTest (tOp rEq (tOp (rIxT K) (tVar 3) (tC (.int 0))) (tVar 2))) (tTest (tOp (rEqD K) (tOp (rIxT K) (tVar 3) (tC (.int 2))) (tTup tNil))))) (te := (tOp (rIxT K) (tVar 3) (tC (.int 1)))) rfl nd (pi_list (pv 1)) (blkOk_by (N := nHasRing) (sc := defScope sHasRing) (own := [("_law_wire", 3)]) (by decide +kernel)) (fun _ _ _ _ _ => (pg_name (i := 3) nd rfl (.inl rfl))) (fun _ _ _ _ _ => pts_one (PW.pt (pw_and (pt_cmpR op_eq (pe_ix ix_tup (pv 3) pe_int (fun _ _ => rfl)) (pv 2) (nomark _)) (pw_and1 (pt_cmpR (op_eqD hr.units) (pe_ix ix_tup (pv 3) pe_int (fun _ _ => rfl)) (pe_tup pa_nil) (nomark _)))))) (fun _ _ _ _ _ => (pe_ix ix_tup (pv 3) pe_int (fun _ _ => rfl))))) <|
        pss_cons (ps_for PassesOwn.never rfl (pi_list (pv 0)) (pg_name (i := 5) nd rfl (.inl rfl)) (pss_one (ps_set (i := 4) nd rfl (.inr rfl) (pe_op op_cat (pv 4) (pe_lc (own := [("_law_wire", 3)]) (g := (gName 3)) (tt := (tAnd (tTest (tOp (rIn K false) (tOp (rIxT K) (tVar 3) (tC (.int 0))) (tVar 4))) (tAnd (tTest (tOp (rEqD K) (tOp (rIxT K) (tVar 3) (tC (.int 2))) (tTup tNil))) (tTest (tOp (rIn K true) (tOp (rIxT K) (tVar 3) (tC (.int 1))) (tVar 4)))))) (te := (tOp (rIxT K) (tVar 3) (tC (.int 1)))) rfl nd (pi_list (pv 1)) (blkOk_by (N := nHasRing) (sc := defScope sHasRing) (own := [("_law_wire", 3)]) (by decide +kernel)) (fun _ _ _ _ _ => (pg_name (i := 3) nd rfl (.inl rfl))) (fun _ _ _ _ _ => pts_one (PW.pt (pw_and (pt_cmpR op_in_seq (pe_ix ix_tup (pv 3) pe_int (fun _ _ => rfl)) (pv 4) (by rfl)) (pw_and (pt_cmpR (op_eqD hr.units) (pe_ix ix_tup (pv 3) pe_int (fun _ _ => rfl)) (pe_tup pa_nil) (nomark _)) (pw_and1 (pt_cmpR op_notIn_seq (pe_ix ix_tup (pv 3) pe_int (fun _ _ => rfl)) (pv 4) (by rfl))))))) (fun _ _ _ _ _ => (pe_ix ix_tup (pv 3) pe_int (fun _ _ => rfl)))))))) <|
        pss_one (ps_if (pt_cmpR op_in_seq (pv 2) (pv 4) (by rfl)) (pss_one (ps_ret pe_bl)) pss_nil))) <|
        pss_one (ps_ret pe_bl), ?_⟩
    have hlg : gv.length = gs.length := hga.1
    have hlw : wv.length = ws.length := hwa.1
    have reg : ∀ {Hc : Hp} {x : Wr} {b t0 : Addr} {Q : VK}, SqT K Hc b (x.2.2.map V.int) → SqT K Hc t0 [] → Q (.bl (decide (x.2.2 = []))) Hc → rEqD K (.ref b) (.ref t0) Hc Q := fun {Hc x b t0 Q} s1 s2 hq => by
      refine ⟨.tuple (x.2.2.map PyData.int), .tuple [], .tup s1 (ints_dp _), .tup s2 .nil, ?_, rfl, ?_⟩
      · refine Sh.ok (k := 1) (sh_tuple fun d hd => ?_) (by decide)
        obtain ⟨z, _, rfl⟩ := List.mem_map.mp hd
        exact sh_int _
      · have e : PyData.eqv (.tuple (x.2.2.map PyData.int)) (.tuple []) = decide (x.2.2 = []) := by
          cases x.2.2 <;> rfl
        rw [e]
        exact hq
    refine ⟨_, rfl, lg, gv, rfl, .inl (SqL.of hgv), _, rfl, by omega, by omega, ?_⟩
    refine for_range (lo := 0) (n := ((gv.length : Int)).toNat) (fun i σ Hc => ∃ s2 s4 s5 : Option V, σ = [some (.ref lg), some (.ref lw), s2, none, s4, s5] ∧ Same H Hc ∧ ∀ k, k < i → (comeN ws k gs.length).contains k = false) ⟨_, _, _, rfl, Same.refl H, fun k h => by omega⟩ ?_ ?_
    · rintro i σ H1 hi ⟨s2, s4, s5, rfl, sm1, hno⟩
      have e0 : (0 : Int) + (i : Int) = (i : Int) := Int.zero_add _
      rw [e0]
      refine gn_norm (σ' := [some (.ref lg), some (.ref lw), some (.int (i : Nat)), none, s4, s5]) rfl ?_
      -- come
      refine ⟨_, rfl, lw, rfl, ⟨_, SqL.of (sm1 _ _ hwv)⟩, fun D hD => ?_⟩
      have hD0 : H D = none := sm1.free hD
      refine lc_list (K := K) (a := lw) (xs := wv) (fun j Hc => Hc D = some (.lst (ivs (come0 (ws.take j) i))) ∧ Same H Hc) ⟨upd_same, sm1.trans (same_new hD)⟩ (fun j Hc _ ⟨_, sm⟩ => SqL.of (sm _ _ hwv)) ?_ ?_
      · rintro j v Hc hv ⟨hacc, smc⟩
        obtain ⟨x, hx, a, b, rfl, sq1, sq2⟩ := hwa.get hv
        have hj : j < ws.length := (List.getElem?_eq_some_iff.mp hx).1
        have tc : TK H Hc := TK.same smc
        have step : come0 (ws.take (j + 1)) i = come0 (ws.take j) i ++ if (x.1 == i && x.2.2.isEmpty) = true then [x.2.1] else [] := fm_take hx
        have hl0 : (ivs (come0 (ws.take j) i)).length ≤ 15 := by
          unfold ivs come0
          rw [List.length_map, List.length_map]
          have h1 := List.length_filter_le (fun x : Wr => x.1 == i && x.2.2.isEmpty) (ws.take j)
          rw [List.length_take] at h1
          omega
        have skip : ¬ (x.1 == i && x.2.2.isEmpty) = true → ∀ {Hd : Hp}, Same Hc Hd → Hd D = some (.lst (ivs (come0 (ws.take (j + 1)) i))) ∧ Same H Hd := fun h {Hd} s => by
          rw [step, if_neg h, List.append_nil]
          exact ⟨s _ _ hacc, smc.trans s⟩
        refine ⟨rfl, ?_⟩
        refine ⟨_, rfl, a, _, 0, _, rfl, rfl, tc.seq sq1, atI_nat (j := 0) rfl, _, rfl, rfl, _, rfl, ite2 (fun e => ?_) (fun e => iteF ?_)⟩
        · have hk : x.1 = i := by
            have := V.int.inj (of_decide_eq_true e)
            omega
          refine ⟨_, rfl, a, _, 2, _, rfl, rfl, tc.seq sq1, atI_nat (j := 2) rfl, Nat.zero_le _, fun t0 ht0 => ?_⟩
          have st0 : Same Hc (upd Hc t0 (.tup [])) := same_new ht0
          have et0 : (upd Hc t0 (.tup [])) t0 = some (.tup []) := upd_same
          generalize upd Hc t0 (.tup []) = Hd at st0 et0
          have tc0 : TK H Hd := TK.same (smc.trans st0)
          refine reg (tc0.seq sq2) (SqT.of et0) ⟨_, rfl, ite2 (fun e => ?_) (fun e => ?_)⟩
          · have he : x.2.2 = [] := of_decide_eq_true e
            refine ⟨_, rfl, a, _, 1, _, rfl, rfl, tc0.seq sq1, atI_nat (j := 1) rfl, _, st0 _ _ hacc, small1000 (by omega), ?_, same_mut (smc.trans st0) hD0⟩
            rw [upd_same, step, if_pos (by rw [hk, he]; simp)]
            unfold ivs
            rw [List.map_append]
            rfl
          · exact skip (fun z => by
              rw [Bool.and_eq_true] at z
              exact e (decide_eq_true (List.isEmpty_iff.mp z.2))) st0
        · exact skip (fun z => by
            rw [Bool.and_eq_true] at z
            refine e (decide_eq_true ?_)
            rw [eq_of_beq z.1]) (Same.refl _)
      rintro H2 ⟨hD2, sm2⟩
      rw [hlw, List.take_length] at hD2
      -- the turns
      refine ⟨_, rfl, lg, rfl, ⟨_, SqL.of (sm2 _ _ hgv)⟩, for_list (K := K) (a := lg) (xs := gv) (fun t σ Hc => ∃ (c : Addr) (s5 : Option V), σ = [some (.ref lg), some (.ref lw), some (.int (i : Nat)), none, some (.ref c), s5] ∧ Hc c = some (.lst (ivs (comeN ws i t))) ∧ Same H Hc)
        ⟨D, _, rfl, hD2, sm2⟩ (fun t σ Hc _ ⟨_, _, _, _, sm⟩ => SqL.of (sm _ _ hgv)) ?_ ?_⟩
      · rintro t v σ H3 hv ⟨c, s5, rfl, hc, sm3⟩
        have htl : t < gs.length := by
          have := (List.getElem?_eq_some_iff.mp hv).1
          omega
        refine gn_norm (σ' := [some (.ref lg), some (.ref lw), some (.int (i : Nat)), none, some (.ref c), some v]) rfl ?_
        refine ⟨_, rfl, _, rfl, lw, rfl, ⟨_, SqL.of (sm3 _ _ hwv)⟩, fun D hD => ?_⟩
        have hD0 : H D = none := sm3.free hD
        have ncD : c ≠ D := ne_of_none hc hD
        have hcl : (comeN ws i t).length ≤ 200 := by
          have h1 := come_len (ws := ws) (k := i) t
          have h2 : ws.length * (t + 1) ≤ 15 * 10 := Nat.mul_le_mul hwl (by omega)
          omega
        generalize hC : comeN ws i t = C at hc hcl
        refine lc_list (K := K) (a := lw) (xs := wv) (fun j Hc => Hc D = some (.lst (ivs (((ws.take j).filter fun x => C.contains x.1 && (x.2.2.isEmpty && !C.contains x.2.1)).map fun x => x.2.1))) ∧ Hc c = some (.lst (ivs C)) ∧ Same H Hc) ⟨upd_same, same_new hD _ _ hc, sm3.trans (same_new hD)⟩ (fun j Hc _ ⟨_, _, sm⟩ => SqL.of (sm _ _ hwv)) ?_ ?_
        · rintro j v Hc hv ⟨hacc, hcc, smc⟩
          obtain ⟨x, hx, a, b, rfl, sq1, sq2⟩ := hwa.get hv
          have hj : j < ws.length := (List.getElem?_eq_some_iff.mp hx).1
          have tc : TK H Hc := TK.same smc
          have step := fm_take (p := fun x : Wr => C.contains x.1 && (x.2.2.isEmpty && !C.contains x.2.1)) (f := fun x : Wr => x.2.1) hx
          have hl0 : (ivs (((ws.take j).filter fun x => C.contains x.1 && (x.2.2.isEmpty && !C.contains x.2.1)).map fun x => x.2.1)).length ≤ 15 := by
            unfold ivs
            rw [List.length_map, List.length_map]
            have h1 := List.length_filter_le (fun x : Wr => C.contains x.1 && (x.2.2.isEmpty && !C.contains x.2.1)) (ws.take j)
            rw [List.length_take] at h1
            omega
          have skip : ¬ (C.contains x.1 && (x.2.2.isEmpty && !C.contains x.2.1)) = true → ∀ {Hd : Hp}, Same Hc Hd → Hd D = some (.lst (ivs (((ws.take (j + 1)).filter fun x => C.contains x.1 && (x.2.2.isEmpty && !C.contains x.2.1)).map fun x => x.2.1))) ∧ Hd c = some (.lst (ivs C)) ∧ Same H Hd := fun h {Hd} s => by
            rw [step, if_neg h, List.append_nil]
            exact ⟨s _ _ hacc, s _ _ hcc, smc.trans s⟩
          have con : ∀ k : Nat, C.contains k = decide (k ∈ C) := fun k => by
            rw [Bool.eq_iff_iff, List.contains_iff_mem, decide_eq_true_iff]
          refine ⟨rfl, ?_⟩
          refine ⟨_, rfl, a, _, 0, _, rfl, rfl, tc.seq sq1, atI_nat (j := 0) rfl, _, rfl, c, _, rfl, .inl (SqL.of hcc), rfl, flat_ivs _, _, rfl, ite2 (fun e => ?_) (fun e => iteF ?_)⟩
          · have hk : x.1 ∈ C := by
              rw [inv_ivs] at e
              exact of_decide_eq_true e
            refine ⟨_, rfl, a, _, 2, _, rfl, rfl, tc.seq sq1, atI_nat (j := 2) rfl, Nat.zero_le _, fun t0 ht0 => ?_⟩
            have st0 : Same Hc (upd Hc t0 (.tup [])) := same_new ht0
            have et0 : (upd Hc t0 (.tup [])) t0 = some (.tup []) := upd_same
            generalize upd Hc t0 (.tup []) = Hd at st0 et0
            have tc0 : TK H Hd := TK.same (smc.trans st0)
            refine reg (tc0.seq sq2) (SqT.of et0) ⟨_, rfl, ite2 (fun e => ?_) (fun e => iteF ?_)⟩
            · have he : x.2.2 = [] := of_decide_eq_true e
              refine ⟨_, rfl, a, _, 1, _, rfl, rfl, tc0.seq sq1, atI_nat (j := 1) rfl, _, rfl, c, _, rfl, .inl (SqL.of (st0 _ _ hcc)), rfl, flat_ivs _, !decide (x.2.1 ∈ C), (by rw [← inv_ivs]; rfl), ite2 (fun e2 => ?_) (fun e2 => ?_)⟩
              · have hn : x.2.1 ∉ C := by simpa using e2
                refine ⟨_, rfl, a, _, 1, _, rfl, rfl, tc0.seq sq1, atI_nat (j := 1) rfl, _, st0 _ _ hacc, small1000 (by omega), ?_, ?_, same_mut (smc.trans st0) hD0⟩
                · rw [upd_same, step, if_pos (by rw [con, con, decide_eq_true hk, decide_eq_false hn, he]; rfl)]
                  unfold ivs
                  rw [List.map_append]
                  rfl
                · rw [upd_ne ncD]
                  exact st0 _ _ hcc
              · exact skip (fun z => by
                  rw [Bool.and_eq_true, Bool.and_eq_true, con x.2.1] at z
                  exact e2 z.2.2) st0
            · exact skip (fun z => by
                rw [Bool.and_eq_true, Bool.and_eq_true] at z
                exact e (decide_eq_true (List.isEmpty_iff.mp z.2.1))) st0
          · exact skip (fun z => by
              rw [Bool.and_eq_true, con x.1, ← inv_ivs] at z
              exact e z.1) (Same.refl _)
        rintro H4 ⟨hD4, hc4, sm4⟩
        rw [hlw, List.take_length] at hD4
        refine ⟨c, D, _, _, rfl, rfl, hc4, hD4, ?_, fun p hp => ?_⟩
        · have h1 := List.length_filter_le (fun x : Wr => C.contains x.1 && (x.2.2.isEmpty && !C.contains x.2.1)) ws
          unfold ivs
          rw [List.length_map, List.length_map, List.length_map]
          exact Nat.le_of_lt (small1000 (by omega))
        refine ⟨p, _, rfl, ?_, sm4.trans (same_new hp)⟩
        rw [upd_same]
        show _ = some (HO.lst (ivs (comeS ws (comeN ws i t))))
        rw [hC]
        unfold comeS ivs
        rw [List.map_append]
      · rintro σ H3 ⟨c, s5, rfl, hc, sm3⟩
        rw [hlg] at hc
        have con : (comeN ws i gs.length).contains i = decide (i ∈ comeN ws i gs.length) := by
          rw [Bool.eq_iff_iff, List.contains_iff_mem, decide_eq_true_iff]
        refine ⟨_, rfl, _, rfl, c, _, rfl, .inl (SqL.of hc), rfl, flat_ivs _, _, rfl, ite2 (fun e => ?_) (fun e => ?_)⟩
        · have e : inV (.int (i : Nat)) (ivs (comeN ws i gs.length)) = true := e
          rw [inv_ivs] at e
          have := q H3 sm3
          have hr : hasRing ws gs.length = true := by
            unfold hasRing
            rw [List.any_eq_true]
            exact ⟨i, List.mem_range.mpr (by omega), by rw [con]; exact e⟩
          rw [hr] at this
          exact this
        · have e : ¬ inV (.int (i : Nat)) (ivs (comeN ws i gs.length)) = true := e
          rw [inv_ivs] at e
          refine ⟨_, _, _, rfl, sm3, fun k hk => ?_⟩
          by_cases z : k = i
          · subst z
            rw [con]
            simpa using e
          · exact hno k (by omega)
    · rintro σ H1 ⟨s2, s4, s5, rfl, sm1, hno⟩
      have := q H1 sm1
      have hr : hasRing ws gs.length = false := by
        unfold hasRing
        rw [List.any_eq_false]
        intro k hk
        rw [hno k (by have := List.mem_range.mp hk; omega)]
        exact Bool.false_ne_true
      rw [hr] at this
      exact this
end
end Lag

set_option maxRecDepth 100000
set_option maxHeartbeats 4000000
/-! ### try with several except clauses, each with a name or without -/
namespace L2
open PySem PySem.Spec PyProof.Rows
/-- a clause: the class that it names, the slot of its own name, what its suite does -/
structure Cl where
  c : Value
  i : Option Nat
  ts : Addr → Value → Option Addr → TS
/-- behind the suite the clause's own name is gone -/
def Cl.ends (k : Cl) (D : Ends) : Ends := match k.i with
  | none => D
  | some i => ⟨fun s h => D.nx (s.set i none) h, D.rt, fun s h => D.bk (s.set i none) h, fun s h => D.ct (s.set i none) h⟩
def Cl.in_ (k : Cl) (a : Addr) (σ : St) : St := match k.i with
  | none => σ
  | some i => σ.set i (some (.ref a))
def wCls (K : PySem.W.Frag) (Wo : WX) (D : Ends) : List Cl → WX
  | [] => Wo
  | k :: l => fun cls d σ H => ∃ b : Bool, PySem.W.exmOne K cls k.c = some b ∧ (b = true → ∀ a, H a = none → k.ts a cls d (k.ends D) (k.in_ a σ) H) ∧ (b = false → wCls K Wo D l cls d σ H)
inductive ClsOk (X : Cx) : List ExceptHandler → List Cl → Prop
  | nil : ClsOk X [] []
  | bare {x : Str} {c : Value} {ts : Addr → Value → Option Addr → TS} {b1 : Stmt} {ss : List Stmt} {p1 p2 : Pos} {hs : List ExceptHandler} {l : List Cl} (hc : Names X x c)
      (su : ∀ (a : Addr) (oe : Obj) (cls : Value) (d : Option Addr) (pn : List (Addr × Obj)), Zc cls d oe → (∃ vs, oe.data = .fields vs) → PSs (X.suite a ((a, oe) :: pn)) (b1 :: ss) (ts a cls d)) (r : ClsOk X hs l) :
      ClsOk X (.ExceptHandler (some (.Name x p1)) none (b1 :: ss) p2 :: hs) (⟨c, none, ts⟩ :: l)
  | named {x n : Str} {c : Value} {i : Nat} {ts : Addr → Value → Option Addr → TS} {b1 : Stmt} {ss : List Stmt} {p1 p2 : Pos} {hs : List ExceptHandler} {l : List Cl} (hi : X.N[i]? = some n) (hl : X.env.kindOf n = some .local) (hc : Names X x c)
      (su : ∀ (a : Addr) (oe : Obj) (cls : Value) (d : Option Addr) (pn : List (Addr × Obj)), Zc cls d oe → (∃ vs, oe.data = .fields vs) → PSs (X.suite a ((a, oe) :: pn)) (b1 :: ss) (ts a cls d)) (r : ClsOk X hs l) :
      ClsOk X (.ExceptHandler (some (.Name x p1)) (some n) (b1 :: ss) p2 :: hs) (⟨c, some i, ts⟩ :: l)
section
variable {X : Cx} {body : List Stmt} {h0 : ExceptHandler} {hs : List ExceptHandler} {l : List Cl} {pos : Pos} {tb : WX → TS} {Wo : WX}
theorem ps_try_cls (hst : X.stack = X.env :: X.outer) (hfr : X.env.frame = some X.env.locals) (hN : X.N.Nodup) (tk : Takes X Wo)
    (hb : ∀ (W : WX) (pn : List (Addr × Obj)) (xe : Value → Shared → Prop), Takes (X.tr pn xe) W → PassesOwn (model X.prog X.w) X.A X.env xe → PSs (X.tr pn xe) body (tb W))
    (hh : ClsOk X (h0 :: hs) l) : PS X (.Try body (h0 :: hs) [] [] pos) (fun D σ H => tb (wCls X.K Wo D l) D σ H) := by
  constructor
  intro pins s σ H D I h
  have ok := I.ok
  have frs0 : X.A.frames = some (X.env :: X.outer) := hst ▸ ok.frames
  refine wpAny_Try_except (wpAny_mono ((hb (wCls X.K Wo D l) (X.pn ++ pins)
    (fun e t1 => wpAny (model X.prog X.w) X.A (noteFrame e X.env)
      (fun _ t2 => wpAny (model X.prog X.w) X.A (setFlight e none)
        (fun _ t3 => wpAny (model X.prog X.w) X.A (handleBy e X.env (h0 :: hs)) (SP X pins D) X.xe t3) X.xe t2) X.xe t1)
    ?_ PassesOwn.looking).run [] s σ H D (I.toTry _) h) ?_ fun e t1 he => he)
  · intro u t xx
    have goal : wpAny (model X.prog X.w) X.A (noteFrame u X.env) (fun _ t2 => wpAny (model X.prog X.w) X.A (setFlight u none) (fun _ t3 => wpAny (model X.prog X.w) X.A (handleBy u X.env (h0 :: hs)) (SP X pins D) X.xe t3) X.xe t2) X.xe t := by
      obtain ⟨a, B, sI, pins', σ', H', cls, d, rfl, J0, nb, up, sky0, na, os, ag, w⟩ := xx
      have J : Inv X pins σ' H' sI := J0.ofTry ok
      have sky : Sky B (X.env :: X.outer) a (Zc cls d) X.env.locals t.heap := hst ▸ sky0
      refine Sky.land Zc.steady frs0 hfr sky fun h3 fl3 up3 => ?_
      have J3 : Inv X pins σ' H' { t with heap := h3 } := J.landed nb fl3.1 (up.trans up3) os ag
      obtain ⟨oe, vs, he, hz, hd⟩ := fl3.there
      have off : a ∉ frs (X.env :: X.outer) := fun hm => by
        obtain ⟨_, o', e', no⟩ := fl3.2.2.1.mem hm
        rw [he] at e'
        cases e'
        exact no _ hd
      have offL : a ≠ X.env.locals := fun z => off (List.mem_filterMap.mpr ⟨X.env, by simp, by rw [hfr, z]⟩)
      have offF : a ∉ X.fs := fun hm => by
        obtain ⟨e, hm2, q⟩ := List.mem_filterMap.mp hm
        exact off (List.mem_filterMap.mpr ⟨e, List.mem_cons_of_mem _ hm2, q⟩)
      have S3 := J3.suite he hd na offL offF
      -- is it of the class that is named
      suffices go : ∀ {hs' : List ExceptHandler} {l' : List Cl}, ClsOk X hs' l' → wCls X.K Wo D l' cls d σ' H' → wpAny (model X.prog X.w) X.A (handleBy (.ref a) X.env hs') (SP X pins D) X.xe { t with heap := h3 } from go hh w
      have typ : PySem.W.Looks (model X.prog X.w) h3 (typeOf (.ref a)) cls := by
        intro A Q E s k q
        exact wpAny_typeOf_ref (k _ _ he) (by rw [hz.1]; exact q)
      have nm : ∀ {x : Str} {c : Value} {p1 : Pos} {Q E : Value → Shared → Prop}, Names X x c → Q c { t with heap := h3 } → wpAny (model X.prog X.w) (X.A.mark (some (.ref a))) (eval (.Name x p1) X.env) Q E { t with heap := h3 } := by
        intro x c p1 Q E hc q
        rcases hc with ⟨g1, g2, g3 | ⟨g3, g4, g5⟩⟩
        · exact ld_glob (X := X.suite a ((a, oe) :: (X.pn ++ pins))) S3 g1 g3 q g2
        · exact ld_blt (X := X.suite a ((a, oe) :: (X.pn ++ pins))) S3 g1 g3 g4 q g5 g2
      intro hs' l' ck
      induction ck with
      | nil =>
        intro w
        apply wpAny_handleBy_nil
        obtain ⟨_, _, _, ob, us, T, oT, ts', g1, _, g3, g4, _⟩ := id fl3
        unfold PySem.passOn
        refine wpAny_bind (wpAny_field g1 g3 g4 ?_)
        have nn : ¬ ((Value.ref T == Value.none) = true) := by simp
        rw [if_neg nn]
        have out : wpAny (model X.prog X.w) X.A (setFlight (.ref a) X.env.frame) (fun _ t4 => wpAny (model X.prog X.w) X.A (throw (.ref a) : Sem Flow) (SP X pins D) X.xe t4) X.xe { t with heap := h3 } := by
          rw [hfr]
          refine HandSPX.setFlight_upZ fl3 fun h4 hh4 up4 => wpAny_throw (tk _ _ ?_)
          exact ⟨a, B, sI, pins, σ', H', cls, d, rfl, J, nb, (up.trans up3).trans up4, .inr (.inr (hst ▸ hh4)), na, os, ag, w⟩
        first
          | exact wpAny_bind (wpAny_pure (wpAny_bind out))
          | exact wpAny_bind out
      | bare hc su r ih =>
        rintro ⟨b, eb, yes, no⟩
        refine wpAny_handleBy_cons (codeAny_handlers_test (nm hc ((PySem.W.exm_one (M := model X.prog X.w) J3.kIn typ eb).here ?_))) (fun q => by cases q)
        cases b
        · exact ih (no rfl)
        · refine codeAny_handlers_suite (HandSPX.lands_againZ fl3 fun h4 fl4 up4 => ?_)
          have J4 : Inv X pins σ' H' { t with heap := h4 } := J.landed nb fl4.1 ((up.trans up3).trans up4) os ag
          obtain ⟨o4, v4, he4, hz4, hd4⟩ := fl4.there
          have S4 := J4.suite he4 hd4 na offL offF
          refine wpAny_mono ((su a o4 cls d (X.pn ++ pins) hz4 ⟨_, hd4⟩).run [] _ _ H' _ S4 (yes rfl a na)) (fun f t6 hp => ?_) (fun _ _ z => False.elim z)
          cases f
          case next => exact ⟨_, _, hp.choose_spec.choose_spec.1.unsuite ok, hp.choose_spec.choose_spec.2⟩
          case brk => exact ⟨_, _, hp.choose_spec.choose_spec.1.unsuite ok, hp.choose_spec.choose_spec.2⟩
          case cont => exact ⟨_, _, hp.choose_spec.choose_spec.1.unsuite ok, hp.choose_spec.choose_spec.2⟩
          case ret u =>
            obtain ⟨v6, σ6, H6, S6, r6, q6⟩ := hp
            exact ⟨v6, σ6, H6, S6.unsuite ok, r6, q6⟩
      | @named x n c i ts b1 ss p1 p2 hs2 l2 hi hl hc su r ih =>
        rintro ⟨b, eb, yes, no⟩
        refine wpAny_handleBy_cons (codeAny_handlers_test (nm hc ((PySem.W.exm_one (M := model X.prog X.w) J3.kIn typ eb).here ?_))) (fun q => by cases q)
        cases b
        · exact ih (no rfl)
        · refine codeAny_handlers_suite_as (HandSPX.lands_againZ fl3 fun h4 fl4 up4 => ?_)
          have J4 : Inv X pins σ' H' { t with heap := h4 } := J.landed nb fl4.1 ((up.trans up3).trans up4) os ag
          obtain ⟨o4, v4, he4, hz4, hd4⟩ := fl4.there
          have S4 := J4.suite he4 hd4 na offL offF
          refine store_ok (X := X.suite a ((a, o4) :: (X.pn ++ pins))) (v := .ref a) S4 hN hi (.inl hl) rfl (fun t5 S5 => ?_) (.inr hl)
          refine wpAny_mono ((su a o4 cls d (X.pn ++ pins) hz4 ⟨_, hd4⟩).run [] t5 _ H' _ S5 (yes rfl a na)) (fun f t6 hp => ?_) (fun _ _ z => False.elim z)
          have gone : ∀ {σ6 : St} {H6 : Hp} {Q : Shared → Prop}, Inv (X.suite a ((a, o4) :: (X.pn ++ pins))) [] σ6 H6 t6 → (∀ t7, Inv X pins (σ6.set i none) H6 t7 → Q t7) →
              wpAny (model X.prog X.w) X.A (do bindName X.env n .none; unbindBehindTheSuite X.env n p2) (fun _ t7 => Q t7) X.xe t6 := by
            intro σ6 H6 Q S6 hq
            exact gone_ok (S6.unsuite ok) hN hi hl hq
          cases f
          case next =>
            obtain ⟨σ6, H6, S6, q6⟩ := hp
            exact gone S6 fun t7 J7 => ⟨_, _, J7, q6⟩
          case brk =>
            obtain ⟨σ6, H6, S6, q6⟩ := hp
            exact gone S6 fun t7 J7 => ⟨_, _, J7, q6⟩
          case cont =>
            obtain ⟨σ6, H6, S6, q6⟩ := hp
            exact gone S6 fun t7 J7 => ⟨_, _, J7, q6⟩
          case ret u =>
            obtain ⟨v6, σ6, H6, S6, r6, q6⟩ := hp
            exact gone S6 fun t7 J7 => ⟨_, _, _, J7, r6, q6⟩
    exact goal
  · intro f t1 hp
    cases f
    case next =>
      obtain ⟨σ', H', J', q⟩ := hp
      exact wpAny_execs_nil ⟨σ', H', J'.ofTry ok, q⟩
    case brk =>
      obtain ⟨σ', H', J', q⟩ := hp
      exact ⟨σ', H', J'.ofTry ok, q⟩
    case cont =>
      obtain ⟨σ', H', J', q⟩ := hp
      exact ⟨σ', H', J'.ofTry ok, q⟩
    case ret u =>
      obtain ⟨v, σ', H', J', r, q⟩ := hp
      exact ⟨v, σ', H', J'.ofTry ok, r, q⟩
end
end L2

set_option maxRecDepth 100000
set_option maxHeartbeats 4000000
/-! ### isinstance of a caught error that has fields of its own, and of several classes at once -/
namespace PySem.W
open PySem PySem.Spec PySem.Calls PyProof.Rows
section
variable {prog : Program} {w : World} {A : Around} {E : Value → Shared → Prop} {s : Shared} {K : Frag} {x D : Addr} {ox : Obj} {od : Option Obj}
theorem cls_found {D : Addr} {a g : Value} {n : Str} (hd : hasDictIn K D = true) (h1 : findIn K (.ref D) n = some (some a)) (h2 : specialIn K a "__get__" = some (some g)) (h3 : takesIn K a = some true) : findObj K D od n = some (.bind g a) := by
  obtain ⟨cd, hc, _⟩ := any_some hd
  unfold findObj
  rw [hc, Option.bind_some, h1, Option.bind_some]
  simp [h2, h3]
theorem cls_of_exc {Q : Option Value → Shared → Prop} (C1 : findIn K (.ref D) "__getattribute__" = some (some (.builtin "BaseException.__getattribute__"))) (C2 : findIn K (.ref D) "__getattr__" = some none) (C3 : subIn K (.ref D) (.type "BaseException") = some true)
    (C4 : hasDictIn K D = true) (C5 : findIn K (.ref D) "__class__" = some (some (.builtin "object.__class__"))) (C6 : specialIn K (.builtin "object.__class__") "__get__" = some (some (.builtin "getset_descriptor.__get__"))) (C7 : takesIn K (.builtin "object.__class__") = some true) (C8 : mroIn K D (.type "object") = some true)
    (X : K.In s.heap) (I : InstAt s.heap x ox D od) (h : Q (some (.ref D)) { s with toks := s.toks + 1 }) : wpAny (model prog w) A (getAttr? (.ref x) "__class__") Q E s := by
  have fnd := cls_found (od := od) C4 C5 C6 C7
  obtain ⟨hp, g, d, t, os⟩ := s
  have t0 := I.type (M := model prog w)
  have t1 := looks_findIn (M := model prog w) X C1
  have t2 := looks_findIn (M := model prog w) X C2
  have t3 := looks_find (M := model prog w) X I fnd
  have isE : Looks (model prog w) hp (isInstance (.ref x) (.type "BaseException")) true := t0.andThen (looks_subIn X C3)
  have own : (Value.builtin "BaseException.__getattribute__" == Value.builtin "object.__getattribute__") = false := by decide +kernel
  have q1 : (onTheHeap (Value.ref D) && Value.builtin "BaseException.__getattribute__" == Value.builtin "object.__getattribute__") = false := by rw [own]; rfl
  unfold getAttr? getAttrBy? getAttrBy
  refine wpAny_bind (wpAny_mkText (wpAny_bind (wpAny_attempt (wpAny_holding (wpAny_bind (t0.at (wpAny_bind (t1.at ?_))))))))
  show wpAny _ _ (if (onTheHeap (Value.ref D) && Value.builtin "BaseException.__getattribute__" == Value.builtin "object.__getattribute__") = true then _ else _) _ _ _
  rw [q1, if_neg Bool.false_ne_true]
  unfold getAttrByItsOwn hookBefore
  refine wpAny_bind ?_
  rw [if_pos (show onTheHeap (Value.ref D) = true from rfl)]
  refine t2.at (wpAny_bind (wpAny_attempt (wpAny_holding ?_)))
  unfold callGetattribute
  rw [show (false && onTheHeap (Value.builtin "BaseException.__getattribute__")) = false from rfl, if_neg Bool.false_ne_true]
  unfold boundAndCalled
  rw [PySem.F.excAttr_ValueError.ga.bind (.ref x)]
  refine wpAny_bind (wpAny_pure ?_)
  show wpAny _ _ (call (.builtin "BaseException.__getattribute__") [.ref x, .str "__class__" t]) _ _ _
  refine wpAny_call (codeAny_call_builtin PySem.F.excAttr_ValueError.ga.plain PySem.F.entry_bexc_ga ?_)
  refine @check_slot (model prog w) _ _ ⟨hp, g, d, t + 1, os⟩ "BaseException.__getattribute__" "BaseException" "__getattribute__" (.ref x) [.str "__class__" t] [] _ (by decide +kernel) (by decide +kernel) isE (PySem.F.args_bexc_ga (.ref x) (.str "__class__" t)) ?_
  unfold Builtin.«object.__getattribute__»
  refine wpAny_bind (wpAny_of_eq (a := ((Value.ref x : Value), [Value.str "__class__" t])) (by first | rfl | (simp only [slotArgs]; rfl)) ?_)
  refine wpAny_bind (wpAny_pure (wpAny_bind (t0.at (wpAny_bind (t3.at ?_)))))
  show wpAny _ _ (holding [Value.builtin "object.__class__"] (call (.builtin "getset_descriptor.__get__") [.builtin "object.__class__", .ref x, .ref D]) >>= ret) _ _ _
  refine wpAny_bind (wpAny_holding (wpAny_call (class_get (s := ⟨hp, g, d, t + 1, os⟩) (ox := ox) (od := od) X I C8 ?_)))
  refine wpAny_pure ?_
  show wpAny _ _ (handedOut (.ref D)) _ _ _
  rw [handedOut_of (v := .ref D) rfl]
  first
    | exact wpAny_pure (wpAny_pure h)
    | exact wpAny_pure h
    | exact wpAny_pure (wpAny_bind (wpAny_pure (wpAny_pure h)))
theorem kitD (C1 : findIn K (.ref D) "__getattribute__" = some (some (.builtin "BaseException.__getattribute__"))) (C2 : findIn K (.ref D) "__getattr__" = some none) (C3 : subIn K (.ref D) (.type "BaseException") = some true)
    (C4 : hasDictIn K D = true) (C5 : findIn K (.ref D) "__class__" = some (some (.builtin "object.__class__"))) (C6 : specialIn K (.builtin "object.__class__") "__get__" = some (some (.builtin "getset_descriptor.__get__"))) (C7 : takesIn K (.builtin "object.__class__") = some true) (C8 : mroIn K D (.type "object") = some true) :
    KitX K (.ref x) (.ref D) (fun h => InstAt h x ox D od) := by
  have isC : ∃ c d cd sl, K.lookup D = some ⟨c, d, .cls cd, sl⟩ := by
    obtain ⟨cd, hc, _⟩ := any_some C4
    unfold clsIn at hc
    split at hc
    · exact ⟨_, _, _, _, by assumption⟩
    · cases hc
  obtain ⟨c, d, cd, sl, ho⟩ := isC
  refine ⟨fun _ _ _ I => I.type, fun M h X _ => ?_, fun h tp dd its n sl' X htp => ?_, fun X I k => cls_of_exc C1 C2 C3 C4 C5 C6 C7 C8 X I k⟩
  · intro A' Q' E' s' k q
    unfold isType loadHead
    exact wpAny_bind (wpAny_loadPart (k _ _ (X _ _ ho)) (wpAny_pure q))
  · refine Bool.eq_false_iff.mpr fun q => ?_
    have e : D = tp := Value.ref.inj (beq_iff_eq.mp q)
    rw [← e, X _ _ ho] at htp
    cases htp
end
end PySem.W
namespace L2
open PySem PySem.Spec PyProof.Rows
/-- the fields of the error, where it has some -/
def XdAt (d : Option Addr) (H : Hp) : Prop := d = none ∨ ∃ (dd : Addr) (fs : List (Str × V)), d = some dd ∧ H dd = some (.xd fs)
def rIs1 (K : PySem.W.Frag) (D a : Addr) (d : Option Addr) : List V → Hp → VK → Prop := fun xs H Q => ∃ (c : V) (cv : Value) (b : Bool), xs = [.ref a, c] ∧ XdAt d H ∧ (∀ u, RelV c u → u = cv) ∧ PySem.W.kitOne K (.ref D) cv = some b ∧ Q (.bl b) H
def rIsN (K : PySem.W.Frag) (D a : Addr) (d : Option Addr) : List V → Hp → VK → Prop := fun xs H Q => ∃ (t : Addr) (cs : List V) (cvs : List Value) (b : Bool), xs = [.ref a, .ref t] ∧ XdAt d H ∧ SqT K H t cs ∧ (∀ us, Vals cs us → us = cvs) ∧ PySem.W.kitAny K (.ref D) cvs = some b ∧ Q (.bl b) H
section
variable {X : Cx} {a D : Addr} {oe : Obj} {d : Option Addr} {pn pins : List (Addr × Obj)} {σ : St} {H : Hp} {s : Shared}
theorem inst_suite (I : Inv (X.suite a ((a, oe) :: pn)) pins σ H s) (hz : Zc (.ref D) d oe) (hf : ∃ vs, oe.data = .fields vs) (hx : XdAt d H) : ∃ od, PySem.W.InstAt s.heap a oe D od := by
  obtain ⟨hget, _⟩ := I.pin (a, oe) (List.mem_append.mpr (.inl List.mem_cons_self))
  obtain ⟨vs, hv⟩ := hf
  rcases hx with rfl | ⟨dd, fs, rfl, ea⟩
  · exact ⟨none, hget, hz.1, by unfold PySem.W.notCls; rw [hv] <;> rfl, by rw [hz.2]; trivial⟩
  · have hx : ObjOk X.prog X.w H s.heap dd (.xd fs) := I.hok dd _ ea
    obtain ⟨mA, hns, _⟩ := hx
    obtain ⟨od, ho, _⟩ := lookIn_ns hns
    exact ⟨some od, hget, hz.1, by unfold PySem.W.notCls; rw [hv] <;> rfl, by rw [hz.2]; exact ho⟩
theorem call_is1 (C : ExcC X.K D) (hz : Zc (.ref D) d oe) (hf : ∃ vs, oe.data = .fields vs) : CallR (X.suite a ((a, oe) :: pn)) (.builtin "isinstance") (rIs1 X.K D a d) := by
  intro pins s σ H xs us Q I r h
  obtain ⟨c, cv, b, rfl, hx, hcv, e, q⟩ := h
  obtain ⟨u1, u2, rfl, rx, rt⟩ := vals2 r
  cases rx
  have ec := hcv _ rt
  subst ec
  obtain ⟨od, J⟩ := inst_suite I hz hf hx
  exact PySem.W.kia_one (PySem.W.kitD C.hg C.hk C.hs C.hd C.ha C.hn C.ht C.hm) I.kIn J e (fun z => nomatch z) fun tk => ⟨.bl b, H, I.kept (t' := tk) fun _ _ z => z, rfl, q⟩
theorem call_isN (C : ExcC X.K D) (hz : Zc (.ref D) d oe) (hf : ∃ vs, oe.data = .fields vs) : CallR (X.suite a ((a, oe) :: pn)) (.builtin "isinstance") (rIsN X.K D a d) := by
  intro pins s σ H xs us Q I r h
  obtain ⟨t, cs, cvs, b, rfl, hx, sq, hcv, e, q⟩ := h
  obtain ⟨u1, u2, rfl, rx, rt⟩ := vals2 r
  cases rx
  cases rt
  obtain ⟨od, J⟩ := inst_suite I hz hf hx
  obtain ⟨its, rv, ⟨o, ho, hc, n, hd⟩, _⟩ := I.tuple sq
  have ei := hcv _ rv
  subst ei
  obtain ⟨o1, o2, o3, o4⟩ := o
  dsimp only at hc hd
  subst hc hd
  exact PySem.W.kia_tup (PySem.W.kitD C.hg C.hk C.hs C.hd C.ha C.hn C.ht C.hm) I.kIn J ho e (fun z => nomatch z) fun tk => ⟨.bl b, H, I.kept (t' := tk) fun _ _ z => z, rfl, q⟩
end
end L2

set_option maxRecDepth 100000
set_option maxHeartbeats 8000000
namespace Lag
open PySem PySem.Spec PyProof.Rows L2
section
variable {P : Program} {w : World} {K : PySem.W.Frag} {mg : Str → Option Value} {base : Heap}
abbrev nLIsRing : List Str := ["_law_wires", "_law_ring", "_law_at", "_law_starts", "_law_ends"]
theorem scLIsRing : FnScope nLIsRing ["_law_wires", "_law_ring"] (defScope sLIsRing) := ⟨rfl, rfl, rfl, by decide +kernel, rfl, by decide +kernel, by decide +kernel⟩

abbrev DIsRing (P : Program) (w : World) (K : PySem.W.Frag) (mg : Str → Option Value) (base : Heap) := Df P w K mg base 1 "_law_is_ring" ["_law_wires", "_law_ring"] (spIsRing K)
theorem ok_isRing {f : Addr} {fd : FuncData} (F : Fun K "_law_is_ring" "_law_is_ring" sLIsRing f fd) (hm : mg "_law_is_ring" = some (.ref f)) (B : Bt mg) (mset : mg "set" = none) : DIsRing P w K mg base f fd := by
  refine ⟨?_, hm, F.kp, F.binds fun _ _ _ _ _ _ us hl => match us, hl with | [_, _], _ => rfl⟩
  refine F.ok scLIsRing (fun vs H Q E h => ?_) (fun cdv A outer s H vs Q E hr h => ?_)
  · obtain ⟨lw, lr, ws, r, rfl, _⟩ := h
    rfl
  · obtain ⟨lw, lr, ws, r, rfl, ⟨wv, hwv, hwa⟩, hlr, R, hrl, q⟩ := h
    have nd := scLIsRing.nd
    refine ⟨_, pss_cons (ps_if (PW.pt (pw_or (pt_not (pt_val (pe_callB call_isi (by rfl) B.isi (by decide +kernel) (pa_cons (pv 1) (pa_cons (pe_bltn (v := .ty "list") (by rfl) B.list (by decide +kernel) rfl) pa_nil))))) (pw_or1 (pt_cmpR (op_eqD hr.units) (pv 1) (pe_lst pa_nil) (nomark _))))) (pss_one (ps_ret pe_bl)) pss_nil) <|
        pss_cons (ps_for PassesOwn.never rfl (pi_list (pv 1)) (pg_name (i := 2) nd rfl (.inl rfl)) (pss_one (ps_if (PW.pt (pw_or (pt_not (pt_val (pe_callB call_isi (by rfl) B.isi (by decide +kernel) (pa_cons (pv 2) (pa_cons (pe_bltn (v := .ty "int") (by rfl) B.int (by decide +kernel) rfl) pa_nil))))) (pw_or (pt_val (pe_callB call_isi (by rfl) B.isi (by decide +kernel) (pa_cons (pv 2) (pa_cons (pe_bltn (v := .ty "bool") (by rfl) B.bool (by decide +kernel) rfl) pa_nil)))) (pw_or (pt_not (pt_chain op_le op_lt pe_int (pv 2) (pe_callB call_len_seq (by rfl) B.len PySem.boot_len (pa_cons (pv 0) pa_nil)))) (pw_or1 (pt_cmpR (op_neD hr.units) (pe_ix ix_tup (pe_ix ix_list (pv 0) (pv 2) (fun _ _ => rfl)) pe_int (fun _ _ => rfl)) (pe_tup pa_nil) (nomark _))))))) (pss_one (ps_ret pe_bl)) pss_nil))) <|
        pss_cons (ps_setLc (i := 3) (own := [("_law_at", 2)]) (g := (gName 2)) (tt := tYes) (te := (tOp (rIxT K) (tOp (rIxL K) (tVar 0) (tVar 2)) (tC (.int 0)))) rfl nd rfl rfl (sw_true rfl rfl rfl (by decide +kernel)) (pi_list (pv 1)) (blkOk_by (N := nLIsRing) (sc := defScope sLIsRing) (own := [("_law_at", 2)]) (by decide +kernel)) (fun _ _ _ _ _ => (pg_name (i := 2) nd rfl (.inl rfl))) (fun _ _ _ _ _ => pts_nil) (fun _ _ _ _ _ => (pe_ix ix_tup (pe_ix ix_list (pv 0) (pv 2) (fun _ _ => rfl)) pe_int (fun _ _ => rfl)))) <|
        pss_cons (ps_setLc (i := 4) (own := [("_law_at", 2)]) (g := (gName 2)) (tt := tYes) (te := (tOp (rIxT K) (tOp (rIxL K) (tVar 0) (tVar 2)) (tC (.int 1)))) rfl nd rfl rfl (sw_true rfl rfl rfl (by decide +kernel)) (pi_list (pv 1)) (blkOk_by (N := nLIsRing) (sc := defScope sLIsRing) (own := [("_law_at", 2)]) (by decide +kernel)) (fun _ _ _ _ _ => (pg_name (i := 2) nd rfl (.inl rfl))) (fun _ _ _ _ _ => pts_nil) (fun _ _ _ _ _ => (pe_ix ix_tup (pe_ix ix_list (pv 0) (pv 2) (fun _ _ => rfl)) pe_int (fun _ _ => rfl)))) <|
        pss_one (ps_ret (pe_and (pe_cmpR (op_eqD hr.units) (pv 4) (pe_op op_cat (pe_slice sl_list (pv 3) (po_some pe_int) po_none) (pe_slice sl_list (pv 3) po_none (po_some pe_int))) (nomark _)) (pe_one (pe_cmpR op_eq (RZ.pe_lenSetI (by rfl) B.len (by rfl) mset (pv 3)) (pe_callB call_len_seq (by rfl) B.len PySem.boot_len (pa_cons (pv 3) pa_nil)) (nomark _))))), ?_⟩
    have hlw : wv.length = ws.length := hwa.1
    have hil : (ivs r).length = r.length := by
      unfold ivs
      rw [List.length_map]
    refine ⟨_, rfl, _, _, _, _, true, rfl, .ty "list", ty_lst (SqL.of hlr), kit_ty (by decide +kernel), true, rfl, iteF ?_⟩
    refine ⟨_, rfl, Nat.zero_le _, fun l0 hl0 => ?_⟩
    have s0 : Same H (upd H l0 (.lst [])) := same_new hl0
    have e0 : (upd H l0 (.lst [])) l0 = some (.lst []) := upd_same
    generalize upd H l0 (.lst []) = H0 at s0 e0
    refine ⟨intsD r, .list [], dp_ints (SqL.of (s0 _ _ hlr)), .lst (SqL.of e0) .nil, (sh_ints _).ok (by decide), rfl, false, ?_, iteF ?_⟩
    · have : PyData.eqv (intsD r) (.list []) = false := by
        cases r with
        | nil => exact absurd rfl R.ne
        | cons a b => rfl
      rw [this]
    -- for at in ring
    refine ⟨_, rfl, lr, rfl, ⟨_, SqL.of (s0 _ _ hlr)⟩, for_list (K := K) (a := lr) (xs := ivs r) (fun j σ Hc => ∃ s2 : Option V, σ = [some (.ref lw), some (.ref lr), s2, none, none] ∧ Same H Hc) ⟨_, rfl, s0⟩ (fun j σ Hc _ ⟨_, _, sm⟩ => SqL.of (sm _ _ hlr)) ?_ ?_⟩
    · rintro j v σ Hc hv ⟨s2, rfl, sm⟩
      obtain ⟨p, hp, rfl⟩ : ∃ p, r[j]? = some p ∧ v = .int (p : Nat) := by
        unfold ivs at hv
        rw [List.getElem?_map] at hv
        cases e : r[j]? with
        | none => rw [e] at hv; cases hv
        | some k => rw [e] at hv; cases hv; exact ⟨k, rfl, rfl⟩
      obtain ⟨x, hx, hb⟩ := R.ok p (List.mem_of_getElem? hp)
      have hpl : p < ws.length := (List.getElem?_eq_some_iff.mp hx).1
      obtain ⟨v, hv', a, b, rfl, sq1, sq2⟩ := hwa.getR hx
      refine gn_norm (σ' := [some (.ref lw), some (.ref lr), some (.int (p : Nat)), none, none]) rfl ?_
      refine ⟨_, rfl, _, _, _, _, true, rfl, .ty "int", .base (.int _), kit_ty (by decide +kernel), true, rfl, iteF ?_⟩
      refine ⟨_, rfl, _, _, _, _, false, rfl, .ty "bool", .base (.int _), kit_ty (by decide +kernel), false, rfl, iteF ?_⟩
      refine ⟨_, rfl, _, _, rfl, rfl, true, ?_, iteT ⟨_, rfl, lw, wv, rfl, .inl (SqL.of (sm _ _ hwv)), _, _, rfl, rfl, true, ?_, iteF ?_⟩⟩
      · show V.bl (decide ((0 : Int) ≤ (p : Int))) = V.bl true
        rw [decide_eq_true (by omega)]
      · show V.bl (decide ((p : Int) < (wv.length : Int))) = V.bl true
        rw [decide_eq_true (by omega)]
      refine ⟨_, rfl, _, rfl, lw, wv, _, _, rfl, rfl, SqL.of (sm _ _ hwv), atI_nat hv', a, _, 2, _, rfl, rfl, (TK.same sm).seq sq1, atI_nat (j := 2) rfl, Nat.zero_le _, fun t0 ht0 => ?_⟩
      have st0 : Same Hc (upd Hc t0 (.tup [])) := same_new ht0
      have et0 : (upd Hc t0 (.tup [])) t0 = some (.tup []) := upd_same
      generalize upd Hc t0 (.tup []) = Hd at st0 et0
      have sm2 := sm.trans st0
      refine ⟨.tuple (x.2.2.map PyData.int), .tuple [], .tup ((TK.same sm2).seq sq2) (ints_dp _), .tup (SqT.of et0) .nil, ?_, rfl, false, ?_, iteF ⟨_, rfl, sm2⟩⟩
      · refine Sh.ok (k := 1) (sh_tuple fun d hd => ?_) (by decide)
        obtain ⟨z, _, rfl⟩ := List.mem_map.mp hd
        exact sh_int _
      · rw [hb]
        rfl
    rintro σ H1 ⟨s2, rfl, sm1⟩
    -- starts
    have item : ∀ {Hc : Hp} {j : Nat} {v : V}, (ivs r)[j]? = some v → Same H Hc → ∃ (p : Nat) (x : Wr) (a b : Addr), v = .int (p : Nat) ∧ r[j]? = some p ∧ wv[p]? = some (.ref a) ∧ SqT K Hc a [.int x.1, .int x.2.1, .ref b] ∧ stO ws p = x.1 ∧ enO ws p = x.2.1 := fun {Hc j v} hv sm => by
      obtain ⟨p, hp, rfl⟩ : ∃ p, r[j]? = some p ∧ v = .int (p : Nat) := by
        unfold ivs at hv
        rw [List.getElem?_map] at hv
        cases e : r[j]? with
        | none => rw [e] at hv; cases hv
        | some k => rw [e] at hv; cases hv; exact ⟨k, rfl, rfl⟩
      obtain ⟨x, hx, hb⟩ := R.ok p (List.mem_of_getElem? hp)
      obtain ⟨v, hv', a, b, rfl, sq1, sq2⟩ := hwa.getR hx
      refine ⟨p, x, a, b, rfl, hp, hv', (TK.same sm).seq sq1, ?_, ?_⟩
      · unfold stO
        rw [hx]
        rfl
      · unfold enO
        rw [hx]
        rfl
    refine ⟨_, rfl, lr, rfl, ⟨_, SqL.of (sm1 _ _ hlr)⟩, fun D hD => ?_⟩
    have hD0 : H D = none := sm1.free hD
    refine lc_list (K := K) (a := lr) (xs := ivs r) (fun j Hc => Hc D = some (.lst (ivs ((r.take j).map (stO ws)))) ∧ Same H Hc) ⟨upd_same, sm1.trans (same_new hD)⟩ (fun j Hc _ ⟨_, sm⟩ => SqL.of (sm _ _ hlr)) ?_ ?_
    · rintro j v Hc hv ⟨hc, sm⟩
      obtain ⟨p, x, a, b, rfl, hp, hv', sq1, e1, e2⟩ := item hv sm
      refine ⟨rfl, tyes ?_⟩
      refine ⟨_, rfl, _, rfl, lw, wv, _, _, rfl, rfl, SqL.of (sm _ _ hwv), atI_nat hv', a, _, 0, _, rfl, rfl, sq1, atI_nat (j := 0) rfl, _, hc, ?_, ?_, same_mut sm hD0⟩
      · unfold ivs
        rw [List.length_map, List.length_map, List.length_take]
        exact small1000 (by omega)
      · rw [upd_same, List.take_add_one, hp]
        show _ = some (HO.lst (List.map _ (List.map _ (_ ++ [p]))))
        rw [List.map_append, List.map_append]
        show _ = some (HO.lst (_ ++ [V.int ((stO ws p : Nat) : Int)]))
        rw [e1]
        rfl
    rintro H2 ⟨hD2, sm2⟩
    rw [hil, List.take_length] at hD2
    refine ⟨_, rfl, lr, rfl, ⟨_, SqL.of (sm2 _ _ hlr)⟩, fun D' hD' => ?_⟩
    have hD0' : H D' = none := sm2.free hD'
    have nDD : D ≠ D' := ne_of_none hD2 hD'
    refine lc_list (K := K) (a := lr) (xs := ivs r) (fun j Hc => Hc D' = some (.lst (ivs ((r.take j).map (enO ws)))) ∧ Hc D = some (.lst (ivs (r.map (stO ws)))) ∧ Same H Hc) ⟨upd_same, same_new hD' _ _ hD2, sm2.trans (same_new hD')⟩ (fun j Hc _ ⟨_, _, sm⟩ => SqL.of (sm _ _ hlr)) ?_ ?_
    · rintro j v Hc hv ⟨hc, hc2, sm⟩
      obtain ⟨p, x, a, b, rfl, hp, hv', sq1, e1, e2⟩ := item hv sm
      refine ⟨rfl, tyes ?_⟩
      refine ⟨_, rfl, _, rfl, lw, wv, _, _, rfl, rfl, SqL.of (sm _ _ hwv), atI_nat hv', a, _, 1, _, rfl, rfl, sq1, atI_nat (j := 1) rfl, _, hc, ?_, ?_, ?_, same_mut sm hD0'⟩
      · unfold ivs
        rw [List.length_map, List.length_map, List.length_take]
        exact small1000 (by omega)
      · rw [upd_same, List.take_add_one, hp]
        show _ = some (HO.lst (List.map _ (List.map _ (_ ++ [p]))))
        rw [List.map_append, List.map_append]
        show _ = some (HO.lst (_ ++ [V.int ((enO ws p : Nat) : Int)]))
        rw [e2]
        rfl
      · rw [upd_ne nDD]
        exact hc2
    rintro H3 ⟨hE3, hD3, sm3⟩
    rw [hil, List.take_length] at hE3
    -- ends == starts[1:] + starts[:1]
    refine ⟨_, rfl, _, rfl, _, rfl, D, _, rfl, SqL.of hD3, fun p1 hp1 => ?_⟩
    have s4 : Same H3 (upd H3 p1 (.lst (cutV (ivs (r.map (stO ws))) (some 1) none))) := same_new hp1
    have e4 : (upd H3 p1 (.lst (cutV (ivs (r.map (stO ws))) (some 1) none))) p1 = some (.lst (cutV (ivs (r.map (stO ws))) (some 1) none)) := upd_same
    generalize upd H3 p1 (.lst (cutV (ivs (r.map (stO ws))) (some 1) none)) = H4 at s4 e4
    refine ⟨_, rfl, _, rfl, D, _, rfl, SqL.of (s4 _ _ hD3), fun p2 hp2 => ?_⟩
    have s5 : Same H4 (upd H4 p2 (.lst (cutV (ivs (r.map (stO ws))) none (some 1)))) := same_new hp2
    have e5 : (upd H4 p2 (.lst (cutV (ivs (r.map (stO ws))) none (some 1)))) p2 = some (.lst (cutV (ivs (r.map (stO ws))) none (some 1))) := upd_same
    generalize upd H4 p2 (.lst (cutV (ivs (r.map (stO ws))) none (some 1))) = H5 at s5 e5
    have c1 : cutV (ivs (r.map (stO ws))) (some 1) none = ivs ((r.map (stO ws)).drop 1) := by
      have := cut_from (xs := ivs (r.map (stO ws))) 1
      unfold ivs at this ⊢
      rw [List.map_drop]
      exact this
    have c2 : cutV (ivs (r.map (stO ws))) none (some 1) = ivs ((r.map (stO ws)).take 1) := by
      have := cut_to (xs := ivs (r.map (stO ws))) 1
      unfold ivs at this ⊢
      rw [List.map_take]
      exact this
    rw [c1] at e4
    rw [c2] at e5
    refine ⟨p1, p2, _, _, rfl, rfl, s5 _ _ e4, e5, ?_, fun p3 hp3 => ?_⟩
    · unfold ivs
      rw [List.length_map, List.length_map, List.length_drop, List.length_take, List.length_map]
      exact Nat.le_of_lt (small1000 (by omega))
    have s6 : Same H5 (upd H5 p3 (.lst (ivs ((r.map (stO ws)).drop 1) ++ ivs ((r.map (stO ws)).take 1)))) := same_new hp3
    have e6 : (upd H5 p3 (.lst (ivs ((r.map (stO ws)).drop 1) ++ ivs ((r.map (stO ws)).take 1)))) p3 = some (.lst (ivs ((r.map (stO ws)).drop 1) ++ ivs ((r.map (stO ws)).take 1))) := upd_same
    generalize upd H5 p3 (.lst (ivs ((r.map (stO ws)).drop 1) ++ ivs ((r.map (stO ws)).take 1))) = H6 at s6 e6
    have s36 := (s4.trans s5).trans s6
    have e6' : H6 p3 = some (.lst (ivs (r.map (enO ws)))) := by
      rw [e6, R.eq]
      unfold ivs
      rw [List.map_append]
    refine ⟨intsD (r.map (enO ws)), intsD (r.map (enO ws)), dp_ints (SqL.of (s36 _ _ hE3)), dp_ints (SqL.of e6'), (sh_ints _).ok (by decide), (sh_ints _).ok (by decide), ?_⟩
    rw [show PyData.eqv (intsD (r.map (enO ws))) (intsD (r.map (enO ws))) = true from by rw [intsD_eq, decide_eq_true rfl]]
    refine ⟨_, rfl, iteT ?_⟩
    -- len(set(starts)) == len(starts)
    have hD6 : H6 D = some (.lst (((r.map (stO ws)).map fun i => ((i : Nat) : Int)).map V.int)) := by
      rw [s36 _ _ hD3]
      unfold ivs
      rw [List.map_map (g := V.int)]
      rfl
    refine ⟨_, rfl, D, _, rfl, SqL.of hD6, ?_, ?_, _, rfl, D, _, rfl, .inl (SqL.of hD6), ?_⟩
    · have inj : ∀ l : List Nat, l.Nodup → (l.map fun i => ((i : Nat) : Int)).Nodup := by
        intro l
        induction l with
        | nil => intro _; exact List.nodup_nil
        | cons a l ih =>
          intro h
          rw [List.nodup_cons] at h
          rw [List.map_cons, List.nodup_cons]
          refine ⟨fun z => ?_, ih h.2⟩
          obtain ⟨b, hb, e⟩ := List.mem_map.mp z
          have : b = a := by omega
          exact h.1 (by rw [← this]; exact hb)
      exact inj _ R.nd
    · rw [List.length_map, List.length_map]
      omega
    · have e : decide ((V.int ((((r.map (stO ws)).map fun i => ((i : Nat) : Int)).length : Nat) : Int)) = V.int (((((r.map (stO ws)).map fun i => ((i : Nat) : Int)).map V.int).length : Nat) : Int)) = true := by
        rw [decide_eq_true]
        rw [List.length_map (f := V.int)]
      have := q H6 (sm3.trans s36)
      rw [← e] at this
      exact ⟨rfl, this⟩
end
end Lag

set_option maxRecDepth 100000
set_option maxHeartbeats 8000000
namespace Lag
open PySem PySem.Spec PyProof.Rows L2
abbrev sBoth : Stmt := topS 36 -- @_law_both_right
theorem pss_if {X : Cx} {ss : List Stmt} {p : Prop} {t : TS} (h : p → PSs X ss t) : PSs X ss (fun D σ H => p ∧ (σ.length = X.N.length → t D σ H)) := ⟨fun pins s σ H D I hh => (h hh.1).run pins s σ H D I (hh.2 I.len)⟩
theorem wfL_nil (gs : List Gt) (seen : List Wr) : wfL gs seen [] = if lacksB gs seen = true then some (seen.length : Int) else none := rfl
theorem wfL_cons (gs : List Gt) (seen : List Wr) (d : PyData) (ds : List PyData) : wfL gs seen (d :: ds) = if isWireD gs.length d = true then (if takenB gs seen (asWr d) = true then wfL gs (seen ++ [asWr d]) ds else some (seen.length : Int)) else some (seen.length : Int) := rfl
section
variable {K : PySem.W.Frag} {Av : Addr → Prop} {H : Hp}
theorem gate_dx {v : V} {g : Gt} (h : GateV K H v g) : Dx K Av H v (gateD g) := by
  obtain ⟨a, rfl, s⟩ := h
  exact .tup s (.cons (.str _) (.cons (.int _) .nil))
theorem dxs_int : ∀ l : List Int, DxAll K Av H (l.map V.int) (l.map PyData.int)
  | [] => .nil
  | i :: l => .cons (.int i) (dxs_int l)
theorem wire_dx {v : V} {x : Wr} (h : WireV K H v x) : Dx K Av H v (wireD x) := by
  obtain ⟨a, b, rfl, s1, s2⟩ := h
  exact .tup s1 (.cons (.int _) (.cons (.int _) (.cons (.tup s2 (dxs_int _)) .nil)))
theorem dx_all {α : Type} {R : V → α → Prop} {f : α → PyData} (h : ∀ v x, R v x → Dx K Av H v (f x)) : ∀ {vs : List V} {xs : List α}, All2 R vs xs → DxAll K Av H vs (xs.map f)
  | [], [], _ => .nil
  | [], _ :: _, a => by have := a.1; simp at this
  | _ :: _, [], a => by have := a.1; simp at this
  | _ :: _, _ :: _, a => .cons (h _ _ a.head) (dx_all h a.tail)
end
theorem dxs_app {K : PySem.W.Frag} {Av : Addr → Prop} {H : Hp} : ∀ {vs us : List V} {ds es : List PyData}, DxAll K Av H vs ds → DxAll K Av H us es → DxAll K Av H (vs ++ us) (ds ++ es)
  | [], _, [], _, _, h => h
  | _ :: _, _, _ :: _, _, .cons a b, h => .cons a (dxs_app b h)
theorem asGt_gateD (g : Gt) : asGt (gateD g) = g := rfl
theorem asWr_wireD (x : Wr) : asWr (wireD x) = x := by
  obtain ⟨a, b, r⟩ := x
  show ((a : Int).toNat, (b : Int).toNat, (r.map PyData.int).map intOf) = (a, b, r)
  rw [List.map_map]
  have : (intOf ∘ PyData.int) = id := funext fun _ => rfl
  rw [this, List.map_id]
  rfl
theorem asGs_gates (gs : List Gt) : asGs (gatesD gs) = gs := by
  show (gs.map gateD).map asGt = gs
  rw [List.map_map]
  have : (asGt ∘ gateD) = id := funext fun _ => rfl
  rw [this, List.map_id]
theorem isGate_gateD {g : Gt} (h : GOk g) : isGateD (gateD g) = true := by
  obtain ⟨k, z⟩ := g
  obtain ⟨h1, h2, h3, h4⟩ := h
  have h2 : 0 ≤ z := h2
  have h3 : z ≤ 100 := h3
  show (decide (k ∈ kinds) && (decide (0 ≤ z) && decide (z ≤ waitTo k))) = true
  have hz : z ≤ waitTo k := by
    unfold waitTo
    split
    · rename_i hp
      have h5 : z = 0 := h4 hp
      omega
    · exact h3
  rw [decide_eq_true h1, decide_eq_true h2, decide_eq_true hz]
  rfl
theorem gatesOk_gates {gs : List Gt} (hn : gs ≠ []) (h : ∀ g ∈ gs, GOk g) : gatesOkD (gatesD gs) = true := by
  show (!(gs.map gateD).isEmpty && (gs.map gateD).all isGateD) = true
  rw [Bool.and_eq_true, List.all_eq_true]
  refine ⟨?_, fun d hd => ?_⟩
  · cases gs with
    | nil => exact absurd rfl hn
    | cons a l => rfl
  · obtain ⟨g, hg, rfl⟩ := List.mem_map.mp hd
    exact isGate_gateD (h g hg)
theorem isWire_wireD {n : Nat} {x : Wr} (h1 : x.1 < n) (h2 : x.2.1 < n) (h3 : ROk x.2.2) : isWireD n (wireD x) = true := by
  show ((decide ((0 : Int) ≤ (x.1 : Int)) && decide ((x.1 : Int) ≤ (n : Int) - 1)) && ((decide ((0 : Int) ≤ (x.2.1 : Int)) && decide ((x.2.1 : Int) ≤ (n : Int) - 1)) && ((x.2.2.map PyData.int).all fun d => fromD d 0 96))) = true
  rw [decide_eq_true (show (0 : Int) ≤ (x.1 : Int) by omega), decide_eq_true (show (x.1 : Int) ≤ (n : Int) - 1 by omega), decide_eq_true (show (0 : Int) ≤ (x.2.1 : Int) by omega), decide_eq_true (show (x.2.1 : Int) ≤ (n : Int) - 1 by omega)]
  rw [Bool.and_self, Bool.true_and, Bool.true_and, List.all_eq_true]
  intro d hd
  obtain ⟨i, hi, rfl⟩ := List.mem_map.mp hd
  obtain ⟨a, b⟩ := h3 i hi
  show (decide (0 ≤ i) && decide (i ≤ 96)) = true
  rw [decide_eq_true a, decide_eq_true b]
  rfl
theorem wfL_pass {gs : List Gt} {tl : List PyData} : ∀ (ws seen : List Wr), (∀ x ∈ ws, x.1 < gs.length ∧ x.2.1 < gs.length ∧ ROk x.2.2 ∧ kindAt gs x.1 ≠ "out" ∧ kindAt gs x.2.1 ≠ "in" ∧ kindAt gs x.2.1 ≠ "out") → wfL gs seen (ws.map wireD ++ tl) = wfL gs (seen ++ ws) tl
  | [], seen, _ => by rw [List.append_nil]; rfl
  | x :: ws, seen, h => by
    obtain ⟨h1, h2, h3, h4, h5, h6⟩ := h x (List.mem_cons_self ..)
    have tk : takenB gs seen x = true := by
      unfold takenB
      rw [decide_eq_false h4, decide_eq_false h5, decide_eq_false h6]
      rfl
    rw [List.map_cons, List.cons_append, wfL_cons, if_pos (isWire_wireD h1 h2 h3), asWr_wireD, if_pos tk, wfL_pass ws (seen ++ [x]) fun y hy => h y (List.mem_cons_of_mem _ hy), List.append_assoc]
    rfl
def shortB : PyData → Bool
  | .tuple es => decide (es.length ≤ 1000) && es.all fun e => match e with
    | .tuple fs => decide (fs.length ≤ 1000)
    | _ => true
  | _ => true
theorem short_of {d : PyData} (h : shortB d = true) {es : List PyData} (e : d = .tuple es) : es.length ≤ 1000 ∧ ∀ fs, .tuple fs ∈ es → fs.length ≤ 1000 := by
  subst e
  have h : (decide (es.length ≤ 1000) && es.all fun e => match e with
    | .tuple fs => decide (fs.length ≤ 1000)
    | _ => true) = true := h
  rw [Bool.and_eq_true, List.all_eq_true] at h
  exact ⟨of_decide_eq_true h.1, fun fs hf => of_decide_eq_true (h.2 _ hf)⟩
/-- the last wire that is none -/
structure OddW (n : Nat) (d : PyData) : Prop where
  bad : isWireD n d = false
  bad2 : isWireD ((n : Int) + 1) d = false
  sh : shortB d = true
/-- what Net refuses at this place -/
structure RefW (G W : PyData) (p : Nat) : Prop where
  g : gatesOkD G = true
  l : (asGs G).length ≤ 100
  s : ShortW W
  w : wfD (asGs G) W = some (p : Int)
theorem short_ws {n : Nat} {ws : List Wr} {tl : List PyData} (hl : ws.length + tl.length ≤ 900) (h : ∀ x ∈ ws, x.2.2.length ≤ 2) (ht : ∀ d ∈ tl, shortB d = true) : ShortW (.list (ws.map wireD ++ tl)) := by
  intro ds e
  cases e
  refine ⟨by rw [List.length_append, List.length_map]; exact hl, fun d hd es he => ?_⟩
  rcases List.mem_append.mp hd with hd | hd
  · obtain ⟨x, hx, rfl⟩ := List.mem_map.mp hd
    cases he
    refine ⟨by show 3 ≤ 1000; decide, fun fs hf => ?_⟩
    simp only [List.mem_cons, List.not_mem_nil, or_false] at hf
    rcases hf with hf | hf | hf
    · cases hf
    · cases hf
    · cases hf
      rw [List.length_map]
      have := h x hx
      omega
  · exact short_of (ht d hd) he
theorem and_f {x y : Bool} : (x && (y && false)) = false := by cases x <;> cases y <;> rfl
theorem odd1 {n m : Nat} (h : m = n + 1) : OddW n (.tuple [.int 0, .int ((m : Nat) : Int), .tuple [.int 1]]) := by
  have key : ∀ z : Int, z < (m : Int) → fromD (.int ((m : Nat) : Int)) 0 z = false := fun z hz => by
    show (decide ((0 : Int) ≤ (m : Int)) && decide ((m : Int) ≤ z)) = false
    rw [decide_eq_false (p := (m : Int) ≤ z) (by omega), Bool.and_false]
  have lem : ∀ z : Int, z < (m : Int) → ∀ a b : Bool, (a && (fromD (.int ((m : Nat) : Int)) 0 z && b)) = false := fun z hz a b => by
    rw [key z hz, Bool.false_and, Bool.and_false]
  exact ⟨lem _ (by omega) _ _, lem _ (by omega) _ _, rfl⟩
theorem odd2 {n : Nat} : OddW n (.tuple [.int 0, .int 1, .list [.int 1]]) := ⟨show (_ && (_ && false)) = false from and_f, show (_ && (_ && false)) = false from and_f, rfl⟩
theorem odd3 {n : Nat} : OddW n .none := ⟨rfl, rfl, rfl⟩
theorem odd4 {n : Nat} : OddW n (.tuple [.int (-1), .int 1, .tuple []]) := ⟨rfl, rfl, rfl⟩
theorem odd5 {n : Nat} : OddW n (.tuple [.int 0, .int 1, .tuple [.int 97]]) := ⟨show (_ && (_ && false)) = false from and_f, show (_ && (_ && false)) = false from and_f, rfl⟩
section
variable {gs : List Gt} {ws : List Wr} {g0 : Gt} {d : PyData}
theorem DrawnOk.kinds (D : DrawnOk gs ws) : (∀ x ∈ gs, GOk x) ∧ (∀ e, kindAt gs e ≠ "out") ∧ ∀ e, kindAt gs e ≠ "first" := by
  have all : ∀ x ∈ gs, GOk x ∧ x.1 ≠ "out" ∧ x.1 ≠ "first" := fun x hx => by
    obtain ⟨i, hi⟩ := List.getElem?_of_mem hx
    exact (D.g i x hi).ok
  exact ⟨fun x hx => (all x hx).1, kind_ne (by decide +kernel) fun x hx => (all x hx).2.1, kind_ne (by decide +kernel) fun x hx => (all x hx).2.2⟩
theorem kindAt_ap1 {e : Nat} (h : e < gs.length) : kindAt (gs ++ [g0]) e = kindAt gs e := by
  unfold kindAt
  rw [List.getD_eq_getElem?_getD, List.getD_eq_getElem?_getD, List.getElem?_append_left h]
theorem kindAt_last : kindAt (gs ++ [g0]) gs.length = g0.1 := by
  refine kindAt_get ?_
  rw [List.getElem?_append_right (Nat.le_refl _), Nat.sub_self]
  rfl
theorem DrawnOk.net2 (D : DrawnOk gs ws) {tl : List PyData} : wfL gs [] (ws.map wireD ++ tl) = wfL gs ws tl := by
  refine wfL_pass ws [] fun x hx => ?_
  obtain ⟨h1, h2, h3, h4, h5⟩ := D.w x hx
  exact ⟨h1, h2, h4, D.kinds.2.1 _, h3, D.kinds.2.1 _⟩
theorem DrawnOk.net3 (D : DrawnOk gs ws) {tl : List PyData} : wfL (gs ++ [g0]) [] (ws.map wireD ++ tl) = wfL (gs ++ [g0]) ws tl := by
  refine wfL_pass ws [] fun x hx => ?_
  obtain ⟨h1, h2, h3, h4, h5⟩ := D.w x hx
  have e : (gs ++ [g0]).length = gs.length + 1 := by simp
  refine ⟨by omega, by omega, h4, ?_, ?_, ?_⟩
  · rw [kindAt_ap1 h1]
    exact D.kinds.2.1 _
  · rw [kindAt_ap1 h2]
    exact h3
  · rw [kindAt_ap1 h2]
    exact D.kinds.2.1 _
theorem DrawnOk.more_ok (D : DrawnOk gs ws) (hg : GOk g0) : gatesOkD (gatesD (gs ++ [g0])) = true := gatesOk_gates (by simp) fun x hx => by
  rcases List.mem_append.mp hx with hx | hx
  · exact D.kinds.1 x hx
  · rw [List.mem_singleton.mp hx]
    exact hg
theorem DrawnOk.ref1 (D : DrawnOk gs ws) (hg : GOk g0) (hk : g0.1 = "out" ∨ g0.1 = "first") : RefW (gatesD (gs ++ [g0])) (.list (ws.map wireD)) ws.length := by
  have l9 := D.l9
  have wl := D.wl
  refine ⟨D.more_ok hg, by rw [asGs_gates]; simp; omega, ?_, ?_⟩
  · have := short_ws (n := 0) (ws := ws) (tl := []) (by simp; omega) (fun x hx => (D.w x hx).2.2.2.2) (fun d h => by cases h)
    rw [List.append_nil] at this
    exact this
  · rw [asGs_gates]
    show wfL (gs ++ [g0]) [] (ws.map wireD) = _
    have := D.net3 (g0 := g0) (tl := [])
    rw [List.append_nil] at this
    rw [this, wfL_nil]
    have : lacksB (gs ++ [g0]) ws = true := by
      unfold lacksB
      rw [List.any_eq_true]
      refine ⟨gs.length, List.mem_range.mpr (by simp), ?_⟩
      rw [kindAt_last]
      have hc : cnt ws gs.length = 0 := by
        unfold cnt
        rw [List.countP_eq_zero]
        intro x hx
        have := (D.w x hx).2.1
        simp
        omega
      rw [hc]
      rcases hk with hk | hk <;> rw [hk] <;> decide +kernel
    rw [if_pos this]
theorem DrawnOk.ref2 (D : DrawnOk gs ws) (hd : OddW gs.length d) : RefW (gatesD gs) (.list (ws.map wireD ++ [d])) ws.length := by
  have l9 := D.l9
  have wl := D.wl
  refine ⟨gatesOk_gates (fun z => by have := D.l2; rw [z] at this; simp at this) D.kinds.1, by rw [asGs_gates]; omega, short_ws (n := 0) (by simp; omega) (fun x hx => (D.w x hx).2.2.2.2) (fun e h => by rw [List.mem_singleton.mp h]; exact hd.sh), ?_⟩
  rw [asGs_gates]
  show wfL gs [] (ws.map wireD ++ [d]) = _
  rw [D.net2, wfL_cons, hd.bad]
  rfl
theorem DrawnOk.ref3 (D : DrawnOk gs ws) (hg : GOk g0) (hd : OddW gs.length d) : RefW (gatesD (gs ++ [g0])) (.list (ws.map wireD ++ [d])) ws.length := by
  have l9 := D.l9
  have wl := D.wl
  refine ⟨D.more_ok hg, by rw [asGs_gates]; simp; omega, short_ws (n := 0) (by simp; omega) (fun x hx => (D.w x hx).2.2.2.2) (fun e h => by rw [List.mem_singleton.mp h]; exact hd.sh), ?_⟩
  rw [asGs_gates]
  show wfL (gs ++ [g0]) [] (ws.map wireD ++ [d]) = _
  rw [D.net3, wfL_cons]
  have : isWireD ((gs ++ [g0]).length : Nat) d = false := by
    have e : (((gs ++ [g0]).length : Nat) : Int) = (gs.length : Int) + 1 := by simp
    rw [e]
    exact hd.bad2
  rw [this]
  rfl
end
theorem DxAll.same' {K : PySem.W.Frag} {Av : Addr → Prop} {H H' : Hp} {ds : List PyData} {vs : List V} (s : Same H H') (h : DxAll K Av H vs ds) : DxAll K Av H' vs ds := DxAll.move (.same s) ds h
def spBoth (K : PySem.W.Frag) : Sp := fun vs H Q _ => ∃ (wl lg lw : Addr) (gs : List Gt) (ws : List Wr), vs = [.ref wl, .ref lg, .ref lw] ∧ WellAt wl H ∧ lg ≠ wl ∧ lw ≠ wl ∧ LG K H lg gs ∧ LW K H lw ws ∧ DrawnOk gs ws ∧ ∀ H', Dr wl H H' → Q (.bl true) H'
section
variable {P : Program} {w : World} {K : PySem.W.Frag} {mg : Str → Option Value} {base : Heap}
abbrev nBoth : List Str := ["_law_well_here", "_law_gates", "_law_wires", "_law_more", "_law_odd", "_law_some", "_law_others", "_law_place", "e"]
theorem scBoth : FnScope nBoth ["_law_well_here", "_law_gates", "_law_wires"] (defScope sBoth) := ⟨rfl, rfl, rfl, by decide +kernel, rfl, by decide +kernel, by decide +kernel⟩

abbrev DBoth (P : Program) (w : World) (K : PySem.W.Frag) (mg : Str → Option Value) (base : Heap) := Df P w K mg base 8 "_law_both_right" ["_law_well_here", "_law_gates", "_law_wires"] (spBoth K)
theorem ok_both {f fD fO fI C C0 CG CW fN : Addr} {fd fdD fdO fdI : FuncData} (F : Fun K "_law_both_right" "_law_both_right" sBoth f fd) (hm : mg "_law_both_right" = some (.ref f)) (B : Bt mg) (DD : DDraw P w K mg base fD fdD) (DO : DOne P w K mg base fO fdO) (T : NT K mg C) (TW : TEx K mg "NoWires" "place" CW fN) (g0 : mg "LagError" = some (.ref C0)) (MK : Mk K C fI) (DX : FnOk P w K mg base (L2.CX P w) 6 fI fdI ["self", "gates", "wires"] (spInitX K C CG CW)) (bI : Binds K fdI ["self", "gates", "wires"] []) : DBoth P w K mg base f fd := by
  refine ⟨?_, hm, F.kp, F.binds fun _ _ _ _ _ _ us hl => match us, hl with | [_, _, _], _ => rfl⟩
  refine F.ok scBoth (fun vs H Q E h => ?_) (fun cdv A outer s H vs Q E hr h => ?_)
  · obtain ⟨wl, lg, lw, gs, ws, rfl, _⟩ := h
    rfl
  · obtain ⟨wl, lg, lw, gs, ws, rfl, W0, nlg, nlw, LGs, LWs, D, q⟩ := h
    have nd := scBoth.nd
    refine ⟨_, pss_cons (ps_set (i := 3) nd rfl (.inl rfl) (pe_op op_cat (pv 1) (pe_lst (pa_cons (pe_call DO.ok (hr.mono (by decide)) (by rfl) DO.mg DO.kp DO.bd .nil pass0 (pa_cons (pv 0) (pa_cons (pe_lst (pa_cons (pe_tup (pa_cons pe_str (pa_cons pe_int pa_nil))) (pa_cons (pe_tup (pa_cons pe_str (pa_cons pe_int pa_nil))) pa_nil))) pa_nil))) pa_nil)))) <|
        pss_cons (ps_set (i := 4) nd rfl (.inl rfl) (pe_call DO.ok (hr.mono (by decide)) (by rfl) DO.mg DO.kp DO.bd .nil pass0 (pa_cons (pv 0) (pa_cons (pe_lst (pa_cons (pe_tup (pa_cons pe_int (pa_cons (pe_callB call_len_seq (by rfl) B.len PySem.boot_len (pa_cons (pv 3) pa_nil)) (pa_cons (pe_tup (pa_cons pe_int pa_nil)) pa_nil)))) (pa_cons (pe_tup (pa_cons pe_int (pa_cons pe_int (pa_cons (pe_lst (pa_cons pe_int pa_nil)) pa_nil)))) (pa_cons pe_non (pa_cons (pe_tup (pa_cons (pe_un un_neg pe_int) (pa_cons pe_int (pa_cons (pe_tup pa_nil) pa_nil)))) (pa_cons (pe_tup (pa_cons pe_int (pa_cons pe_int (pa_cons (pe_tup (pa_cons pe_int pa_nil)) pa_nil)))) pa_nil)))))) pa_nil)))) <|
        pss_cons (ps_for PassesOwn.never rfl (pi_list (pe_lst (pa_cons (pe_tup (pa_cons (pv 3) (pa_cons (pv 2) pa_nil))) (pa_cons (pe_tup (pa_cons (pv 1) (pa_cons (pe_op op_cat (pv 2) (pe_lst (pa_cons (pv 4) pa_nil))) pa_nil))) (pa_cons (pe_tup (pa_cons (pv 3) (pa_cons (pe_op op_cat (pv 2) (pe_lst (pa_cons (pv 4) pa_nil))) pa_nil))) pa_nil))))) (pg_tup rfl (pgs_cons (pg_name (i := 5) nd rfl (.inl rfl)) (pgs_cons (pg_name (i := 6) nd rfl (.inl rfl)) pgs_nil))) (pss_cons (ps_set (i := 7) nd rfl (.inl rfl) (pe_un un_neg pe_int)) <|
        pss_cons (ps_try_cls (tb := fun W => tDrop (tMakeS C (spInitX K C CG CW) (WE W) (tCons (tVar 5) (tCons (tVar 6) tNil)))) (Wo := fun _ _ _ _ => False) (l := [⟨.ref CW, some 8, fun a cls d D σ H => cls = .ref CW ∧ (σ.length = 9 → tAsg (tXf a (.ref CW) d CW "place" (tVar 8)) (gName 7) D σ H)⟩, ⟨.ref C0, none, fun a cls d D σ H => tRet (tC (.bl false)) D σ H⟩]) rfl rfl nd takes0 (fun W pn xe tk _ => pss_one (ps_expr (pe_makeS MK DX (hr.mono (by decide)) (by rfl) T.mg bI (fun σ => passAt tk σ) (pa_cons (pv 5) (pa_cons (pv 6) pa_nil))))) (ClsOk.named rfl rfl ⟨rfl, by decide, .inl TW.g⟩ (fun a oe cls d pn hz hf => pss_if fun e1 => by subst e1; exact pss_one (ps_set (i := 7) nd rfl (.inl rfl) (pe_xf TW.xf TW.no hz hf (pv 8)))) <| ClsOk.bare ⟨rfl, by decide, .inl g0⟩ (fun a oe cls d pn hz hf => pss_one (ps_ret pe_bl)) .nil)) <|
        pss_one (ps_if (pt_cmpR op_ne (pv 7) (pe_callB call_len_seq (by rfl) B.len PySem.boot_len (pa_cons (pv 2) pa_nil)) (nomark _)) (pss_one (ps_ret pe_bl)) pss_nil))) <|
        pss_one (ps_ret pe_bl), ?_⟩
    have x0 : Dr wl H H := ⟨But.same (Same.refl H), W0⟩
    refine ⟨_, rfl, _, rfl, (by show 2 ≤ sizeLine; decide), fun c1 hc1 => ?_⟩
    have S1 : Same H (upd H c1 (.tup [V.str "out", .int 0])) := same_new hc1
    have e1 : (upd H c1 (.tup [V.str "out", .int 0])) c1 = some (.tup [V.str "out", .int 0]) := upd_same
    have x1 : Dr wl H (upd H c1 (.tup [V.str "out", .int 0])) := x0.trans (Dr.new x0.well hc1)
    have n1 : c1 ≠ wl := (x0.well.ne hc1).symm
    generalize upd H c1 (.tup [V.str "out", .int 0]) = G1 at S1 e1 x1
    refine ⟨(by show 2 ≤ sizeLine; decide), fun c2 hc2 => ?_⟩
    have S2 : Same G1 (upd G1 c2 (.tup [V.str "first", .int 3])) := same_new hc2
    have e2 : (upd G1 c2 (.tup [V.str "first", .int 3])) c2 = some (.tup [V.str "first", .int 3]) := upd_same
    have x2 : Dr wl H (upd G1 c2 (.tup [V.str "first", .int 3])) := x1.trans (Dr.new x1.well hc2)
    have n2 : c2 ≠ wl := (x1.well.ne hc2).symm
    generalize upd G1 c2 (.tup [V.str "first", .int 3]) = G2 at S2 e2 x2
    replace e1 := S2 _ _ e1
    refine ⟨(by show 2 ≤ sizeLine; decide), fun c3 hc3 => ?_⟩
    have S3 : Same G2 (upd G2 c3 (.lst [V.ref c1, .ref c2])) := same_new hc3
    have e3 : (upd G2 c3 (.lst [V.ref c1, .ref c2])) c3 = some (.lst [V.ref c1, .ref c2]) := upd_same
    have x3 : Dr wl H (upd G2 c3 (.lst [V.ref c1, .ref c2])) := x2.trans (Dr.new x2.well hc3)
    have n3 : c3 ≠ wl := (x2.well.ne hc3).symm
    generalize upd G2 c3 (.lst [V.ref c1, .ref c2]) = G3 at S3 e3 x3
    replace e1 := S3 _ _ e1
    replace e2 := S3 _ _ e2
    refine ⟨wl, c3, _, rfl, n3, x3.well, SqL.of e3, by simp, by show 2 < 1000000; decide, fun v HA hv DA => ?_⟩
    have xA := x3.trans DA
    have LGA := lgdr LGs nlg W0 xA
    have LWA := lwdr LWs nlw W0 xA
    obtain ⟨t0, g1, rfl, sq0, hg1, hk1⟩ : ∃ (t0 : Addr) (g1 : Gt), v = .ref t0 ∧ SqT K HA t0 [.str g1.1, .int g1.2] ∧ GOk g1 ∧ (g1.1 = "out" ∨ g1.1 = "first") := by
      simp only [List.mem_cons, List.not_mem_nil, or_false] at hv
      rcases hv with rfl | rfl
      · exact ⟨c1, (("out" : Str), (0 : Int)), rfl, (TK.dr x3.well DA.but).seq (SqT.of e1), ⟨by decide +kernel, by decide, by decide, fun _ => rfl⟩, .inl rfl⟩
      · exact ⟨c2, (("first" : Str), (3 : Int)), rfl, (TK.dr x3.well DA.but).seq (SqT.of e2), ⟨by decide +kernel, by decide, by decide, fun p => absurd p (show ¬ (("first" : Str) = "in" ∨ ("first" : Str) = "out") by decide +kernel)⟩, .inr rfl⟩
    refine ⟨(by show 1 ≤ sizeLine; decide), fun c4 hc4 => ?_⟩
    have S4 : Same HA (upd HA c4 (.lst [V.ref t0])) := same_new hc4
    have e4 : (upd HA c4 (.lst [V.ref t0])) c4 = some (.lst [V.ref t0]) := upd_same
    have x4 : Dr wl H (upd HA c4 (.lst [V.ref t0])) := xA.trans (Dr.new xA.well hc4)
    generalize upd HA c4 (.lst [V.ref t0]) = G4 at S4 e4 x4
    obtain ⟨gv, hgv, hga⟩ := lgdr LGs nlg W0 x4
    have hgl : gv.length = gs.length := hga.1
    have l9 := D.l9
    refine ⟨lg, c4, _, _, rfl, rfl, hgv, e4, (by show gv.length + 1 ≤ sizeLine; exact Nat.le_of_lt (small1000 (by omega))), fun lm hlm => ?_⟩
    have S5 : Same G4 (upd G4 lm (.lst (gv ++ [V.ref t0]))) := same_new hlm
    have em : (upd G4 lm (.lst (gv ++ [V.ref t0]))) lm = some (.lst (gv ++ [V.ref t0])) := upd_same
    have x5 : Dr wl H (upd G4 lm (.lst (gv ++ [V.ref t0]))) := x4.trans (Dr.new x4.well hlm)
    have nlm : lm ≠ wl := (x4.well.ne hlm).symm
    generalize upd G4 lm (.lst (gv ++ [V.ref t0])) = G5 at S5 em x5
    have LGM : LG K G5 lm (gs ++ [g1]) := ⟨_, em, (hga.imp fun _ _ r => r.tk (TK.same S5)).snoc ⟨t0, rfl, (TK.same (S4.trans S5)).seq sq0⟩⟩
    have x5' := x5
    refine gn_norm (σ' := [some (.ref wl), some (.ref lg), some (.ref lw), some (.ref lm), none, none, none, none, none]) rfl ?_
    have hml : (gv ++ [V.ref t0]).length = gs.length + 1 := by simp [hgl]
    generalize gv ++ [V.ref t0] = mv at em hml
    refine ⟨_, rfl, _, rfl, lm, _, rfl, .inl (SqL.of em), (by show 1 ≤ sizeLine; decide), fun c6 hc6 => ?_⟩
    have S6 : Same G5 (upd G5 c6 (.tup [V.int 1])) := same_new hc6
    have e6 : (upd G5 c6 (.tup [V.int 1])) c6 = some (.tup [V.int 1]) := upd_same
    have x6 : Dr wl H (upd G5 c6 (.tup [V.int 1])) := x5.trans (Dr.new x5.well hc6)
    have n6 : c6 ≠ wl := (x5.well.ne hc6).symm
    generalize upd G5 c6 (.tup [V.int 1]) = G6 at S6 e6 x6
    replace em := S6 _ _ em
    refine ⟨(by show 3 ≤ sizeLine; decide), fun c7 hc7 => ?_⟩
    have S7 : Same G6 (upd G6 c7 (.tup [V.int 0, .int ((mv.length : Nat) : Int), .ref c6])) := same_new hc7
    have e7 : (upd G6 c7 (.tup [V.int 0, .int ((mv.length : Nat) : Int), .ref c6])) c7 = some (.tup [V.int 0, .int ((mv.length : Nat) : Int), .ref c6]) := upd_same
    have x7 : Dr wl H (upd G6 c7 (.tup [V.int 0, .int ((mv.length : Nat) : Int), .ref c6])) := x6.trans (Dr.new x6.well hc7)
    have n7 : c7 ≠ wl := (x6.well.ne hc7).symm
    generalize upd G6 c7 (.tup [V.int 0, .int ((mv.length : Nat) : Int), .ref c6]) = G7 at S7 e7 x7
    replace em := S7 _ _ em
    replace e6 := S7 _ _ e6
    refine ⟨(by show 1 ≤ sizeLine; decide), fun c8 hc8 => ?_⟩
    have S8 : Same G7 (upd G7 c8 (.lst [V.int 1])) := same_new hc8
    have e8 : (upd G7 c8 (.lst [V.int 1])) c8 = some (.lst [V.int 1]) := upd_same
    have x8 : Dr wl H (upd G7 c8 (.lst [V.int 1])) := x7.trans (Dr.new x7.well hc8)
    have n8 : c8 ≠ wl := (x7.well.ne hc8).symm
    generalize upd G7 c8 (.lst [V.int 1]) = G8 at S8 e8 x8
    replace em := S8 _ _ em
    replace e6 := S8 _ _ e6
    replace e7 := S8 _ _ e7
    refine ⟨(by show 3 ≤ sizeLine; decide), fun c9 hc9 => ?_⟩
    have S9 : Same G8 (upd G8 c9 (.tup [V.int 0, .int 1, .ref c8])) := same_new hc9
    have e9 : (upd G8 c9 (.tup [V.int 0, .int 1, .ref c8])) c9 = some (.tup [V.int 0, .int 1, .ref c8]) := upd_same
    have x9 : Dr wl H (upd G8 c9 (.tup [V.int 0, .int 1, .ref c8])) := x8.trans (Dr.new x8.well hc9)
    have n9 : c9 ≠ wl := (x8.well.ne hc9).symm
    generalize upd G8 c9 (.tup [V.int 0, .int 1, .ref c8]) = G9 at S9 e9 x9
    replace em := S9 _ _ em
    replace e6 := S9 _ _ e6
    replace e7 := S9 _ _ e7
    replace e8 := S9 _ _ e8
    refine ⟨_, rfl, (by show 0 ≤ sizeLine; decide), fun c10 hc10 => ?_⟩
    have S10 : Same G9 (upd G9 c10 (.tup [])) := same_new hc10
    have e10 : (upd G9 c10 (.tup [])) c10 = some (.tup []) := upd_same
    have x10 : Dr wl H (upd G9 c10 (.tup [])) := x9.trans (Dr.new x9.well hc10)
    have n10 : c10 ≠ wl := (x9.well.ne hc10).symm
    generalize upd G9 c10 (.tup []) = G10 at S10 e10 x10
    replace em := S10 _ _ em
    replace e6 := S10 _ _ e6
    replace e7 := S10 _ _ e7
    replace e8 := S10 _ _ e8
    replace e9 := S10 _ _ e9
    refine ⟨(by show 3 ≤ sizeLine; decide), fun c11 hc11 => ?_⟩
    have S11 : Same G10 (upd G10 c11 (.tup [V.int (-1), .int 1, .ref c10])) := same_new hc11
    have e11 : (upd G10 c11 (.tup [V.int (-1), .int 1, .ref c10])) c11 = some (.tup [V.int (-1), .int 1, .ref c10]) := upd_same
    have x11 : Dr wl H (upd G10 c11 (.tup [V.int (-1), .int 1, .ref c10])) := x10.trans (Dr.new x10.well hc11)
    have n11 : c11 ≠ wl := (x10.well.ne hc11).symm
    generalize upd G10 c11 (.tup [V.int (-1), .int 1, .ref c10]) = G11 at S11 e11 x11
    replace em := S11 _ _ em
    replace e6 := S11 _ _ e6
    replace e7 := S11 _ _ e7
    replace e8 := S11 _ _ e8
    replace e9 := S11 _ _ e9
    replace e10 := S11 _ _ e10
    refine ⟨(by show 1 ≤ sizeLine; decide), fun c12 hc12 => ?_⟩
    have S12 : Same G11 (upd G11 c12 (.tup [V.int 97])) := same_new hc12
    have e12 : (upd G11 c12 (.tup [V.int 97])) c12 = some (.tup [V.int 97]) := upd_same
    have x12 : Dr wl H (upd G11 c12 (.tup [V.int 97])) := x11.trans (Dr.new x11.well hc12)
    have n12 : c12 ≠ wl := (x11.well.ne hc12).symm
    generalize upd G11 c12 (.tup [V.int 97]) = G12 at S12 e12 x12
    replace em := S12 _ _ em
    replace e6 := S12 _ _ e6
    replace e7 := S12 _ _ e7
    replace e8 := S12 _ _ e8
    replace e9 := S12 _ _ e9
    replace e10 := S12 _ _ e10
    replace e11 := S12 _ _ e11
    refine ⟨(by show 3 ≤ sizeLine; decide), fun c13 hc13 => ?_⟩
    have S13 : Same G12 (upd G12 c13 (.tup [V.int 0, .int 1, .ref c12])) := same_new hc13
    have e13 : (upd G12 c13 (.tup [V.int 0, .int 1, .ref c12])) c13 = some (.tup [V.int 0, .int 1, .ref c12]) := upd_same
    have x13 : Dr wl H (upd G12 c13 (.tup [V.int 0, .int 1, .ref c12])) := x12.trans (Dr.new x12.well hc13)
    have n13 : c13 ≠ wl := (x12.well.ne hc13).symm
    generalize upd G12 c13 (.tup [V.int 0, .int 1, .ref c12]) = G13 at S13 e13 x13
    replace em := S13 _ _ em
    replace e6 := S13 _ _ e6
    replace e7 := S13 _ _ e7
    replace e8 := S13 _ _ e8
    replace e9 := S13 _ _ e9
    replace e10 := S13 _ _ e10
    replace e11 := S13 _ _ e11
    replace e12 := S13 _ _ e12
    refine ⟨(by show 5 ≤ sizeLine; decide), fun c14 hc14 => ?_⟩
    have S14 : Same G13 (upd G13 c14 (.lst [V.ref c7, .ref c9, .non, .ref c11, .ref c13])) := same_new hc14
    have e14 : (upd G13 c14 (.lst [V.ref c7, .ref c9, .non, .ref c11, .ref c13])) c14 = some (.lst [V.ref c7, .ref c9, .non, .ref c11, .ref c13]) := upd_same
    have x14 : Dr wl H (upd G13 c14 (.lst [V.ref c7, .ref c9, .non, .ref c11, .ref c13])) := x13.trans (Dr.new x13.well hc14)
    have n14 : c14 ≠ wl := (x13.well.ne hc14).symm
    generalize upd G13 c14 (.lst [V.ref c7, .ref c9, .non, .ref c11, .ref c13]) = G14 at S14 e14 x14
    replace em := S14 _ _ em
    replace e6 := S14 _ _ e6
    replace e7 := S14 _ _ e7
    replace e8 := S14 _ _ e8
    replace e9 := S14 _ _ e9
    replace e10 := S14 _ _ e10
    replace e11 := S14 _ _ e11
    replace e12 := S14 _ _ e12
    replace e13 := S14 _ _ e13
    refine ⟨wl, c14, _, rfl, n14, x14.well, SqL.of e14, by simp, by show 5 < 1000000; decide, fun v HB hv DB => ?_⟩
    obtain ⟨d, hdx, hodd⟩ : ∃ d, Dx K Any HB v d ∧ OddW gs.length d := by
      have key : ∃ d, Dx K (· ≠ wl) G14 v d ∧ OddW gs.length d := by
        simp only [List.mem_cons, List.not_mem_nil, or_false] at hv
        rcases hv with rfl | rfl | rfl | rfl | rfl
        · exact ⟨.tuple [.int 0, .int ((mv.length : Nat) : Int), .tuple [.int 1]], (.tup (SqT.of e7) (.cons (.int _) (.cons (.int _) (.cons (.tup (SqT.of e6) (.cons (.int _) .nil)) .nil)))), odd1 hml⟩
        · exact ⟨.tuple [.int 0, .int 1, .list [.int 1]], (.tup (SqT.of e9) (.cons (.int _) (.cons (.int _) (.cons (.lst e8 n8 (.cons (.int _) .nil)) .nil)))), odd2⟩
        · exact ⟨.none, .non, odd3⟩
        · exact ⟨.tuple [.int (-1), .int 1, .tuple []], (.tup (SqT.of e11) (.cons (.int _) (.cons (.int _) (.cons (.tup (SqT.of e10) .nil) .nil)))), odd4⟩
        · exact ⟨.tuple [.int 0, .int 1, .tuple [.int 97]], (.tup (SqT.of e13) (.cons (.int _) (.cons (.int _) (.cons (.tup (SqT.of e12) (.cons (.int _) .nil)) .nil)))), odd5⟩
      obtain ⟨d, h1, h2⟩ := key
      exact ⟨d, (h1.dr x14.well DB).any, h2⟩
    have xB := x14.trans DB
    have x5B : Dr wl G5 HB := (Dr.mk (But.same (((((((((S6.trans S7).trans S8).trans S9).trans S10).trans S11).trans S12).trans S13).trans S14))) x14.well).trans DB
    refine gn_norm (σ' := [some (.ref wl), some (.ref lg), some (.ref lw), some (.ref lm), some v, none, none, none, none]) rfl ?_
    have LM := lgdr LGM nlm x5.well x5B
    have LG1 := lgdr LGs nlg W0 xB
    obtain ⟨wv, hwv, hwa⟩ := lwdr LWs nlw W0 xB
    have hwl : wv.length = ws.length := hwa.1
    have wl15 := D.wl
    have hwv0 := hwv
    refine ⟨_, rfl, _, rfl, (by show 2 ≤ sizeLine; decide), fun c30 hc30 => ?_⟩
    have S30 : Same HB (upd HB c30 (.tup [V.ref lm, .ref lw])) := same_new hc30
    have e30 : (upd HB c30 (.tup [V.ref lm, .ref lw])) c30 = some (.tup [V.ref lm, .ref lw]) := upd_same
    have x30 : Dr wl H (upd HB c30 (.tup [V.ref lm, .ref lw])) := xB.trans (Dr.new xB.well hc30)
    have n30 : c30 ≠ wl := (xB.well.ne hc30).symm
    generalize upd HB c30 (.tup [V.ref lm, .ref lw]) = G30 at S30 e30 x30
    replace hwv := S30 _ _ hwv
    refine ⟨_, rfl, _, rfl, _, rfl, (by show 1 ≤ sizeLine; decide), fun c31 hc31 => ?_⟩
    have S31 : Same G30 (upd G30 c31 (.lst [v])) := same_new hc31
    have e31 : (upd G30 c31 (.lst [v])) c31 = some (.lst [v]) := upd_same
    have x31 : Dr wl H (upd G30 c31 (.lst [v])) := x30.trans (Dr.new x30.well hc31)
    have n31 : c31 ≠ wl := (x30.well.ne hc31).symm
    generalize upd G30 c31 (.lst [v]) = G31 at S31 e31 x31
    replace hwv := S31 _ _ hwv
    replace e30 := S31 _ _ e30
    refine ⟨lw, c31, _, _, rfl, rfl, hwv, e31, (by show wv.length + 1 ≤ sizeLine; exact Nat.le_of_lt (small1000 (by omega))), fun c32 hc32 => ?_⟩
    have S32 : Same G31 (upd G31 c32 (.lst (wv ++ [v]))) := same_new hc32
    have e32 : (upd G31 c32 (.lst (wv ++ [v]))) c32 = some (.lst (wv ++ [v])) := upd_same
    have x32 : Dr wl H (upd G31 c32 (.lst (wv ++ [v]))) := x31.trans (Dr.new x31.well hc32)
    have n32 : c32 ≠ wl := (x31.well.ne hc32).symm
    generalize upd G31 c32 (.lst (wv ++ [v])) = G32 at S32 e32 x32
    replace hwv := S32 _ _ hwv
    replace e30 := S32 _ _ e30
    replace e31 := S32 _ _ e31
    refine ⟨(by show 2 ≤ sizeLine; decide), fun c33 hc33 => ?_⟩
    have S33 : Same G32 (upd G32 c33 (.tup [V.ref lg, .ref c32])) := same_new hc33
    have e33 : (upd G32 c33 (.tup [V.ref lg, .ref c32])) c33 = some (.tup [V.ref lg, .ref c32]) := upd_same
    have x33 : Dr wl H (upd G32 c33 (.tup [V.ref lg, .ref c32])) := x32.trans (Dr.new x32.well hc33)
    have n33 : c33 ≠ wl := (x32.well.ne hc33).symm
    generalize upd G32 c33 (.tup [V.ref lg, .ref c32]) = G33 at S33 e33 x33
    replace hwv := S33 _ _ hwv
    replace e30 := S33 _ _ e30
    replace e31 := S33 _ _ e31
    replace e32 := S33 _ _ e32
    refine ⟨_, rfl, _, rfl, _, rfl, (by show 1 ≤ sizeLine; decide), fun c34 hc34 => ?_⟩
    have S34 : Same G33 (upd G33 c34 (.lst [v])) := same_new hc34
    have e34 : (upd G33 c34 (.lst [v])) c34 = some (.lst [v]) := upd_same
    have x34 : Dr wl H (upd G33 c34 (.lst [v])) := x33.trans (Dr.new x33.well hc34)
    have n34 : c34 ≠ wl := (x33.well.ne hc34).symm
    generalize upd G33 c34 (.lst [v]) = G34 at S34 e34 x34
    replace hwv := S34 _ _ hwv
    replace e30 := S34 _ _ e30
    replace e31 := S34 _ _ e31
    replace e32 := S34 _ _ e32
    replace e33 := S34 _ _ e33
    refine ⟨lw, c34, _, _, rfl, rfl, hwv, e34, (by show wv.length + 1 ≤ sizeLine; exact Nat.le_of_lt (small1000 (by omega))), fun c35 hc35 => ?_⟩
    have S35 : Same G34 (upd G34 c35 (.lst (wv ++ [v]))) := same_new hc35
    have e35 : (upd G34 c35 (.lst (wv ++ [v]))) c35 = some (.lst (wv ++ [v])) := upd_same
    have x35 : Dr wl H (upd G34 c35 (.lst (wv ++ [v]))) := x34.trans (Dr.new x34.well hc35)
    have n35 : c35 ≠ wl := (x34.well.ne hc35).symm
    generalize upd G34 c35 (.lst (wv ++ [v])) = G35 at S35 e35 x35
    replace hwv := S35 _ _ hwv
    replace e30 := S35 _ _ e30
    replace e31 := S35 _ _ e31
    replace e32 := S35 _ _ e32
    replace e33 := S35 _ _ e33
    replace e34 := S35 _ _ e34
    refine ⟨(by show 2 ≤ sizeLine; decide), fun c36 hc36 => ?_⟩
    have S36 : Same G35 (upd G35 c36 (.tup [V.ref lm, .ref c35])) := same_new hc36
    have e36 : (upd G35 c36 (.tup [V.ref lm, .ref c35])) c36 = some (.tup [V.ref lm, .ref c35]) := upd_same
    have x36 : Dr wl H (upd G35 c36 (.tup [V.ref lm, .ref c35])) := x35.trans (Dr.new x35.well hc36)
    have n36 : c36 ≠ wl := (x35.well.ne hc36).symm
    generalize upd G35 c36 (.tup [V.ref lm, .ref c35]) = G36 at S36 e36 x36
    replace hwv := S36 _ _ hwv
    replace e30 := S36 _ _ e30
    replace e31 := S36 _ _ e31
    replace e32 := S36 _ _ e32
    replace e33 := S36 _ _ e33
    replace e34 := S36 _ _ e34
    replace e35 := S36 _ _ e35
    refine ⟨(by show 3 ≤ sizeLine; decide), fun c37 hc37 => ?_⟩
    have S37 : Same G36 (upd G36 c37 (.lst [V.ref c30, .ref c33, .ref c36])) := same_new hc37
    have e37 : (upd G36 c37 (.lst [V.ref c30, .ref c33, .ref c36])) c37 = some (.lst [V.ref c30, .ref c33, .ref c36]) := upd_same
    have x37 : Dr wl H (upd G36 c37 (.lst [V.ref c30, .ref c33, .ref c36])) := x36.trans (Dr.new x36.well hc37)
    have n37 : c37 ≠ wl := (x36.well.ne hc37).symm
    generalize upd G36 c37 (.lst [V.ref c30, .ref c33, .ref c36]) = G37 at S37 e37 x37
    replace hwv := S37 _ _ hwv
    replace e30 := S37 _ _ e30
    replace e31 := S37 _ _ e31
    replace e32 := S37 _ _ e32
    replace e33 := S37 _ _ e33
    replace e34 := S37 _ _ e34
    replace e35 := S37 _ _ e35
    replace e36 := S37 _ _ e36
    have sB := (((((((S30.trans S31).trans S32).trans S33).trans S34).trans S35).trans S36).trans S37)
    have dxg : ∀ {l : Addr} {gs : List Gt}, LG K HB l gs → Dx K Any G37 (.ref l) (gatesD gs) := fun h => by
      obtain ⟨gv, h1, h2⟩ := h
      exact (Dx.lst h1 trivial (dx_all (fun _ _ r => gate_dx r) h2)).same sB
    have dxw : Dx K Any G37 (.ref lw) (.list (ws.map wireD)) := (Dx.lst hwv0 trivial (dx_all (fun _ _ r => wire_dx r) hwa)).same sB
    have dxo : ∀ {l : Addr}, G37 l = some (.lst (wv ++ [v])) → Dx K Any G37 (.ref l) (.list (ws.map wireD ++ [d])) := fun h => Dx.lst h trivial (DxAll.same' sB (dxs_app (dx_all (fun _ _ r => wire_dx r) hwa) (.cons hdx .nil)))
    have items : ∀ (i : Nat) (x : V), [V.ref c30, V.ref c33, V.ref c36][i]? = some x → ∃ (t : Addr) (vg vw : V) (G W : PyData), x = .ref t ∧ G37 t = some (.tup [vg, vw]) ∧ Dx K Any G37 vg G ∧ Dx K Any G37 vw W ∧ RefW G W ws.length := fun i x hx => by
      have hm := List.mem_of_getElem? hx
      simp only [List.mem_cons, List.not_mem_nil, or_false] at hm
      rcases hm with rfl | rfl | rfl
      · exact ⟨c30, _, _, _, _, rfl, e30, dxg LM, dxw, D.ref1 hg1 hk1⟩
      · exact ⟨c33, _, _, _, _, rfl, e33, dxg LG1, dxo e32, D.ref2 hodd⟩
      · exact ⟨c36, _, _, _, _, rfl, e36, dxg LM, dxo e35, D.ref3 hg1 hodd⟩
    refine ⟨c37, rfl, ⟨_, SqL.of e37⟩, for_list (K := K) (a := c37) (xs := [V.ref c30, V.ref c33, V.ref c36]) (fun i σ Hc => ∃ s5 s6 s7 : Option V, σ = [some (.ref wl), some (.ref lg), some (.ref lw), some (.ref lm), some v, s5, s6, s7, none] ∧ Same G37 Hc) ⟨_, _, _, rfl, Same.refl _⟩ (fun i σ Hc _ ⟨_, _, _, _, sm⟩ => SqL.of (sm _ _ e37)) ?_ ?_⟩
    · rintro i x σ Hc hx ⟨s5, s6, s7, rfl, sm⟩
      obtain ⟨t, vg, vw, G, W, rfl, et, dg, dw, R⟩ := items i x hx
      refine ⟨t, _, rfl, SqT.of (sm _ _ et), rfl, _, _, rfl, _, _, rfl, rfl, ?_⟩
      rw [show (([some (V.ref wl), some (V.ref lg), some (V.ref lw), some (V.ref lm), some v, s5, s6, s7, none].set 5 (some vg)).set 6 (some vw)) = [some (V.ref wl), some (V.ref lg), some (V.ref lw), some (V.ref lm), some v, some vg, some vw, s7, none] from rfl]
      refine ⟨_, rfl, ?_⟩
      refine gn_norm (σ' := [some (.ref wl), some (.ref lg), some (.ref lw), some (.ref lm), some v, some vg, some vw, some (.int (-2)), none]) rfl ?_
      refine ⟨_, rfl, _, rfl, fun x dx hx hdx nx => ?_⟩
      have S1 : Same Hc (upd (upd Hc dx (.own x)) x (.ins C dx [])) := (same_new hdx).trans (same_new (by rw [upd_ne nx.symm]; exact hx))
      generalize upd (upd Hc dx (.own x)) x (.ins C dx []) = H1 at S1
      refine ⟨x, vg, vw, G, W, rfl, dg.same (sm.trans S1), dw.same (sm.trans S1), R.l, R.s, .inr ⟨R.g, _, R.w, fun dy H' s n => ?_⟩⟩
      have ex : (upd H' dy (.xd [(("place" : Str), .int ((ws.length : Nat) : Int))])) dy = some (.xd [(("place" : Str), .int ((ws.length : Nat) : Int))]) := upd_same
      have S2 := ((sm.trans S1).trans s).trans (same_new (o := .xd [(("place" : Str), .int ((ws.length : Nat) : Int))]) n)
      generalize upd H' dy (.xd [(("place" : Str), .int ((ws.length : Nat) : Int))]) = H2 at S2 ex
      refine ⟨true, TW.te, fun _ a ha => ⟨rfl, fun _ => ?_⟩, fun z => by cases z⟩
      refine ⟨_, rfl, rfl, rfl, dy, _, .int ((ws.length : Nat) : Int), rfl, ex, rfl, ?_⟩
      refine gn_norm (σ' := [some (.ref wl), some (.ref lg), some (.ref lw), some (.ref lm), some v, some vg, some vw, some (.int ((ws.length : Nat) : Int)), some (.ref a)]) rfl ?_
      refine ⟨_, rfl, _, rfl, lw, wv, rfl, .inl (SqL.of ((sB.trans S2) _ _ hwv0)), rfl, false, ?_, iteF ⟨_, _, _, rfl, S2⟩⟩
      show V.bl (!decide (V.int ((ws.length : Nat) : Int) = V.int ((wv.length : Nat) : Int))) = V.bl false
      rw [hwl, decide_eq_true rfl]
      rfl
    · rintro σ Hc ⟨s5, s6, s7, rfl, sm⟩
      exact q Hc (xB.trans ⟨But.same (sB.trans sm), xB.well.same (sB.trans sm)⟩)
end
end Lag

set_option maxRecDepth 100000
set_option maxHeartbeats 8000000
namespace Lag
open PySem PySem.Spec PyProof.Rows L2
abbrev sRight : Stmt := topS 37 -- @_law_right
abbrev sLaw : Stmt := topS 38 -- @law
theorem vals_refs : ∀ (l : List Addr) (us : List Value), Vals (l.map V.ref) us → us = l.map Value.ref
  | [], us, r => by
    cases r
    rfl
  | a :: l, us, r => by
    cases r with
    | cons r1 r2 =>
      cases r1
      rw [vals_refs l _ r2]
      rfl
structure RingC (K : PySem.W.Frag) (mg : Str → Option Value) (C0 CG CW CR fN : Addr) : Prop where
  g0 : mg "LagError" = some (.ref C0)
  gG : mg "NoGates" = some (.ref CG)
  gW : mg "NoWires" = some (.ref CW)
  TR : TEx K mg "NoRing" "ring" CR fN
  gV : mg "ValueError" = none
  mI : mg "isinstance" = none
  aR : PySem.W.kitAny K (.ref CR) [.ref CG, .ref CW] = some false
  vR : PySem.W.kitOne K (.ref CR) (.type "ValueError") = some true
  xR : ExcC K CR
def spRight : Sp := fun vs H Q _ => ∃ wl : Addr, vs = [.ref wl] ∧ WellAt wl H ∧ ∀ H', Dr wl H H' → Q (.bl true) H'
theorem mem_cut {xs : List V} {lo hi : Option Int} {v : V} (h : v ∈ cutV xs lo hi) : v ∈ xs := by
  unfold cutV at h
  exact List.mem_of_mem_drop (List.mem_of_mem_take h)
def spLaw (K : PySem.W.Frag) : Sp := fun vs H Q _ => ∃ (a : Addr) (ns : List Int), vs = [.ref a] ∧ SqL K H a (ns.map V.int) ∧ ns.length ≤ 63 ∧ ∀ H', Q (.bl true) H'
section
variable {P : Program} {w : World} {K : PySem.W.Frag} {mg : Str → Option Value} {base : Heap}
abbrev nRight : List Str := ["_law_well_here", "_law_gates", "_law_wires", "_law_bad", "_law_found", "_law_net", "e"]
theorem scRight : FnScope nRight ["_law_well_here"] (defScope sRight) := ⟨rfl, rfl, rfl, by decide +kernel, rfl, by decide +kernel, by decide +kernel⟩

abbrev DRight (P : Program) (w : World) (K : PySem.W.Frag) (mg : Str → Option Value) (base : Heap) := Df P w K mg base 9 "_law_right" ["_law_well_here"] spRight
theorem ok_right {f fD fDr fH fB fR fI C C0 CG CW CR fN : Addr} {fd fdD fdDr fdH fdB fdR fdI : FuncData} (F : Fun K "_law_right" "_law_right" sRight f fd) (hm : mg "_law_right" = some (.ref f)) (B : Bt mg) (DD : DDraw P w K mg base fD fdD) (DDr : DDrawn P w K mg base fDr fdDr) (DH : DHasRing P w K mg base fH fdH) (DBR : DBoth P w K mg base fB fdB) (DIR : DIsRing P w K mg base fR fdR)
    (T : NT K mg C) (R : RingC K mg C0 CG CW CR fN) (MK : Mk K C fI) (init : FnOk P w K mg base CX0 6 fI fdI ["self", "gates", "wires"] (spInit K C)) (DX : FnOk P w K mg base (L2.CX P w) 6 fI fdI ["self", "gates", "wires"] (spInitR K CR)) (bI : Binds K fdI ["self", "gates", "wires"] []) : DRight P w K mg base f fd := by
  refine ⟨?_, hm, F.kp, F.binds fun _ _ _ _ _ _ us hl => match us, hl with | [_], _ => rfl⟩
  refine F.ok scRight (fun vs H Q E h => ?_) (fun cdv A outer s H vs Q E hr h => ?_)
  · obtain ⟨wl, rfl, _⟩ := h
    rfl
  · obtain ⟨wl, rfl, W0, q⟩ := h
    have nd := scRight.nd
    refine ⟨_, pss_cons (ps_asg (pe_call DDr.ok (hr.mono (by decide)) (by rfl) DDr.mg DDr.kp DDr.bd .nil pass0 (pa_cons (pv 0) pa_nil)) (pg_tup rfl (pgs_cons (pg_name (i := 1) nd rfl (.inl rfl)) (pgs_cons (pg_name (i := 2) nd rfl (.inl rfl)) pgs_nil)))) <|
        pss_cons (ps_set (i := 3) nd rfl (.inl rfl) (pe_call DH.ok (hr.mono (by decide)) (by rfl) DH.mg DH.kp DH.bd .nil pass0 (pa_cons (pv 1) (pa_cons (pv 2) pa_nil)))) <|
        Evl.pss_cut (ps_if (PW.pt (pw_and (pt_cmpR op_eq (pe_call DD.ok (hr.mono (by decide)) (by rfl) DD.mg DD.kp DD.bd .nil pass0 (pa_cons (pv 0) (pa_cons pe_int pa_nil))) pe_int (nomark _)) (pw_and1 (pt_not (pt_val (pe_call DBR.ok (hr.mono (by decide)) (by rfl) DBR.mg DBR.kp DBR.bd .nil pass0 (pa_cons (pv 0) (pa_cons (pv 1) (pa_cons (pv 2) pa_nil))))))))) (pss_one (ps_ret pe_bl)) pss_nil) <|
        pss_cons (ps_set (i := 4) nd rfl (.inl rfl) pe_non) <|
        pss_cons (ps_try_cls (tb := fun W => tAsg (tMakeS C (fun vs H Q E => spInit K C vs H Q E ∨ spInitR K CR vs H Q E) (WE W) (tCons (tVar 1) (tCons (tVar 2) tNil))) (gName 5)) (Wo := fun _ _ _ _ => False) (l := [⟨.ref CR, some 6, fun a cls d D σ H => cls = .ref CR ∧ (σ.length = 7 → tSeq (tAsg (tXf a (.ref CR) d CR "ring" (tVar 6)) (gName 4)) (tIfS (tOr (tB (tCB (rIsN K CR a d) (tCons (tVar 6) (tCons (tTup (tCons (tC (.ref CG)) (tCons (tC (.ref CW)) tNil))) tNil)))) (tNot (tB (tCB (rIs1 K CR a d) (tCons (tVar 6) (tCons (tC (.ty "ValueError")) tNil)))))) (tRet (tC (.bl false))) tNext) D σ H)⟩, ⟨.ref C0, none, fun a cls d D σ H => tRet (tC (.bl false)) D σ H⟩]) rfl rfl nd takes0 (fun W pn xe tk _ => pss_one (ps_set (i := 5) nd rfl (.inl rfl) (pe_makeS MK (fn_or (fn_cx0 init) DX) (hr.mono (by decide)) (by rfl) T.mg bI (fun σ => passAt tk σ) (pa_cons (pv 1) (pa_cons (pv 2) pa_nil))))) (ClsOk.named rfl rfl ⟨rfl, by decide, .inl R.TR.g⟩ (fun a oe cls d pn hz hf => pss_if fun e1 => by subst e1; exact pss_cons (ps_set (i := 4) nd rfl (.inl rfl) (pe_xf R.TR.xf R.TR.no hz hf (pv 6))) <| pss_one (ps_if (PW.pt (pw_or (pt_val (pe_callB (call_isN R.xR hz hf) (by rfl) R.mI (by decide +kernel) (pa_cons (pv 6) (pa_cons (pe_tup (pa_cons (pe_glob (v := .ref CG) (by rfl) R.gG rfl) (pa_cons (pe_glob (v := .ref CW) (by rfl) R.gW rfl) pa_nil))) pa_nil)))) (pw_or1 (pt_not (pt_val (pe_callB (call_is1 R.xR hz hf) (by rfl) R.mI (by decide +kernel) (pa_cons (pv 6) (pa_cons (pe_bltn (v := .ty "ValueError") (by rfl) R.gV (by decide +kernel) rfl) pa_nil)))))))) (pss_one (ps_ret pe_bl)) pss_nil)) <| ClsOk.bare ⟨rfl, by decide, .inl R.g0⟩ (fun a oe cls d pn hz hf => pss_one (ps_ret pe_bl)) .nil)) <|
        pss_cons (ps_if (pt_cmpR op_isN (pv 4) pe_non (nomark _)) (pss_one (ps_ret (pe_and (pe_not (pv 3)) (pe_one (pe_cmpR (op_eqD hr.units) (pe_fld (pv 5) rfl) (pv 2) (nomark _)))))) pss_nil) <|
        pss_one (ps_ret (pe_and (pv 3) (pe_one (pe_call DIR.ok (hr.mono (by decide)) (by rfl) DIR.mg DIR.kp DIR.bd .nil pass0 (pa_cons (pv 2) (pa_cons (pv 4) pa_nil)))))), ?_⟩
    refine ⟨_, rfl, wl, rfl, W0, fun gs ws lg lw p H1 D D1 hlg hlw nglw LG1 LW1 ep => ?_⟩
    have nlg : lg ≠ wl := (W0.ne hlg).symm
    have nlw : lw ≠ wl := (W0.ne hlw).symm
    refine ⟨p, _, rfl, SqT.of ep, rfl, _, _, rfl, _, _, rfl, rfl, ?_⟩
    rw [show (((L2.start nRight [V.ref wl]).set 1 (some (V.ref lg))).set 2 (some (V.ref lw))) = [some (.ref wl), some (.ref lg), some (.ref lw), none, none, none, none] from rfl]
    refine ⟨_, rfl, _, rfl, lg, lw, gs, ws, rfl, LG1, LW1, D.l9, D.wl, fun H2 s2 => ?_⟩
    have D2 : Dr wl H H2 := D1.trans ⟨But.same s2, D1.well.same s2⟩
    have LG2 := LG1.same s2
    have LW2 := LW1.same s2
    refine gn_norm (σ' := [some (.ref wl), some (.ref lg), some (.ref lw), some (.bl (hasRing ws gs.length)), none, none, none]) rfl ?_
    refine ⟨fun σ Hc => σ = [some (.ref wl), some (.ref lg), some (.ref lw), some (.bl (hasRing ws gs.length)), none, none, none] ∧ Dr wl H Hc ∧ LG K Hc lg gs ∧ LW K Hc lw ws, ?_, ?_⟩
    · refine ⟨_, rfl, wl, 4, rfl, by decide, by decide, D2.well, fun d3 H3 d30 d31 D3 => ⟨rfl, _, rfl, ite2 (fun _ => ?_) (fun _ => ?_)⟩⟩
      · have LG3 := lgdr LG2 nlg D2.well D3
        have LW3 := lwdr LW2 nlw D2.well D3
        have X3 := D2.trans D3
        exact ⟨_, rfl, _, rfl, _, rfl, wl, lg, lw, gs, ws, rfl, X3.well, nlg, nlw, LG3, LW3, D, fun H4 D4 => ⟨true, rfl, iteF ⟨rfl, X3.trans D4, lgdr LG3 nlg X3.well D4, lwdr LW3 nlw X3.well D4⟩⟩⟩
      · exact ⟨rfl, D2.trans D3, lgdr LG2 nlg D2.well D3, lwdr LW2 nlw D2.well D3⟩
    clear LG1 LW1 LG2 LW2 D2 ep D1
    rintro σ H3 ⟨rfl, D3, LG3, LW3⟩
    refine gn_norm (σ' := [some (.ref wl), some (.ref lg), some (.ref lw), some (.bl (hasRing ws gs.length)), some .non, none, none]) rfl ?_
    refine ⟨_, rfl, _, rfl, fun x dx hx hdx nx => ?_⟩
    have S1 : Same H3 (upd (upd H3 dx (.own x)) x (.ins C dx [])) := (same_new hdx).trans (same_new (by rw [upd_ne nx.symm]; exact hx))
    have e1 : (upd (upd H3 dx (.own x)) x (.ins C dx [])) x = some (.ins C dx []) := upd_same
    generalize upd (upd H3 dx (.own x)) x (.ins C dx []) = H4 at S1 e1
    have LG4 := LG3.same S1
    have LW4 := LW3.same S1
    by_cases rk : Ranked ws
    · refine .inl ⟨x, dx, lg, lw, gs, ws, rfl, e1, LG4.rg, LW4.rw, D.net.net rk, fun H5 lg' lw' NA _ _ k => ⟨rfl, ?_⟩⟩
      have s5 : Same H3 H5 := fun b o hb => k b o (S1 _ _ hb) (fun z => by rw [z, hx] at hb; cases hb)
      refine gn_norm (σ' := [some (.ref wl), some (.ref lg), some (.ref lw), some (.bl (hasRing ws gs.length)), some .non, some (.ref x), none]) rfl ?_
      rw [ranked_none rk]
      refine ⟨_, rfl, rfl, true, ?_, iteT ?_⟩
      · rw [decide_eq_true rfl]
      refine ⟨_, rfl, false, rfl, true, rfl, iteT ?_⟩
      obtain ⟨dx', ob⟩ := NA.ob
      refine ⟨_, rfl, x, C, dx', _, _, rfl, ob, T.cl, T.nW, nf_wires _ _, _, rfl, _, _, NA.w.rw.dp, (LW3.same s5).rw.dp, (sh_wires _).ok (by decide), (sh_wires _).ok (by decide), ?_⟩
      rw [wiresD_eq, decide_eq_true rfl]
      exact q H5 (D3.trans ⟨But.same s5, D3.well.same s5⟩)
    · refine .inr ⟨x, lg, lw, gs, ws, rfl, LG4.rg, LW4.rw, D.net, rk, fun r l dy H' ring s hl el hdy => ?_⟩
      have hws : ∀ x ∈ ws, x.1 < gs.length ∧ x.2.1 < gs.length := fun x hx => ⟨(D.w x hx).1, (D.w x hx).2.1⟩
      have hrl := ring.len hws
      have l9 := D.l9
      rw [ring.has hws]
      have sn : Same H' (upd H' dy (.xd [(("ring" : Str), .ref l)])) := same_new hdy
      have ex : (upd H' dy (.xd [(("ring" : Str), .ref l)])) dy = some (.xd [(("ring" : Str), .ref l)]) := upd_same
      have el2 := sn _ _ el
      have S2 := (S1.trans s).trans sn
      generalize upd H' dy (.xd [(("ring" : Str), .ref l)]) = H5 at S2 ex el2
      have xd : ∀ {Hz : Hp}, Same H5 Hz → XdAt (some dy) Hz := fun sz => .inr ⟨_, _, rfl, sz _ _ ex⟩
      refine ⟨true, R.TR.te, fun _ a ha => ⟨rfl, fun _ => ?_⟩, fun z => by cases z⟩
      refine ⟨_, rfl, rfl, rfl, dy, _, .ref l, rfl, ex, rfl, ?_⟩
      refine gn_norm (σ' := [some (.ref wl), some (.ref lg), some (.ref lw), some (.bl true), some (.ref l), none, some (.ref a)]) rfl ?_
      refine ⟨_, rfl, (by show 2 ≤ sizeLine; decide), fun t2 ht2 => ?_⟩
      have s4 := same_new (o := .tup [.ref CG, .ref CW]) ht2
      refine ⟨t2, _, _, false, rfl, xd s4, SqT.of upd_same, vals_refs [CG, CW], R.aR, false, rfl, iteF ?_⟩
      refine ⟨_, rfl, .ty "ValueError", .type "ValueError", true, rfl, xd s4, (fun u hu => hu), R.vR, true, rfl, iteF ?_⟩
      generalize upd H5 t2 (.tup [.ref CG, .ref CW]) = H6 at s4
      have s36 := S2.trans s4
      refine ⟨_, rfl, rfl, false, ?_, iteF ?_⟩
      · rw [decide_eq_false (by intro z; cases z)]
      refine ⟨_, rfl, true, rfl, iteT ⟨_, rfl, _, rfl, lw, l, ws, r, rfl, LW3.same s36, s4 _ _ el2, ring, by omega, fun H7 s7 => ?_⟩⟩
      exact q H7 (D3.trans ⟨But.same (s36.trans s7), D3.well.same (s36.trans s7)⟩)
abbrev nLaw : List Str := ["_law_script", "_law_cell"]
theorem scLaw : FnScope nLaw ["_law_script"] (defScope sLaw) := ⟨rfl, rfl, rfl, by decide +kernel, rfl, by decide +kernel, by decide +kernel⟩

theorem ok_law {f fC fW fR : Addr} {fd fdC fdW fdR : FuncData} (F : Fun K "law" "law" sLaw f fd) (DC : DCellAt P w K mg base fC fdC) (DW : DWell P w K mg base fW fdW) (DR : DRight P w K mg base fR fdR) : FnOk P w K mg base CX0 10 f fd ["_law_script"] (spLaw K) := by
  refine F.ok scLaw (fun vs H Q E h => ?_) (fun cdv A outer s H vs Q E hr h => ?_)
  · obtain ⟨a, ns, rfl, _⟩ := h
    rfl
  · obtain ⟨a, ns, rfl, hS, hlen, q⟩ := h
    have nd := scLaw.nd
    refine ⟨_, pss_cons (ps_for PassesOwn.never rfl (pi_list (pe_op op_cat (pe_lst (pa_cons (pe_call DC.ok (hr.mono (by decide)) (by rfl) DC.mg DC.kp DC.bd .nil pass0 (pa_cons (pv 0) (pa_cons pe_int pa_nil))) pa_nil)) (pe_slice sl_list (pv 0) (po_some pe_int) (po_some pe_int)))) (pg_name (i := 1) nd rfl (.inl rfl)) (pss_one (ps_if (pt_not (pt_val (pe_call DR.ok (hr.mono (by decide)) (by rfl) DR.mg DR.kp DR.bd .nil pass0 (pa_cons (pe_call DW.ok (hr.mono (by decide)) (by rfl) DW.mg DW.kp DW.bd .nil pass0 (pa_cons (pv 1) pa_nil)) pa_nil)))) (pss_one (ps_ret pe_bl)) pss_nil))) <|
        pss_one (ps_ret pe_bl), ?_⟩
    refine ⟨_, rfl, a, ns, 0, rfl, Int.le_refl 0, hS, fun z => ?_⟩
    refine ⟨(by show 1 ≤ sizeLine; decide), fun l1 hl1 => ?_⟩
    have s1 : Same H (upd H l1 (.lst [.int z])) := same_new hl1
    refine ⟨_, rfl, _, rfl, _, rfl, a, _, rfl, s1.seq hS, fun l2 hl2 => ?_⟩
    have hcl : (cutV (ns.map V.int) (some 1) (some 10)).length ≤ 63 := by
      have := cutV_length (ns.map V.int) (some 1) (some 10)
      rw [List.length_map] at this
      omega
    refine ⟨l1, l2, _, _, rfl, rfl, same_new hl2 _ _ upd_same, upd_same, ?_, fun l3 hl3 => ?_⟩
    · show 1 + _ ≤ sizeLine
      exact Nat.le_of_lt (small1000 (by omega))
    refine ⟨l3, rfl, ⟨_, SqL.of upd_same⟩, for_list (K := K) (a := l3) (xs := [.int z] ++ cutV (ns.map V.int) (some 1) (some 10)) (fun i σ H' => ∃ s1 : Option V, σ = [some (.ref a), s1] ∧ H' l3 = some (.lst ([.int z] ++ cutV (ns.map V.int) (some 1) (some 10))))
      ⟨_, rfl, upd_same⟩ (fun i σ H' _ ⟨_, _, e⟩ => SqL.of e) ?_ ?_⟩
    · rintro i x σ H' hx ⟨s1', rfl, e3⟩
      obtain ⟨c, rfl⟩ : ∃ c, x = V.int c := by
        rcases List.mem_append.mp (List.mem_of_getElem? hx) with hm | hm
        · simp at hm
          exact ⟨z, hm⟩
        · obtain ⟨c, _, rfl⟩ := List.mem_map.mp (mem_cut hm)
          exact ⟨c, rfl⟩
      refine ⟨_, rfl, c, rfl, fun wl H1 hwl sm W => ?_⟩
      refine ⟨wl, rfl, W, fun H2 D => ⟨true, rfl, iteF ⟨_, rfl, ?_⟩⟩⟩
      exact D.but _ _ (ne_of_none e3 hwl) (sm _ _ e3)
    · rintro σ H' ⟨s1', rfl, e3⟩
      exact q H'
end
end Lag

set_option maxRecDepth 100000
set_option maxHeartbeats 8000000
namespace Lag
open PySem PySem.Spec PyProof.Rows L2
theorem exm_of {K : PySem.W.Frag} {S C : Addr} (h1 : PySem.W.subIn K (.ref C) (.type "BaseException") = some true) (h2 : PySem.W.isClsIn K C = true) (h3 : PySem.W.typeIn K (.ref C) = some (.type "type")) (h4 : PySem.W.subIn K (.ref S) (.ref C) = some true) :
    PySem.W.exmOne K (.ref S) (.ref C) = some true := by
  have e1 : (PySem.W.subIn K (.ref C) (.type "BaseException") == some true) = true := by rw [h1] <;> rfl
  have e2 : ((PySem.W.clsIn K C).isSome && PySem.W.typeIn K (.ref C) == some (.type "type")) = true := by
    have h2' : (PySem.W.clsIn K C).isSome = true := h2
    rw [h2', h3] <;> rfl
  show (if (PySem.W.subIn K (.ref C) (.type "BaseException") == some true) = true then (if ((PySem.W.clsIn K C).isSome && PySem.W.typeIn K (.ref C) == some (.type "type")) = true then PySem.W.subIn K (.ref S) (.ref C) else none) else none) = some true
  rw [if_pos e1, if_pos e2]
  exact h4
theorem kit_type {K : PySem.W.Frag} {S : Addr} {T : String} {b : Bool} (h1 : PySem.W.kitMeta T = true) (h2 : PySem.W.subIn K (.ref S) (.type T) = some b) : PySem.W.kitOne K (.ref S) (.type T) = some b := by
  have e0 : ((Value.ref S) == (Value.type T)) = false := rfl
  show (if ((Value.ref S) == (Value.type T)) = true then some true else (if PySem.W.kitMeta T = true then PySem.W.subIn K (.ref S) (.type T) else none)) = some b
  rw [e0, if_neg (by decide), if_pos h1]
  exact h2
theorem kit_not {K : PySem.W.Frag} {S C : Addr} (h2 : PySem.W.isClsIn K C = true) (h3 : PySem.W.typeIn K (.ref C) = some (.type "type")) (h4 : PySem.W.subIn K (.ref S) (.ref S) = some true) (h5 : PySem.W.subIn K (.ref S) (.ref C) = some false) :
    PySem.W.kitOne K (.ref S) (.ref C) = some false := by
  have ne : ¬ (((Value.ref S) == (Value.ref C)) = true) := fun z => by
    have z' : S = C := by
      have z2 := beq_iff_eq.mp z
      cases z2
      rfl
    rw [z'] at h4 h5
    rw [h4] at h5
    cases h5
  have e2 : ((PySem.W.clsIn K C).isSome && PySem.W.typeIn K (.ref C) == some (.type "type")) = true := by
    have h2' : (PySem.W.clsIn K C).isSome = true := h2
    rw [h2', h3] <;> rfl
  show (if ((Value.ref S) == (Value.ref C)) = true then some true else (if ((PySem.W.clsIn K C).isSome && PySem.W.typeIn K (.ref C) == some (.type "type")) = true then PySem.W.subIn K (.ref S) (.ref C) else none)) = some false
  rw [if_neg ne, if_pos e2]
  exact h5
theorem exm_any {K : PySem.W.Frag} {S C : Addr} {b : Bool} (h1 : PySem.W.subIn K (.ref C) (.type "BaseException") = some true) (h2 : PySem.W.isClsIn K C = true) (h3 : PySem.W.typeIn K (.ref C) = some (.type "type")) (h4 : PySem.W.subIn K (.ref S) (.ref C) = some b) :
    PySem.W.exmOne K (.ref S) (.ref C) = some b := by
  have e1 : (PySem.W.subIn K (.ref C) (.type "BaseException") == some true) = true := by rw [h1] <;> rfl
  have e2 : ((PySem.W.clsIn K C).isSome && PySem.W.typeIn K (.ref C) == some (.type "type")) = true := by
    have h2' : (PySem.W.clsIn K C).isSome = true := h2
    rw [h2', h3] <;> rfl
  show (if (PySem.W.subIn K (.ref C) (.type "BaseException") == some true) = true then (if ((PySem.W.clsIn K C).isSome && PySem.W.typeIn K (.ref C) == some (.type "type")) = true then PySem.W.subIn K (.ref S) (.ref C) else none) else none) = some b
  rw [if_pos e1, if_pos e2]
  exact h4
theorem kitAny_cons {K : PySem.W.Frag} {t c : Value} {r : List Value} {b : Bool} (h : PySem.W.kitOne K t c = some false) (h2 : PySem.W.kitAny K t r = some b) : PySem.W.kitAny K t (c :: r) = some b := by
  unfold PySem.W.kitAny
  rw [h]
  exact h2
theorem all_mk {l : PySem.W.OpenLaw} {w : World} {K : PySem.W.Frag} {h : Heap} {mg : Str → Option Value} {fa C : Addr} (X : K.In h) (G : h.Ns mainGlobals mg) (hfa : mg "law" = some (.ref fa))
    {C0 CG CW CR fN fM : Addr} {nmNW qNW : Str} {NTNW : Addr} {bsNW : List Value} {snNW : List Str} {subNW : List Value} {abNW : Bool} {colNW : Option Bool} {ddNW : Option Addr} {m0NW m1NW m2NW m3NW m5NW : Option Value} {odNW anNW : Option Addr} {slNW : Array (Option Value)} {ocNW kVNW dcNW pmNW cdvNW ctNW : Value} {nmNR qNR : Str} {NTNR : Addr} {bsNR : List Value} {snNR : List Str} {subNR : List Value} {abNR : Bool} {colNR : Option Bool} {ddNR : Option Addr} {m0NR m1NR m2NR m3NR m5NR : Option Value} {odNR anNR : Option Addr} {slNR : Array (Option Value)} {ocNR kVNR dcNR pmNR cdvNR ctNR : Value}
    {fd0 : Addr} {odd0 and0 : Option Addr} {sld0 : Array (Option Value)} {ocd0 kVd0 dcd0 pmd0 cdd0 ctd0 : Value}
    {fd1 : Addr} {odd1 and1 : Option Addr} {sld1 : Array (Option Value)} {ocd1 kVd1 dcd1 pmd1 cdd1 ctd1 : Value}
    {fd2 : Addr} {odd2 and2 : Option Addr} {sld2 : Array (Option Value)} {ocd2 kVd2 dcd2 pmd2 cdd2 ctd2 : Value}
    {fd3 : Addr} {odd3 and3 : Option Addr} {sld3 : Array (Option Value)} {ocd3 kVd3 dcd3 pmd3 cdd3 ctd3 : Value}
    {fd4 : Addr} {odd4 and4 : Option Addr} {sld4 : Array (Option Value)} {ocd4 kVd4 dcd4 pmd4 cdd4 ctd4 : Value}
    {fd5 : Addr} {odd5 and5 : Option Addr} {sld5 : Array (Option Value)} {ocd5 kVd5 dcd5 pmd5 cdd5 ctd5 : Value}
    {fd6 : Addr} {odd6 and6 : Option Addr} {sld6 : Array (Option Value)} {ocd6 kVd6 dcd6 pmd6 cdd6 ctd6 : Value}
    {fd7 : Addr} {odd7 and7 : Option Addr} {sld7 : Array (Option Value)} {ocd7 kVd7 dcd7 pmd7 cdd7 ctd7 : Value}
    {fd8 : Addr} {odd8 and8 : Option Addr} {sld8 : Array (Option Value)} {ocd8 kVd8 dcd8 pmd8 cdd8 ctd8 : Value}
    {fd9 : Addr} {odd9 and9 : Option Addr} {sld9 : Array (Option Value)} {ocd9 kVd9 dcd9 pmd9 cdd9 ctd9 : Value}
    {fd10 : Addr} {odd10 and10 : Option Addr} {sld10 : Array (Option Value)} {ocd10 kVd10 dcd10 pmd10 cdd10 ctd10 : Value}
    {fd11 : Addr} {odd11 and11 : Option Addr} {sld11 : Array (Option Value)} {ocd11 kVd11 dcd11 pmd11 cdd11 ctd11 : Value}
    {fd12 : Addr} {odd12 and12 : Option Addr} {sld12 : Array (Option Value)} {ocd12 kVd12 dcd12 pmd12 cdd12 ctd12 : Value}
    {fd13 : Addr} {odd13 and13 : Option Addr} {sld13 : Array (Option Value)} {ocd13 kVd13 dcd13 pmd13 cdd13 ctd13 : Value}
    {fd14 : Addr} {odd14 and14 : Option Addr} {sld14 : Array (Option Value)} {ocd14 kVd14 dcd14 pmd14 cdd14 ctd14 : Value}
    {fd15 : Addr} {odd15 and15 : Option Addr} {sld15 : Array (Option Value)} {ocd15 kVd15 dcd15 pmd15 cdd15 ctd15 : Value}
    {fd16 : Addr} {odd16 and16 : Option Addr} {sld16 : Array (Option Value)} {ocd16 kVd16 dcd16 pmd16 cdd16 ctd16 : Value}
    {fd17 : Addr} {odd17 and17 : Option Addr} {sld17 : Array (Option Value)} {ocd17 kVd17 dcd17 pmd17 cdd17 ctd17 : Value}
    {fd18 : Addr} {odd18 and18 : Option Addr} {sld18 : Array (Option Value)} {ocd18 kVd18 dcd18 pmd18 cdd18 ctd18 : Value}
    {fd19 : Addr} {odd19 and19 : Option Addr} {sld19 : Array (Option Value)} {ocd19 kVd19 dcd19 pmd19 cdd19 ctd19 : Value}
    {fd20 : Addr} {odd20 and20 : Option Addr} {sld20 : Array (Option Value)} {ocd20 kVd20 dcd20 pmd20 cdd20 ctd20 : Value}
    {fd21 : Addr} {odd21 and21 : Option Addr} {sld21 : Array (Option Value)} {ocd21 kVd21 dcd21 pmd21 cdd21 ctd21 : Value}
    {fd22 : Addr} {odd22 and22 : Option Addr} {sld22 : Array (Option Value)} {ocd22 kVd22 dcd22 pmd22 cdd22 ctd22 : Value}
    {fm0 : Addr} {odm0 anm0 : Option Addr} {slm0 : Array (Option Value)} {ocm0 kVm0 dcm0 pmm0 cdm0 ctm0 : Value}
    {tGW tGA : Tok}
    {aK nnK : Nat} {ddK : Option Addr} {ssK : Array (Option Value)} {tK0 tK1 tK2 tK3 tK4 tK5 tK6 tK7 : Tok}
    {aW nnW : Nat} {ddW : Option Addr} {ssW : Array (Option Value)} {tW0 tW1 : Tok}
    {aF nnF : Nat} {ddF : Option Addr} {ssF : Array (Option Value)} {tF0 tF1 : Tok}
    (aC : PySem.W.nsIn K mainGlobals "Net" = some (some (.ref C)))
    (ad0 : PySem.W.nsIn K mainGlobals "is_whole" = some (some (.ref fd0)))
    (ld0 : K.lookup fd0 = some ⟨ocd0, odd0, .func (PySem.W.fnOf "is_whole" "is_whole" (defArgs sWhole) (defBody sWhole) (defScope sWhole) .none kVd0 dcd0 pmd0 and0 cdd0 ctd0), sld0⟩)
    (cd0 : PySem.W.codeIn K cdd0 "is_whole" = true)
    (kd0 : PySem.W.keepIn K (.ref fd0) = true)
    (ad1 : PySem.W.nsIn K mainGlobals "is_whole_from_to" = some (some (.ref fd1)))
    (ld1 : K.lookup fd1 = some ⟨ocd1, odd1, .func (PySem.W.fnOf "is_whole_from_to" "is_whole_from_to" (defArgs sFromTo) (defBody sFromTo) (defScope sFromTo) .none kVd1 dcd1 pmd1 and1 cdd1 ctd1), sld1⟩)
    (cd1 : PySem.W.codeIn K cdd1 "is_whole_from_to" = true)
    (kd1 : PySem.W.keepIn K (.ref fd1) = true)
    (ad2 : PySem.W.nsIn K mainGlobals "is_worth" = some (some (.ref fd2)))
    (ld2 : K.lookup fd2 = some ⟨ocd2, odd2, .func (PySem.W.fnOf "is_worth" "is_worth" (defArgs sWorth) (defBody sWorth) (defScope sWorth) .none kVd2 dcd2 pmd2 and2 cdd2 ctd2), sld2⟩)
    (cd2 : PySem.W.codeIn K cdd2 "is_worth" = true)
    (kd2 : PySem.W.keepIn K (.ref fd2) = true)
    (ad3 : PySem.W.nsIn K mainGlobals "is_gate" = some (some (.ref fd3)))
    (ld3 : K.lookup fd3 = some ⟨ocd3, odd3, .func (PySem.W.fnOf "is_gate" "is_gate" (defArgs sIsGate) (defBody sIsGate) (defScope sIsGate) .none kVd3 dcd3 pmd3 and3 cdd3 ctd3), sld3⟩)
    (cd3 : PySem.W.codeIn K cdd3 "is_gate" = true)
    (kd3 : PySem.W.keepIn K (.ref fd3) = true)
    (ad4 : PySem.W.nsIn K mainGlobals "check_gates" = some (some (.ref fd4)))
    (ld4 : K.lookup fd4 = some ⟨ocd4, odd4, .func (PySem.W.fnOf "check_gates" "check_gates" (defArgs sChkGates) (defBody sChkGates) (defScope sChkGates) .none kVd4 dcd4 pmd4 and4 cdd4 ctd4), sld4⟩)
    (cd4 : PySem.W.codeIn K cdd4 "check_gates" = true)
    (kd4 : PySem.W.keepIn K (.ref fd4) = true)
    (ad5 : PySem.W.nsIn K mainGlobals "is_wire" = some (some (.ref fd5)))
    (ld5 : K.lookup fd5 = some ⟨ocd5, odd5, .func (PySem.W.fnOf "is_wire" "is_wire" (defArgs sIsWire) (defBody sIsWire) (defScope sIsWire) .none kVd5 dcd5 pmd5 and5 cdd5 ctd5), sld5⟩)
    (cd5 : PySem.W.codeIn K cdd5 "is_wire" = true)
    (kd5 : PySem.W.keepIn K (.ref fd5) = true)
    (ad6 : PySem.W.nsIn K mainGlobals "is_taken" = some (some (.ref fd6)))
    (ld6 : K.lookup fd6 = some ⟨ocd6, odd6, .func (PySem.W.fnOf "is_taken" "is_taken" (defArgs sTaken) (defBody sTaken) (defScope sTaken) .none kVd6 dcd6 pmd6 and6 cdd6 ctd6), sld6⟩)
    (cd6 : PySem.W.codeIn K cdd6 "is_taken" = true)
    (kd6 : PySem.W.keepIn K (.ref fd6) = true)
    (ad7 : PySem.W.nsIn K mainGlobals "check_wires" = some (some (.ref fd7)))
    (ld7 : K.lookup fd7 = some ⟨ocd7, odd7, .func (PySem.W.fnOf "check_wires" "check_wires" (defArgs sChkWires) (defBody sChkWires) (defScope sChkWires) .none kVd7 dcd7 pmd7 and7 cdd7 ctd7), sld7⟩)
    (cd7 : PySem.W.codeIn K cdd7 "check_wires" = true)
    (kd7 : PySem.W.keepIn K (.ref fd7) = true)
    (ad8 : PySem.W.nsIn K mainGlobals "order_along" = some (some (.ref fd8)))
    (ld8 : K.lookup fd8 = some ⟨ocd8, odd8, .func (PySem.W.fnOf "order_along" "order_along" (defArgs sAlong) (defBody sAlong) (defScope sAlong) .none kVd8 dcd8 pmd8 and8 cdd8 ctd8), sld8⟩)
    (cd8 : PySem.W.codeIn K cdd8 "order_along" = true)
    (kd8 : PySem.W.keepIn K (.ref fd8) = true)
    (ad9 : PySem.W.nsIn K mainGlobals "bare_order" = some (some (.ref fd9)))
    (ld9 : K.lookup fd9 = some ⟨ocd9, odd9, .func (PySem.W.fnOf "bare_order" "bare_order" (defArgs sOrder) (defBody sOrder) (defScope sOrder) .none kVd9 dcd9 pmd9 and9 cdd9 ctd9), sld9⟩)
    (cd9 : PySem.W.codeIn K cdd9 "bare_order" = true)
    (kd9 : PySem.W.keepIn K (.ref fd9) = true)
    (ad10 : PySem.W.nsIn K mainGlobals "check_rings" = some (some (.ref fd10)))
    (ld10 : K.lookup fd10 = some ⟨ocd10, odd10, .func (PySem.W.fnOf "check_rings" "check_rings" (defArgs sChkRings) (defBody sChkRings) (defScope sChkRings) .none kVd10 dcd10 pmd10 and10 cdd10 ctd10), sld10⟩)
    (cd10 : PySem.W.codeIn K cdd10 "check_rings" = true)
    (kd10 : PySem.W.keepIn K (.ref fd10) = true)
    (ad11 : PySem.W.nsIn K mainGlobals "ring_from" = some (some (.ref fd11)))
    (ld11 : K.lookup fd11 = some ⟨ocd11, odd11, .func (PySem.W.fnOf "ring_from" "ring_from" (defArgs sRingFrom) (defBody sRingFrom) (defScope sRingFrom) .none kVd11 dcd11 pmd11 and11 cdd11 ctd11), sld11⟩)
    (cd11 : PySem.W.codeIn K cdd11 "ring_from" = true)
    (kd11 : PySem.W.keepIn K (.ref fd11) = true)
    (ad12 : PySem.W.nsIn K mainGlobals "bare_ring" = some (some (.ref fd12)))
    (ld12 : K.lookup fd12 = some ⟨ocd12, odd12, .func (PySem.W.fnOf "bare_ring" "bare_ring" (defArgs sBareRing) (defBody sBareRing) (defScope sBareRing) .none kVd12 dcd12 pmd12 and12 cdd12 ctd12), sld12⟩)
    (cd12 : PySem.W.codeIn K cdd12 "bare_ring" = true)
    (kd12 : PySem.W.keepIn K (.ref fd12) = true)
    (ad13 : PySem.W.nsIn K mainGlobals "_law_cell_at" = some (some (.ref fd13)))
    (ld13 : K.lookup fd13 = some ⟨ocd13, odd13, .func (PySem.W.fnOf "_law_cell_at" "_law_cell_at" (defArgs sCellAt) (defBody sCellAt) (defScope sCellAt) .none kVd13 dcd13 pmd13 and13 cdd13 ctd13), sld13⟩)
    (cd13 : PySem.W.codeIn K cdd13 "_law_cell_at" = true)
    (kd13 : PySem.W.keepIn K (.ref fd13) = true)
    (ad14 : PySem.W.nsIn K mainGlobals "_law_well" = some (some (.ref fd14)))
    (ld14 : K.lookup fd14 = some ⟨ocd14, odd14, .func (PySem.W.fnOf "_law_well" "_law_well" (defArgs sWell) (defBody sWell) (defScope sWell) .none kVd14 dcd14 pmd14 and14 cdd14 ctd14), sld14⟩)
    (cd14 : PySem.W.codeIn K cdd14 "_law_well" = true)
    (kd14 : PySem.W.keepIn K (.ref fd14) = true)
    (ad15 : PySem.W.nsIn K mainGlobals "_law_draw" = some (some (.ref fd15)))
    (ld15 : K.lookup fd15 = some ⟨ocd15, odd15, .func (PySem.W.fnOf "_law_draw" "_law_draw" (defArgs sDraw) (defBody sDraw) (defScope sDraw) .none kVd15 dcd15 pmd15 and15 cdd15 ctd15), sld15⟩)
    (cd15 : PySem.W.codeIn K cdd15 "_law_draw" = true)
    (kd15 : PySem.W.keepIn K (.ref fd15) = true)
    (ad16 : PySem.W.nsIn K mainGlobals "_law_one" = some (some (.ref fd16)))
    (ld16 : K.lookup fd16 = some ⟨ocd16, odd16, .func (PySem.W.fnOf "_law_one" "_law_one" (defArgs sOne) (defBody sOne) (defScope sOne) .none kVd16 dcd16 pmd16 and16 cdd16 ctd16), sld16⟩)
    (cd16 : PySem.W.codeIn K cdd16 "_law_one" = true)
    (kd16 : PySem.W.keepIn K (.ref fd16) = true)
    (ad17 : PySem.W.nsIn K mainGlobals "_law_drawn" = some (some (.ref fd17)))
    (ld17 : K.lookup fd17 = some ⟨ocd17, odd17, .func (PySem.W.fnOf "_law_drawn" "_law_drawn" (defArgs sDrawn) (defBody sDrawn) (defScope sDrawn) .none kVd17 dcd17 pmd17 and17 cdd17 ctd17), sld17⟩)
    (cd17 : PySem.W.codeIn K cdd17 "_law_drawn" = true)
    (kd17 : PySem.W.keepIn K (.ref fd17) = true)
    (ad18 : PySem.W.nsIn K mainGlobals "_law_has_ring" = some (some (.ref fd18)))
    (ld18 : K.lookup fd18 = some ⟨ocd18, odd18, .func (PySem.W.fnOf "_law_has_ring" "_law_has_ring" (defArgs sHasRing) (defBody sHasRing) (defScope sHasRing) .none kVd18 dcd18 pmd18 and18 cdd18 ctd18), sld18⟩)
    (cd18 : PySem.W.codeIn K cdd18 "_law_has_ring" = true)
    (kd18 : PySem.W.keepIn K (.ref fd18) = true)
    (ad19 : PySem.W.nsIn K mainGlobals "_law_is_ring" = some (some (.ref fd19)))
    (ld19 : K.lookup fd19 = some ⟨ocd19, odd19, .func (PySem.W.fnOf "_law_is_ring" "_law_is_ring" (defArgs sLIsRing) (defBody sLIsRing) (defScope sLIsRing) .none kVd19 dcd19 pmd19 and19 cdd19 ctd19), sld19⟩)
    (cd19 : PySem.W.codeIn K cdd19 "_law_is_ring" = true)
    (kd19 : PySem.W.keepIn K (.ref fd19) = true)
    (ad20 : PySem.W.nsIn K mainGlobals "_law_both_right" = some (some (.ref fd20)))
    (ld20 : K.lookup fd20 = some ⟨ocd20, odd20, .func (PySem.W.fnOf "_law_both_right" "_law_both_right" (defArgs sBoth) (defBody sBoth) (defScope sBoth) .none kVd20 dcd20 pmd20 and20 cdd20 ctd20), sld20⟩)
    (cd20 : PySem.W.codeIn K cdd20 "_law_both_right" = true)
    (kd20 : PySem.W.keepIn K (.ref fd20) = true)
    (ad21 : PySem.W.nsIn K mainGlobals "_law_right" = some (some (.ref fd21)))
    (ld21 : K.lookup fd21 = some ⟨ocd21, odd21, .func (PySem.W.fnOf "_law_right" "_law_right" (defArgs sRight) (defBody sRight) (defScope sRight) .none kVd21 dcd21 pmd21 and21 cdd21 ctd21), sld21⟩)
    (cd21 : PySem.W.codeIn K cdd21 "_law_right" = true)
    (kd21 : PySem.W.keepIn K (.ref fd21) = true)
    (ad22 : PySem.W.nsIn K mainGlobals "law" = some (some (.ref fd22)))
    (ld22 : K.lookup fd22 = some ⟨ocd22, odd22, .func (PySem.W.fnOf "law" "law" (defArgs sLaw) (defBody sLaw) (defScope sLaw) .none kVd22 dcd22 pmd22 and22 cdd22 ctd22), sld22⟩)
    (cd22 : PySem.W.codeIn K cdd22 "law" = true)
    (kd22 : PySem.W.keepIn K (.ref fd22) = true)
    (am0 : PySem.W.findIn K (.ref C) "__init__" = some (some (.ref fm0)))
    (im0 : PySem.W.isFn K (.ref fm0) = true)
    (lm0 : K.lookup fm0 = some ⟨ocm0, odm0, .func (PySem.W.fnOf "__init__" "Net.__init__" (defArgs sInit) (defBody sInit) (defScope sInit) .none kVm0 dcm0 pmm0 anm0 cdm0 ctm0), slm0⟩)
    (cm0 : PySem.W.codeIn K cdm0 "Net.__init__" = true)
    (km0 : PySem.W.keepIn K (.ref fm0) = true)
    (pgC : PySem.W.plainGet K C Str.empty = true)
    (hdC : PySem.W.hasDictIn K C = true)
    (poC : PySem.W.plainOver K C = true)
    (saC : PySem.W.findIn K (.ref C) "__setattr__" = some (some (.builtin "object.__setattr__")))
    (mkC : PySem.W.makesIn K C = true)
    (kcC : PySem.W.keepIn K (.ref C) = true)
    (nG : PySem.W.findIn K (.ref C) "gates" = some none)
    (nW : PySem.W.findIn K (.ref C) "wires" = some none)
    (aL0 : PySem.W.nsIn K mainGlobals "LagError" = some (some (.ref C0)))
    (gL : PySem.W.specialIn K (.ref C0) "__getattribute__" = some (some (.builtin "type.__getattribute__")))
    (rL : PySem.W.readsIn K C0 (.type "type") = true)
    (vL : PySem.W.findCls K (.ref C0) (.type "type") "__init__" = some (.val (.builtin "ValueError.__init__")))
    (tC0 : PySem.W.typeIn K (.ref C0) = some (.type "type"))
    (aNG : PySem.W.nsIn K mainGlobals "NoGates" = some (some (.ref CG)))
    (qNG : PySem.W.excIn K CG [.type "ValueError", .type "Exception", .type "BaseException", .type "object"] "ValueError.__new__" = true)
    (kkNG : PySem.W.keepIn K (.ref CG) = true)
    (eNG : PySem.W.subIn K (.ref CG) (.type "BaseException") = some true)
    (ttNG : PySem.W.typeIn K (.ref CG) = some (.type "type"))
    (ciNG : PySem.W.isClsIn K CG = true)
    (sNG : PySem.W.subIn K (.ref CG) (.ref CG) = some true)
    (aNW : PySem.W.nsIn K mainGlobals "NoWires" = some (some (.ref CW)))
    (xNW : K.lookup CW = some (excClassObj nmNW qNW CW NTNW bsNW [.ref C0, .type "ValueError", .type "Exception", .type "BaseException", .type "object"] true snNW subNW abNW colNW ddNW m0NW m1NW m2NW m3NW m5NW "ValueError.__new__"))
    (saNW : PySem.W.findIn K (.ref CW) "__setattr__" = some (some (.builtin "object.__setattr__")))
    (noNW : PySem.W.findIn K (.ref CW) "place" = some none)
    (iNW : PySem.W.findIn K (.ref CW) "__init__" = some (some (.ref fN)))
    (ftNW : PySem.W.typeIn K (.ref fN) = some (.type "function"))
    (lNW : K.lookup fN = some ⟨ocNW, odNW, .func (PySem.W.fnOf "__init__" "NoWires.__init__" (defArgs sNWinit) (defBody sNWinit) (defScope sNWinit) .none kVNW dcNW pmNW anNW cdvNW ctNW), slNW⟩)
    (cdNW : PySem.W.codeIn K cdvNW "NoWires.__init__" = true)
    (kfNW : PySem.W.keepIn K (.ref fN) = true)
    (kkNW : PySem.W.keepIn K (.ref CW) = true)
    (eNW : PySem.W.subIn K (.ref CW) (.type "BaseException") = some true)
    (ttNW : PySem.W.typeIn K (.ref CW) = some (.type "type"))
    (ciNW : PySem.W.isClsIn K CW = true)
    (sNW : PySem.W.subIn K (.ref CW) (.ref CW) = some true)
    (aNR : PySem.W.nsIn K mainGlobals "NoRing" = some (some (.ref CR)))
    (xNR : K.lookup CR = some (excClassObj nmNR qNR CR NTNR bsNR [.ref C0, .type "ValueError", .type "Exception", .type "BaseException", .type "object"] true snNR subNR abNR colNR ddNR m0NR m1NR m2NR m3NR m5NR "ValueError.__new__"))
    (saNR : PySem.W.findIn K (.ref CR) "__setattr__" = some (some (.builtin "object.__setattr__")))
    (noNR : PySem.W.findIn K (.ref CR) "ring" = some none)
    (iNR : PySem.W.findIn K (.ref CR) "__init__" = some (some (.ref fM)))
    (ftNR : PySem.W.typeIn K (.ref fM) = some (.type "function"))
    (lNR : K.lookup fM = some ⟨ocNR, odNR, .func (PySem.W.fnOf "__init__" "NoRing.__init__" (defArgs sNRinit) (defBody sNRinit) (defScope sNRinit) .none kVNR dcNR pmNR anNR cdvNR ctNR), slNR⟩)
    (cdNR : PySem.W.codeIn K cdvNR "NoRing.__init__" = true)
    (kfNR : PySem.W.keepIn K (.ref fM) = true)
    (kkNR : PySem.W.keepIn K (.ref CR) = true)
    (eNR : PySem.W.subIn K (.ref CR) (.type "BaseException") = some true)
    (ttNR : PySem.W.typeIn K (.ref CR) = some (.type "type"))
    (ciNR : PySem.W.isClsIn K CR = true)
    (sNR : PySem.W.subIn K (.ref CR) (.ref CR) = some true)
    (xgNG : PySem.W.findIn K (.ref CG) "__getattribute__" = some (some (.builtin "BaseException.__getattribute__")))
    (xkNG : PySem.W.findIn K (.ref CG) "__getattr__" = some none)
    (xdNG : PySem.W.hasDictIn K CG = true)
    (xaNG : PySem.W.findIn K (.ref CG) "__class__" = some (some (.builtin "object.__class__")))
    (xmNG : PySem.W.mroIn K CG (.type "object") = some true)
    (xgNW : PySem.W.findIn K (.ref CW) "__getattribute__" = some (some (.builtin "BaseException.__getattribute__")))
    (xkNW : PySem.W.findIn K (.ref CW) "__getattr__" = some none)
    (xdNW : PySem.W.hasDictIn K CW = true)
    (xaNW : PySem.W.findIn K (.ref CW) "__class__" = some (some (.builtin "object.__class__")))
    (xmNW : PySem.W.mroIn K CW (.type "object") = some true)
    (xgNR : PySem.W.findIn K (.ref CR) "__getattribute__" = some (some (.builtin "BaseException.__getattribute__")))
    (xkNR : PySem.W.findIn K (.ref CR) "__getattr__" = some none)
    (xdNR : PySem.W.hasDictIn K CR = true)
    (xaNR : PySem.W.findIn K (.ref CR) "__class__" = some (some (.builtin "object.__class__")))
    (xmNR : PySem.W.mroIn K CR (.type "object") = some true)
    (uNRNG : PySem.W.subIn K (.ref CR) (.ref CG) = some false)
    (uNRNW : PySem.W.subIn K (.ref CR) (.ref CW) = some false)
    (vNR : PySem.W.subIn K (.ref CR) (.type "ValueError") = some true)
    (zVE : PySem.W.nsIn K mainGlobals "ValueError" = some none)
    (xn : PySem.W.specialIn K (.builtin "object.__class__") "__get__" = some (some (.builtin "getset_descriptor.__get__")))
    (xt : PySem.W.takesIn K (.builtin "object.__class__") = some true)
    (zisi : PySem.W.nsIn K mainGlobals "isinstance" = some none)
    (zint : PySem.W.nsIn K mainGlobals "int" = some none)
    (zbool : PySem.W.nsIn K mainGlobals "bool" = some none)
    (zlen : PySem.W.nsIn K mainGlobals "len" = some none)
    (ztuple : PySem.W.nsIn K mainGlobals "tuple" = some none)
    (zstr : PySem.W.nsIn K mainGlobals "str" = some none)
    (zlist : PySem.W.nsIn K mainGlobals "list" = some none)
    (zall : PySem.W.nsIn K mainGlobals "all" = some none)
    (zenum : PySem.W.nsIn K mainGlobals "enumerate" = some none)
    (zzip : PySem.W.nsIn K mainGlobals "zip" = some none)
    (zrange : PySem.W.nsIn K mainGlobals "range" = some none)
    (zmax : PySem.W.nsIn K mainGlobals "max" = some none)
    (zmin : PySem.W.nsIn K mainGlobals "min" = some none)
    (zset : PySem.W.nsIn K mainGlobals "set" = some none)
    (gGW : PySem.W.nsIn K mainGlobals "GREATEST_WORTH" = some (some (.int 96 tGW)))
    (gGA : PySem.W.nsIn K mainGlobals "GREATEST_WAIT" = some (some (.int 100 tGA)))
    (gK : PySem.W.nsIn K mainGlobals "KINDS" = some (some (.ref aK)))
    (oK : K.lookup aK = some ⟨.type "tuple", ddK, .seq #[.str "in" tK0, .str "out" tK1, .str "sum" tK2, .str "times" tK3, .str "most" tK4, .str "least" tK5, .str "first" tK6, .str "one" tK7] nnK, ssK⟩)
    (gW : PySem.W.nsIn K mainGlobals "OUTER_KINDS" = some (some (.ref aW)))
    (oW : K.lookup aW = some ⟨.type "tuple", ddW, .seq #[.str "in" tW0, .str "out" tW1] nnW, ssW⟩)
    (gF : PySem.W.nsIn K mainGlobals "KINDS_WITH_A_WIRE" = some (some (.ref aF)))
    (oF : K.lookup aF = some ⟨.type "tuple", ddF, .seq #[.str "out" tF0, .str "first" tF1] nnF, ssF⟩) :
    ∃ fd : FuncData, (∀ (s : Shared) (v : Value), BindsTo s fd ⟨[v], []⟩ [("_law_script", v)]) ∧ ∀ base : Heap, K.In base → base.Ns mainGlobals mg → FnOk l.prog w K mg base CX0 10 fa fd ["_law_script"] (spLaw K) := by
  have e := hfa.symm.trans (PySem.W.mg_of X G ad22)
  cases e
  have Fd0 := fun_mk (st := sWhole) ld0 cd0 kd0
  have Fd1 := fun_mk (st := sFromTo) ld1 cd1 kd1
  have Fd2 := fun_mk (st := sWorth) ld2 cd2 kd2
  have Fd3 := fun_mk (st := sIsGate) ld3 cd3 kd3
  have Fd4 := fun_mk (st := sChkGates) ld4 cd4 kd4
  have Fd5 := fun_mk (st := sIsWire) ld5 cd5 kd5
  have Fd6 := fun_mk (st := sTaken) ld6 cd6 kd6
  have Fd7 := fun_mk (st := sChkWires) ld7 cd7 kd7
  have Fd8 := fun_mk (st := sAlong) ld8 cd8 kd8
  have Fd9 := fun_mk (st := sOrder) ld9 cd9 kd9
  have Fd10 := fun_mk (st := sChkRings) ld10 cd10 kd10
  have Fd11 := fun_mk (st := sRingFrom) ld11 cd11 kd11
  have Fd12 := fun_mk (st := sBareRing) ld12 cd12 kd12
  have Fd13 := fun_mk (st := sCellAt) ld13 cd13 kd13
  have Fd14 := fun_mk (st := sWell) ld14 cd14 kd14
  have Fd15 := fun_mk (st := sDraw) ld15 cd15 kd15
  have Fd16 := fun_mk (st := sOne) ld16 cd16 kd16
  have Fd17 := fun_mk (st := sDrawn) ld17 cd17 kd17
  have Fd18 := fun_mk (st := sHasRing) ld18 cd18 kd18
  have Fd19 := fun_mk (st := sLIsRing) ld19 cd19 kd19
  have Fd20 := fun_mk (st := sBoth) ld20 cd20 kd20
  have Fd21 := fun_mk (st := sRight) ld21 cd21 kd21
  have Fd22 := fun_mk (st := sLaw) ld22 cd22 kd22
  have Fm0 := fun_mk (st := sInit) lm0 cm0 km0
  have B : Bt mg := ⟨PySem.W.mg_none_of X G zisi, PySem.W.mg_none_of X G zint, PySem.W.mg_none_of X G zbool, PySem.W.mg_none_of X G zlen, PySem.W.mg_none_of X G ztuple, PySem.W.mg_none_of X G zstr, PySem.W.mg_none_of X G zlist, PySem.W.mg_none_of X G zall, PySem.W.mg_none_of X G zenum, PySem.W.mg_none_of X G zzip, PySem.W.mg_none_of X G zrange, PySem.W.mg_none_of X G zmax⟩
  have b_min := PySem.W.mg_none_of X G zmin
  have b_set := PySem.W.mg_none_of X G zset
  have Cn : Cns K mg aK aW aF := ⟨⟨_, PySem.W.mg_of X G gGW⟩, ⟨_, PySem.W.mg_of X G gGA⟩, PySem.W.mg_of X G gK, fun _ => .inr ⟨_, _, _, oK, rfl, rfl, (by show 8 ≤ sizeLine; decide), .cons ⟨_, rfl⟩ (.cons ⟨_, rfl⟩ (.cons ⟨_, rfl⟩ (.cons ⟨_, rfl⟩ (.cons ⟨_, rfl⟩ (.cons ⟨_, rfl⟩ (.cons ⟨_, rfl⟩ (.cons ⟨_, rfl⟩ (.nil))))))))⟩, PySem.W.mg_of X G gW, fun _ => .inr ⟨_, _, _, oW, rfl, rfl, (by show 2 ≤ sizeLine; decide), .cons ⟨_, rfl⟩ (.cons ⟨_, rfl⟩ (.nil))⟩, PySem.W.mg_of X G gF, fun _ => .inr ⟨_, _, _, oF, rfl, rfl, (by show 2 ≤ sizeLine; decide), .cons ⟨_, rfl⟩ (.cons ⟨_, rfl⟩ (.nil))⟩⟩
  have T : NT K mg C := ⟨⟨pgC, hdC, poC, saC⟩, nG, nW, PySem.W.mg_of X G aC⟩
  have bm0 := Fm0.binds (ps := ["self", "gates", "wires"]) fun _ _ _ _ _ _ us hl => match us, hl with | [_, _, _], _ => rfl
  refine ⟨PySem.W.fnOf "law" "law" (defArgs sLaw) (defBody sLaw) (defScope sLaw) .none kVd22 dcd22 pmd22 and22 cdd22 ctd22, fun s v => .of_eq rfl, fun base _ _ => ?_⟩
  have whole := ok_whole (P := l.prog) (w := w) (base := base) Fd0 (PySem.W.mg_of X G ad0) B
  have ft := ok_fromTo (P := l.prog) (w := w) (base := base) Fd1 (PySem.W.mg_of X G ad1) whole
  have wo := ok_worth (P := l.prog) (w := w) (base := base) Fd2 (PySem.W.mg_of X G ad2) Cn ft
  have ig := ok_isGate (P := l.prog) (w := w) (base := base) Fd3 (PySem.W.mg_of X G ad3) B Cn ft
  have cg := ok_chkGates (P := l.prog) (w := w) (base := base) Fd4 (PySem.W.mg_of X G ad4) B ig
  have iw := ok_isWire (P := l.prog) (w := w) (base := base) Fd5 (PySem.W.mg_of X G ad5) B ft wo
  have tk := ok_taken (P := l.prog) (w := w) (base := base) Fd6 (PySem.W.mg_of X G ad6)
  have cw := ok_chkWires (P := l.prog) (w := w) (base := base) Fd7 (PySem.W.mg_of X G ad7) B Cn iw tk
  have al := ok_along (P := l.prog) (w := w) (base := base) Fd8 (PySem.W.mg_of X G ad8) B
  have od := ok_order (P := l.prog) (w := w) (base := base) Fd9 (PySem.W.mg_of X G ad9) B al
  have cr := ok_chkRings (P := l.prog) (w := w) (base := base) Fd10 (PySem.W.mg_of X G ad10) B od
  have init := ok_init (P := l.prog) (w := w) (base := base) Fm0 T B cg cw cr
  have MK : Mk K C fm0 := ⟨mkC, am0, im0, kcC⟩
  have L : LEx K mg C0 := ⟨PySem.W.mg_of X G aL0, gL, tC0, rL, vL⟩
  have TW : TEx K mg "NoWires" "place" CW fN := ⟨PySem.W.mg_of X G aNW, ⟨⟨_, _, _, _, _, _, _, _, _, _, _, _, _, _, _, xNW, by rfl⟩, saNW, eNW, ttNW, kkNW⟩, iNW, ftNW, noNW, ⟨xgNW, xkNW, eNW, xdNW⟩, exm_self eNW ciNW ttNW sNW⟩
  have TR : TEx K mg "NoRing" "ring" CR fM := ⟨PySem.W.mg_of X G aNR, ⟨⟨_, _, _, _, _, _, _, _, _, _, _, _, _, _, _, xNR, by rfl⟩, saNR, eNR, ttNR, kkNR⟩, iNR, ftNR, noNR, ⟨xgNR, xkNR, eNR, xdNR⟩, exm_self eNR ciNR ttNR sNR⟩
  have NG : PEx K mg "NoGates" CG := ⟨PySem.W.mg_of X G aNG, qNG, kkNG, eNG, ttNG, exm_self eNG ciNG ttNG sNG⟩
  have FN := fun_mk (st := sNWinit) lNW cdNW kfNW
  have bN := FN.binds (ps := ["self", "place"]) fun _ _ _ _ _ _ us hl => match us, hl with | [_, _], _ => rfl
  have nwI := ok_nwInit (P := l.prog) (w := w) (base := base) FN L TW
  have FM := fun_mk (st := sNRinit) lNR cdNR kfNR
  have bM := FM.binds (ps := ["self", "ring"]) fun _ _ _ _ _ _ us hl => match us, hl with | [_, _], _ => rfl
  have nrI := ok_nrInit (P := l.prog) (w := w) (base := base) FM L TR
  have whX := ok_wholeD (P := l.prog) (w := w) (base := base) Fd0 B
  have ftX := ok_fromToD (P := l.prog) (w := w) (base := base) Fd1 whole whX
  have woX := ok_worthD (P := l.prog) (w := w) (base := base) Fd2 Cn ft ftX
  have igX := ok_isGateD (P := l.prog) (w := w) (base := base) Fd3 B Cn ft ftX
  have cgX := ok_chkGatesX (P := l.prog) (w := w) (base := base) Fd4 B ig igX NG
  have iwX := ok_isWireD (P := l.prog) (w := w) (base := base) Fd5 B ft ftX wo woX
  have tkX := ok_takenB (mg := mg) (P := l.prog) (w := w) (base := base) Fd6
  have cwX := ok_chkWiresX (P := l.prog) (w := w) (base := base) Fd7 B Cn iw iwX tk tkX TW nwI bN
  have iniX := ok_initX (P := l.prog) (w := w) (base := base) (C := C) Fm0 cg cgX cw cwX
  have rf := ok_ringFrom (P := l.prog) (w := w) (base := base) Fd11 (PySem.W.mg_of X G ad11) B
  have br := ok_bareRing (P := l.prog) (w := w) (base := base) Fd12 (PySem.W.mg_of X G ad12) B b_min rf
  have crX := ok_chkRingsX (P := l.prog) (w := w) (base := base) Fd10 B od br TR nrI bM
  have cwW := ok_chkWiresW (P := l.prog) (w := w) (base := base) Fd7 B Cn iw tk
  have iniR := ok_initR (P := l.prog) (w := w) (base := base) Fm0 B cg cw cwW cr crX
  have R : RingC K mg C0 CG CW CR fM := ⟨PySem.W.mg_of X G aL0, PySem.W.mg_of X G aNG, PySem.W.mg_of X G aNW, TR, PySem.W.mg_none_of X G zVE, B.isi, (kitAny_cons (kit_not ciNG ttNG sNR uNRNG) (kitAny_cons (kit_not ciNW ttNW sNR uNRNW) rfl)), kit_type (by decide +kernel) vNR, ⟨xgNR, xkNR, eNR, xdNR, xaNR, xn, xt, xmNR⟩⟩
  have ca := ok_cellAt (P := l.prog) (w := w) (base := base) Fd13 (PySem.W.mg_of X G ad13) B.len
  have we := ok_well (P := l.prog) (w := w) (base := base) Fd14 (PySem.W.mg_of X G ad14) B.int
  have dr := ok_draw (P := l.prog) (w := w) (base := base) Fd15 (PySem.W.mg_of X G ad15)
  have on := ok_one (P := l.prog) (w := w) (base := base) Fd16 (PySem.W.mg_of X G ad16) dr B.len
  have dn := ok_drawn (P := l.prog) (w := w) (base := base) Fd17 (PySem.W.mg_of X G ad17) B dr on
  have hr := ok_hasRing (P := l.prog) (w := w) (base := base) Fd18 (PySem.W.mg_of X G ad18) B
  have ir := ok_isRing (P := l.prog) (w := w) (base := base) Fd19 (PySem.W.mg_of X G ad19) B b_set
  have bo := ok_both (P := l.prog) (w := w) (base := base) Fd20 (PySem.W.mg_of X G ad20) B dr on T TW (PySem.W.mg_of X G aL0) MK iniX bm0
  have rt := ok_right (P := l.prog) (w := w) (base := base) Fd21 (PySem.W.mg_of X G ad21) B dr dn hr bo ir T R MK init iniR bm0
  exact ok_law Fd22 ca we rt
end Lag

set_option maxRecDepth 100000
open PySem PySem.W PyProof.Rows
set_option maxRecDepth 100000 in
set_option maxHeartbeats 0 in
theorem PySem.Challenge.cw_lagshift_k03_rings_without_registers_holds : PySem.Challenge.rw_lagshift_k03_rings_without_registers.Holds := by
  w_on; o_law; k_head; (case hw => w_witness2)
  k_fill
  refine L2.walk_of (l := PySem.Challenge.rw_lagshift_k03_rings_without_registers) (n := 63) (k := 10) (x := "_law_script") (CX := fun _ => L2.CX0) (sp := fun w => Lag.spLaw _) rfl (by decide) rfl ⟨rfl, by decide, by decide⟩ (fun w h Y => PySem.W.kIn_of Y) ?F (fun _ _ a ns hl _ hS => ⟨a, ns, rfl, hS, hl, fun _ => rfl⟩) (fun _ _ _ _ _ h => h)
  case F =>
    intro w mg fa h KX G hmg
    refine' Lag.all_mk KX G hmg ?aC ?ad0 ?ld0 ?cd0 ?kd0 ?ad1 ?ld1 ?cd1 ?kd1 ?ad2 ?ld2 ?cd2 ?kd2 ?ad3 ?ld3 ?cd3 ?kd3 ?ad4 ?ld4 ?cd4 ?kd4 ?ad5 ?ld5 ?cd5 ?kd5 ?ad6 ?ld6 ?cd6 ?kd6 ?ad7 ?ld7 ?cd7 ?kd7 ?ad8 ?ld8 ?cd8 ?kd8 ?ad9 ?ld9 ?cd9 ?kd9 ?ad10 ?ld10 ?cd10 ?kd10 ?ad11 ?ld11 ?cd11 ?kd11 ?ad12 ?ld12 ?cd12 ?kd12 ?ad13 ?ld13 ?cd13 ?kd13 ?ad14 ?ld14 ?cd14 ?kd14 ?ad15 ?ld15 ?cd15 ?kd15 ?ad16 ?ld16 ?cd16 ?kd16 ?ad17 ?ld17 ?cd17 ?kd17 ?ad18 ?ld18 ?cd18 ?kd18 ?ad19 ?ld19 ?cd19 ?kd19 ?ad20 ?ld20 ?cd20 ?kd20 ?ad21 ?ld21 ?cd21 ?kd21 ?ad22 ?ld22 ?cd22 ?kd22 ?am0 ?im0 ?lm0 ?cm0 ?km0 ?pgC ?hdC ?poC ?saC ?mkC ?kcC ?nG ?nW ?aL0 ?gL ?rL ?vL ?tC0 ?aNG ?qNG ?kkNG ?eNG ?ttNG ?ciNG ?sNG ?aNW ?xNW ?saNW ?noNW ?iNW ?ftNW ?lNW ?cdNW ?kfNW ?kkNW ?eNW ?ttNW ?ciNW ?sNW ?aNR ?xNR ?saNR ?noNR ?iNR ?ftNR ?lNR ?cdNR ?kfNR ?kkNR ?eNR ?ttNR ?ciNR ?sNR ?xgNG ?xkNG ?xdNG ?xaNG ?xmNG ?xgNW ?xkNW ?xdNW ?xaNW ?xmNW ?xgNR ?xkNR ?xdNR ?xaNR ?xmNR ?uNRNG ?uNRNW ?vNR ?zVE ?xn ?xt ?zisi ?zint ?zbool ?zlen ?ztuple ?zstr ?zlist ?zall ?zenum ?zzip ?zrange ?zmax ?zmin ?zset ?gGW ?gGA ?gK ?oK ?gW ?oW ?gF ?oF
    (case aC => k_is)
    (case ad0 => k_is)
    (case ld0 => k_is)
    (case cd0 => k_is)
    (case kd0 => k_is)
    (case ad1 => k_is)
    (case ld1 => k_is)
    (case cd1 => k_is)
    (case kd1 => k_is)
    (case ad2 => k_is)
    (case ld2 => k_is)
    (case cd2 => k_is)
    (case kd2 => k_is)
    (case ad3 => k_is)
    (case ld3 => k_is)
    (case cd3 => k_is)
    (case kd3 => k_is)
    (case ad4 => k_is)
    (case ld4 => k_is)
    (case cd4 => k_is)
    (case kd4 => k_is)
    (case ad5 => k_is)
    (case ld5 => k_is)
    (case cd5 => k_is)
    (case kd5 => k_is)
    (case ad6 => k_is)
    (case ld6 => k_is)
    (case cd6 => k_is)
    (case kd6 => k_is)
    (case ad7 => k_is)
    (case ld7 => k_is)
    (case cd7 => k_is)
    (case kd7 => k_is)
    (case ad8 => k_is)
    (case ld8 => k_is)
    (case cd8 => k_is)
    (case kd8 => k_is)
    (case ad9 => k_is)
    (case ld9 => k_is)
    (case cd9 => k_is)
    (case kd9 => k_is)
    (case ad10 => k_is)
    (case ld10 => k_is)
    (case cd10 => k_is)
    (case kd10 => k_is)
    (case ad11 => k_is)
    (case ld11 => k_is)
    (case cd11 => k_is)
    (case kd11 => k_is)
    (case ad12 => k_is)
    (case ld12 => k_is)
    (case cd12 => k_is)
    (case kd12 => k_is)
    (case ad13 => k_is)
    (case ld13 => k_is)
    (case cd13 => k_is)
    (case kd13 => k_is)
    (case ad14 => k_is)
    (case ld14 => k_is)
    (case cd14 => k_is)
    (case kd14 => k_is)
    (case ad15 => k_is)
    (case ld15 => k_is)
    (case cd15 => k_is)
    (case kd15 => k_is)
    (case ad16 => k_is)
    (case ld16 => k_is)
    (case cd16 => k_is)
    (case kd16 => k_is)
    (case ad17 => k_is)
    (case ld17 => k_is)
    (case cd17 => k_is)
    (case kd17 => k_is)
    (case ad18 => k_is)
    (case ld18 => k_is)
    (case cd18 => k_is)
    (case kd18 => k_is)
    (case ad19 => k_is)
    (case ld19 => k_is)
    (case cd19 => k_is)
    (case kd19 => k_is)
    (case ad20 => k_is)
    (case ld20 => k_is)
    (case cd20 => k_is)
    (case kd20 => k_is)
    (case ad21 => k_is)
    (case ld21 => k_is)
    (case cd21 => k_is)
    (case kd21 => k_is)
    (case ad22 => k_is)
    (case ld22 => k_is)
    (case cd22 => k_is)
    (case kd22 => k_is)
    (case am0 => k_is)
    (case im0 => k_is)
    (case lm0 => k_is)
    (case cm0 => k_is)
    (case km0 => k_is)
    (case pgC => k_is)
    (case hdC => k_is)
    (case poC => k_is)
    (case saC => k_is)
    (case mkC => k_is)
    (case kcC => k_is)
    (case nG => k_is)
    (case nW => k_is)
    (case aL0 => k_is)
    (case gL => k_is)
    (case rL => k_is)
    (case vL => k_is)
    (case tC0 => k_is)
    (case aNG => k_is)
    (case qNG => k_exc)
    (case kkNG => k_is)
    (case eNG => k_is)
    (case ttNG => k_is)
    (case ciNG => k_is)
    (case sNG => first | rfl | k_is)
    (case aNW => k_is)
    (case xNW => k_is)
    (case saNW => k_is)
    (case noNW => k_is)
    (case iNW => k_is)
    (case ftNW => k_is)
    (case lNW => k_is)
    (case cdNW => k_is)
    (case kfNW => k_is)
    (case kkNW => k_is)
    (case eNW => k_is)
    (case ttNW => k_is)
    (case ciNW => k_is)
    (case sNW => first | rfl | k_is)
    (case aNR => k_is)
    (case xNR => k_is)
    (case saNR => k_is)
    (case noNR => k_is)
    (case iNR => k_is)
    (case ftNR => k_is)
    (case lNR => k_is)
    (case cdNR => k_is)
    (case kfNR => k_is)
    (case kkNR => k_is)
    (case eNR => k_is)
    (case ttNR => k_is)
    (case ciNR => k_is)
    (case sNR => first | rfl | k_is)
    (case xgNG => k_is)
    (case xkNG => k_is)
    (case xdNG => k_is)
    (case xaNG => k_is)
    (case xmNG => k_is)
    (case xgNW => k_is)
    (case xkNW => k_is)
    (case xdNW => k_is)
    (case xaNW => k_is)
    (case xmNW => k_is)
    (case xgNR => k_is)
    (case xkNR => k_is)
    (case xdNR => k_is)
    (case xaNR => k_is)
    (case xmNR => k_is)
    (case uNRNG => k_is)
    (case uNRNW => k_is)
    (case vNR => k_is)
    (case zVE => k_is)
    (case xn => k_is)
    (case xt => k_is)
    (case zisi => k_is)
    (case zint => k_is)
    (case zbool => k_is)
    (case zlen => k_is)
    (case ztuple => k_is)
    (case zstr => k_is)
    (case zlist => k_is)
    (case zall => k_is)
    (case zenum => k_is)
    (case zzip => k_is)
    (case zrange => k_is)
    (case zmax => k_is)
    (case zmin => k_is)
    (case zset => k_is)
    (case gGW => k_is)
    (case gGA => k_is)
    (case gK => k_is)
    (case oK => k_is)
    (case gW => k_is)
    (case oW => k_is)
    (case gF => k_is)
    (case oF => k_is)

