import PyProof.Rows.All
import Wide.All
import OpenK.AllK
import Wide.FinOn
import HandS.ForMost
import HandS.Exc
import HandS.TryOnly
import HandS.ExcOwn
import HandS.WordsExc
import HandS.Codes
import HandS.IsInst
import HandS.Walk
import KE.GoesEnum
import KE.KExcIs
import HandS.ExcInit
import HandS.ExcField
import HandS.ExcIs
import HandS.SetFor
import HandS.TupAny
import HandS.TupMul
import PyProof.EqAt
import PyProof.NeKinds
import PySem.Challenge.RW_blindslots_k03_rules_checked
set_option Elab.async false
set_option linter.all false
set_option maxRecDepth 100000
set_option maxHeartbeats 8000000
/-! what every text of ours needs: a def as it stands, its call, the drawing store -/
namespace Vk
open PySem PySem.Spec PyProof.Rows L2
/-- a def of the module's top -/
structure Df (K : PySem.W.Frag) (mg : Str → Option Value) (x : Str) (st : Stmt) (ps : List Str) : Prop where
  ex : ∃ f fd, mg x = some (.ref f) ∧ Fun K x x st f fd ∧ Binds K fd ps []
/-- its promise -/
structure Cl (P : Program) (w : World) (K : PySem.W.Frag) (mg : Str → Option Value) (base : Heap) (CX : CXT) (k : Nat) (x : Str) (ps : List Str) (sp : Sp) : Prop where
  ex : ∃ f fd, mg x = some (.ref f) ∧ PySem.W.keepIn K (.ref f) = true ∧ Binds K fd ps [] ∧ FnOk P w K mg base CX k f fd ps sp
section
variable {P : Program} {w : World} {K : PySem.W.Frag} {mg : Str → Option Value} {base : Heap}
theorem cl0 {x : Str} {st : Stmt} {N ps : List Str} {k : Nat} {sp : Sp} (D : Df K mg x st ps) (S : FnScope N ps (defScope st)) (len : ∀ vs H Q E, sp vs H Q E → vs.length = ps.length)
    (body : ∀ (f : Addr) (cdv : Value) (A : Around) (outer : List Env) (s : Shared) (H : Hp) (vs : List V) (Q : VK) (E : XK), Room k (A.deeper (envOfC x (defScope st) s.heap.objs.size f cdv)) → sp vs H Q E →
      ∃ t, PSs (cxOf CX0 P w K mg base N x (defScope st) f cdv A outer s H E).nox (defBody st) t ∧ t { nx := fun _ H' => Q .non H', rt := Q } (start N vs) H) : Cl P w K mg base CX0 (k + 1) x ps sp := by
  obtain ⟨f, fd, hm, F, b⟩ := D.ex
  exact ⟨f, fd, hm, F.kp, b, F.ok S len (body f)⟩
theorem clX {x : Str} {st : Stmt} {N ps : List Str} {k : Nat} {sp : Sp} (D : Df K mg x st ps) (S : FnScope N ps (defScope st)) (len : ∀ vs H Q E, sp vs H Q E → vs.length = ps.length)
    (body : ∀ (f : Addr) (cdv : Value) (A : Around) (outer : List Env) (s : Shared) (H : Hp) (vs : List V) (Q : VK) (E : XK), Room k (A.deeper (envOfC x (defScope st) s.heap.objs.size f cdv)) → sp vs H Q E →
      ∃ t, PSs (cxOf (L2.CX P w) P w K mg base N x (defScope st) f cdv A outer s H E) (defBody st) t ∧ t { nx := fun _ H' => Q .non H', rt := Q } (start N vs) H) : Cl P w K mg base (L2.CX P w) (k + 1) x ps sp := by
  obtain ⟨f, fd, hm, F, b⟩ := D.ex
  exact ⟨f, fd, hm, F.kp, b, F.okX S len (body f)⟩
end
def tCal (sp : Sp) (t : TA) : TE := fun σ H Q => t σ H fun vs H1 => sp (vs ++ []) H1 Q E0
section
variable {X : Cx}
theorem pc {x : Str} {ps : List Str} {sp : Sp} {j k : Nat} {e : Expr} {es : List Expr} {t : TA} {p pos : Pos} (c : Cl X.prog X.w X.K X.mg X.base CX0 k x ps sp) (hr : Room j X.A) (hk : k ≤ j) (ha : PA X (e :: es) t) (hg : Gl X x := by rfl)
    (hdb : (x == ("__debug__" : Str)) = false := by decide) (he : starEach (e :: es) X.env = (false, eval e X.env) :: starEach es X.env := by rfl) (hpl : (backTo pos (starEach es X.env)).any (·.1) = false := by rfl) :
    PE X (.Call (.Name x p) (e :: es) [] pos) (tCal sp t) := by
  obtain ⟨f, fd, hm, kp, b, F⟩ := c.ex
  exact pe_call F (hr.mono hk) hg hm kp b .nil pass0 ha hdb he hpl
end
/-! ### heaps -/
/-- the heap without what stands at a -/
def Off (a : Addr) (H : Hp) : Hp := fun b => if b = a then none else H b
theorem off_ne {a b : Addr} {H : Hp} (h : b ≠ a) : Off a H b = H b := if_neg h
theorem off_same {a : Addr} {H : Hp} : Off a H a = none := if_pos rfl
theorem off_sub (a : Addr) (H : Hp) : Same (Off a H) H := fun b o e => by
  by_cases h : b = a
  · rw [h, off_same] at e; cases e
  · rw [off_ne h] at e; exact e
theorem off_mono {a : Addr} {H H' : Hp} (s : Same H H') : Same (Off a H) (Off a H') := fun b o e => by
  by_cases h : b = a
  · rw [h, off_same] at e; cases e
  · rw [off_ne h] at e ⊢; exact s b o e
theorem off_upd {a : Addr} {H : Hp} {o : HO} : Off a (upd H a o) = Off a H := by
  funext b
  by_cases h : b = a
  · rw [h, off_same, off_same]
  · rw [off_ne h, off_ne h, upd_ne h]
theorem same_new {H : Hp} {p : Addr} {o : HO} (h : H p = none) : Same H (upd H p o) := fun b u e => by
  rw [upd_ne (ne_of_none e h)]; exact e
theorem same_seqT {K : PySem.W.Frag} {H H' : Hp} {a : Addr} {xs : List V} (e : Same H H') (h : SqT K H a xs) : SqT K H' a xs := by
  rcases h with (h | ⟨o, h⟩) | h
  · exact .inl (.inl (e _ _ h))
  · exact .inl (.inr ⟨o, e _ _ h⟩)
  · exact .inr h
mutual
theorem dp_same {K : PySem.W.Frag} {H H' : Hp} (e : Same H H') : ∀ {v : V} {d : PyData}, Dp K H v d → Dp K H' v d
  | _, _, .non => .non
  | _, _, .bl b => .bl b
  | _, _, .int i => .int i
  | _, _, .str x => .str x
  | _, _, .lst h r => .lst (e.seq h) (dps_same e r)
  | _, _, .tup h r => .tup (same_seqT e h) (dps_same e r)
theorem dps_same {K : PySem.W.Frag} {H H' : Hp} (e : Same H H') : ∀ {vs : List V} {ds : List PyData}, DpAll K H vs ds → DpAll K H' vs ds
  | _, _, .nil => .nil
  | _, _, .cons h r => .cons (dp_same e h) (dps_same e r)
end
/-! ### the law's store: cells, next index, digits, all mixed, draws so far (at most n) -/
structure Sto (sc a : Addr) (n : Int) (H : Hp) : Prop where
  ex : ∃ (cs : List Int) (i dg mx c : Int), H a = some (.lst [.ref sc, .int i, .int dg, .int mx, .int c]) ∧ sc ≠ a ∧ H sc = some (.lst (cs.map V.int)) ∧ cs.length ≤ 63 ∧ 0 ≤ i ∧ 0 ≤ dg ∧ 0 ≤ c ∧ c ≤ n
theorem Sto.more {sc a : Addr} {n m : Int} {H : Hp} (s : Sto sc a n H) (h : n ≤ m) : Sto sc a m H := by
  obtain ⟨x2, x3, x4, x5, x6, h1, h2, h3, h4, h5, h6, h7, h8⟩ := s.ex
  exact ⟨x2, x3, x4, x5, x6, h1, h2, h3, h4, h5, h6, h7, by omega⟩
/-- all else stands -/
def Kept (a : Addr) (H H' : Hp) : Prop := Same (Off a H) (Off a H')
theorem Kept.refl (a : Addr) (H : Hp) : Kept a H H := Same.refl _
theorem Kept.trans {a : Addr} {H H1 H2 : Hp} (x : Kept a H H1) (y : Kept a H1 H2) : Kept a H H2 := Same.trans x y
theorem kept_same {a : Addr} {H H' : Hp} (s : Same H H') : Kept a H H' := off_mono s
theorem Sto.same {sc a : Addr} {n : Int} {H H' : Hp} (s : Sto sc a n H) (e : Same H H') : Sto sc a n H' := by
  obtain ⟨x2, x3, x4, x5, x6, h1, h2, h3, h4⟩ := s.ex
  exact ⟨x2, x3, x4, x5, x6, e _ _ h1, h2, e _ _ h3, h4⟩
theorem Sto.put {sc a : Addr} {n : Int} {H : Hp} {cs : List Int} {i dg mx c : Int} (hs : sc ≠ a) (hq : H sc = some (.lst (cs.map V.int))) (hl : cs.length ≤ 63) (hi : 0 ≤ i) (hd : 0 ≤ dg) (hc : 0 ≤ c) (hn : c ≤ n) :
    Sto sc a n (upd H a (.lst [.ref sc, .int i, .int dg, .int mx, .int c])) :=
  ⟨cs, i, dg, mx, c, upd_same, hs, by rw [upd_ne hs]; exact hq, hl, hi, hd, hc, hn⟩
/-- another list changes -/
theorem Sto.other {sc a l : Addr} {n : Int} {H : Hp} {o : HO} (s : Sto sc a n H) (h1 : l ≠ a) (h2 : l ≠ sc) : Sto sc a n (upd H l o) := by
  obtain ⟨x2, x3, x4, x5, x6, g1, g2, g3, g4⟩ := s.ex
  exact ⟨x2, x3, x4, x5, x6, by rw [upd_ne h1.symm]; exact g1, g2, by rw [upd_ne h2.symm]; exact g3, g4⟩
theorem Sto.ne {sc a p : Addr} {n : Int} {H : Hp} (s : Sto sc a n H) (h : H p = none) : p ≠ a := by
  obtain ⟨_, _, _, _, _, h1, _⟩ := s.ex
  exact (ne_of_none h1 h).symm
theorem Sto.ne2 {sc a p : Addr} {n : Int} {H : Hp} (s : Sto sc a n H) (h : H p = none) : p ≠ sc := by
  obtain ⟨_, _, _, _, _, _, _, h1, _⟩ := s.ex
  exact (ne_of_none h1 h).symm
theorem kept_put {a : Addr} {H : Hp} {o : HO} : Kept a H (upd H a o) := by unfold Kept; rw [off_upd]; exact Same.refl _
end Vk
namespace Vk
open PySem
def top (i : Nat) : Stmt := PySem.Challenge.pw_blindslots_k03_rules_checked.main.body.getD i (.Pass ⟨0, 0, 0, 0⟩)
abbrev sInteger : Stmt := top 15
abbrev sTupleOf : Stmt := top 16
abbrev sCheck : Stmt := top 22
abbrev sLevel : Stmt := top 23
abbrev sCount : Stmt := top 24
abbrev sMix : Stmt := top 26
abbrev sStore : Stmt := top 27
abbrev sPick : Stmt := top 28
abbrev sInt : Stmt := top 29
abbrev sKind : Stmt := top 30
abbrev sIsLevel : Stmt := top 31
abbrev sFault : Stmt := top 32
abbrev sGood : Stmt := top 33
abbrev sSpoilt : Stmt := top 34
abbrev sRight : Stmt := top 35
abbrev sLaw : Stmt := top 36
end Vk
/-! values as data: kinds, integers, tuples -/
namespace Vk
open PySem PySem.Spec PyProof.Rows L2
def tyN : PyData → String
  | .none => "NoneType"
  | .bool _ => "bool"
  | .int _ => "int"
  | .str _ => "str"
  | .list _ => "list"
  | .tuple _ => "tuple"
  | .dict _ => "dict"
theorem dp_ty {K : PySem.W.Frag} {H : Hp} {v : V} {d : PyData} (h : Dp K H v d) : TyX K H v (.type (tyN d)) := by
  cases h with
  | non => exact .base .non
  | bl b => exact .base (.bl b)
  | int i => exact .base (.int i)
  | str x => exact .base (.str x)
  | lst q _ =>
    rcases q with (q | ⟨o, q⟩) | ⟨o, its, n, hk, hc, _⟩
    · exact .base (.lst q)
    · exact .base (.frz q)
    · exact .kList hk hc
  | tup q _ =>
    rcases q with (q | ⟨o, q⟩) | ⟨o, its, n, hk, hc, _⟩
    · exact .base (.tup q)
    · exact .fTuple q
    · exact .kTuple hk hc
def isIntD : PyData → Bool
  | .bool _ => true
  | .int _ => true
  | _ => false
def isBoolD : PyData → Bool
  | .bool _ => true
  | _ => false
def isTupD : PyData → Bool
  | .tuple _ => true
  | _ => false
def isStrD : PyData → Bool
  | .str _ => true
  | _ => false
section
variable {K : PySem.W.Frag} {H : Hp} {v : V} {d : PyData}
theorem kit_int (h : Dp K H v d) : PySem.W.kitOne K (.type (tyN d)) (.type "int") = some (isIntD d) := by
  cases h with
  | non => exact kit_ty (show kitB "NoneType" "int" = some false by decide +kernel)
  | bl _ => exact kit_ty (show kitB "bool" "int" = some true by decide +kernel)
  | int _ => exact kit_ty (show kitB "int" "int" = some true by decide +kernel)
  | str _ => exact kit_ty (show kitB "str" "int" = some false by decide +kernel)
  | lst _ _ => exact kit_ty (show kitB "list" "int" = some false by decide +kernel)
  | tup _ _ => exact kit_ty (show kitB "tuple" "int" = some false by decide +kernel)
theorem kit_bool (h : Dp K H v d) : PySem.W.kitOne K (.type (tyN d)) (.type "bool") = some (isBoolD d) := by
  cases h with
  | non => exact kit_ty (show kitB "NoneType" "bool" = some false by decide +kernel)
  | bl _ => exact kit_ty (show kitB "bool" "bool" = some true by decide +kernel)
  | int _ => exact kit_ty (show kitB "int" "bool" = some false by decide +kernel)
  | str _ => exact kit_ty (show kitB "str" "bool" = some false by decide +kernel)
  | lst _ _ => exact kit_ty (show kitB "list" "bool" = some false by decide +kernel)
  | tup _ _ => exact kit_ty (show kitB "tuple" "bool" = some false by decide +kernel)
theorem kit_tup (h : Dp K H v d) : PySem.W.kitOne K (.type (tyN d)) (.type "tuple") = some (isTupD d) := by
  cases h with
  | non => exact kit_ty (show kitB "NoneType" "tuple" = some false by decide +kernel)
  | bl _ => exact kit_ty (show kitB "bool" "tuple" = some false by decide +kernel)
  | int _ => exact kit_ty (show kitB "int" "tuple" = some false by decide +kernel)
  | str _ => exact kit_ty (show kitB "str" "tuple" = some false by decide +kernel)
  | lst _ _ => exact kit_ty (show kitB "list" "tuple" = some false by decide +kernel)
  | tup _ _ => exact kit_ty (show kitB "tuple" "tuple" = some true by decide +kernel)
theorem kit_strT (h : Dp K H v d) : PySem.W.kitOne K (.type (tyN d)) (.type "str") = some (isStrD d) := by
  cases h with
  | non => exact kit_ty (show kitB "NoneType" "str" = some false by decide +kernel)
  | bl _ => exact kit_ty (show kitB "bool" "str" = some false by decide +kernel)
  | int _ => exact kit_ty (show kitB "int" "str" = some false by decide +kernel)
  | str _ => exact kit_ty (show kitB "str" "str" = some true by decide +kernel)
  | lst _ _ => exact kit_ty (show kitB "list" "str" = some false by decide +kernel)
  | tup _ _ => exact kit_ty (show kitB "tuple" "str" = some false by decide +kernel)
theorem dp_tuple {ds : List PyData} (h : Dp K H v (.tuple ds)) : ∃ a xs, v = .ref a ∧ SqT K H a xs ∧ DpAll K H xs ds := by
  cases h with
  | tup q r => exact ⟨_, _, rfl, q, r⟩
theorem dp_int {i : Int} (h : Dp K H v (.int i)) : v = .int i := by
  cases h
  rfl
theorem dp_bool {i : Bool} (h : Dp K H v (.bool i)) : v = .bl i := by
  cases h
  rfl
theorem dp_str {i : Str} (h : Dp K H v (.str i)) : v = .str i := by
  cases h
  rfl
theorem dp_none (h : Dp K H v .none) : v = .non := by
  cases h
  rfl
theorem dps_len : ∀ {vs : List V} {ds : List PyData}, DpAll K H vs ds → vs.length = ds.length
  | _, _, .nil => rfl
  | _, _, .cons _ r => congrArg (· + 1) (dps_len r)
theorem dps_get : ∀ {vs : List V} {ds : List PyData} {i : Nat} {d : PyData}, DpAll K H vs ds → ds[i]? = some d → ∃ v, vs[i]? = some v ∧ Dp K H v d
  | _, _, 0, _, .cons h _, e => by cases e; exact ⟨_, rfl, h⟩
  | _, _, i + 1, _, .cons _ r, e => by
    obtain ⟨v, h1, h2⟩ := dps_get r (i := i) (by simpa using e)
    exact ⟨v, by simpa using h1, h2⟩
theorem dps_getV : ∀ {vs : List V} {ds : List PyData} {i : Nat} {v : V}, DpAll K H vs ds → vs[i]? = some v → ∃ d, ds[i]? = some d ∧ Dp K H v d
  | _, _, 0, _, .cons h _, e => by cases e; exact ⟨_, rfl, h⟩
  | _, _, i + 1, _, .cons _ r, e => by
    obtain ⟨v, h1, h2⟩ := dps_getV r (i := i) (by simpa using e)
    exact ⟨v, by simpa using h1, h2⟩
theorem dps_app : ∀ {vs us : List V} {ds es : List PyData}, DpAll K H vs ds → DpAll K H us es → DpAll K H (vs ++ us) (ds ++ es)
  | _, _, _, _, .nil, h => h
  | _, _, _, _, .cons h r, q => .cons h (dps_app r q)
theorem dps_take : ∀ {vs : List V} {ds : List PyData} (n : Nat), DpAll K H vs ds → DpAll K H (vs.take n) (ds.take n)
  | _, _, 0, _ => .nil
  | _, _, n + 1, .nil => .nil
  | _, _, n + 1, .cons h r => .cons h (dps_take n r)
theorem dps_drop : ∀ {vs : List V} {ds : List PyData} (n : Nat), DpAll K H vs ds → DpAll K H (vs.drop n) (ds.drop n)
  | _, _, 0, h => h
  | _, _, n + 1, .nil => .nil
  | _, _, n + 1, .cons h r => dps_drop n r
/-- flat data -/
def flatD : PyData → Bool
  | .none => true
  | .bool _ => true
  | .int _ => true
  | .str _ => true
  | _ => false
theorem dp_flat (h : Dp K H v d) : flatV v = flatD d := by
  cases h <;> rfl
end
/-- an integer from a least one on -/
def integerD (least : Int) : PyData → Bool
  | .int i => decide (least ≤ i)
  | _ => false
def tupleND (n : Int) : PyData → Bool
  | .tuple ds => decide ((ds.length : Int) = n)
  | _ => false
/-! ### their defs' promises -/
def spInteger (K : PySem.W.Frag) : Sp := fun vs H Q _ => ∃ (v : V) (d : PyData) (least : Int), vs = [v, .int least] ∧ Dp K H v d ∧ Q (.bl (integerD least d)) H
def spTupleOf (K : PySem.W.Frag) : Sp := fun vs H Q _ => ∃ (v : V) (d : PyData) (n : Int), vs = [v, .int n] ∧ Dp K H v d ∧ Q (.bl (tupleND n d)) H
structure Blt (mg : Str → Option Value) : Prop where
  len : mg "len" = none
  isi : mg "isinstance" = none
  int : mg "int" = none
  bool : mg "bool" = none
  tuple : mg "tuple" = none
  str : mg "str" = none
  range : mg "range" = none
  enum : mg "enumerate" = none
  list : mg "list" = none
/-- isinstance(e, T), T a built-in type -/
def tIsi (K : PySem.W.Frag) (T : String) (te : TE) : TE := tCB (rIsi K) (tCons te (tCons (tC (.ty T)) tNil))
theorem isi_go {K : PySem.W.Frag} {T : String} {te : TE} {σ : L2.St} {H H1 : Hp} {v : V} {d : PyData} {b : Bool} {Q : VK} (h : ∀ R : VK, R v H1 → te σ H R) (hd : Dp K H1 v d) (k : PySem.W.kitOne K (.type (tyN d)) (.type T) = some b) (q : Q (.bl b) H1) : tIsi K T te σ H Q :=
  h _ ⟨v, .ty T, _, _, b, rfl, .ty T, dp_ty hd, k, q⟩
end Vk
namespace Vk
open PySem PySem.Spec PyProof.Rows L2
section
variable {P : Program} {w : World} {K : PySem.W.Frag} {mg : Str → Option Value} {base : Heap}
/-! ### _law_mix -/
def spMix : Sp := fun vs H Q _ => ∃ (n t : Int), vs = [.int n, .int t] ∧ 0 ≤ t ∧ t ≤ 10000000 ∧ ∀ r : Int, 0 ≤ r → r < 2147483648 → Q (.int r) H
theorem scMix : FnScope ["number", "turn", "value"] ["number", "turn"] (defScope sMix) := ⟨rfl, rfl, rfl, by decide +kernel, rfl, by decide +kernel, by decide +kernel⟩
theorem ok_mix (D : Df K mg "_law_mix" sMix ["number", "turn"]) : Cl P w K mg base CX0 1 "_law_mix" ["number", "turn"] spMix := by
  refine cl0 D scMix (fun vs H Q E h => ?_) (fun f cdv A outer s H vs Q E hr h => ?_)
  · obtain ⟨n, t, rfl, _⟩ := h
    rfl
  · obtain ⟨n, t, rfl, h0, h1, k⟩ := h
    refine ⟨_, pss_cons (ps_set (i := 2) scMix.nd rfl (Or.inl rfl) (pe_op op_mod (pe_op op_add (pe_op op_add (pe_op op_add (pe_op op_mod (pv 0) pe_int) (pe_op op_mul (pe_op op_mul pe_int (pv 1)) (pv 1))) (pe_op op_mul pe_int (pv 1))) pe_int) pe_int))
      (pss_cons (ps_set (i := 2) scMix.nd rfl (Or.inl rfl) (pe_op op_mod (pe_op op_mul (pe_op op_mod (pe_op op_mul (pv 2) (pv 2)) pe_int) (pv 2)) pe_int))
      (pss_one (ps_ret (pe_op op_fdiv (pe_op op_mod (pe_op op_add (pe_op op_mul (pv 2) pe_int) (pv 1)) pe_int) pe_int)))), ?_⟩
    refine ⟨_, rfl, _, _, rfl, rfl, (by show (0 : Int) < 2147483629; decide), _, rfl, _, _, rfl, rfl, .inl (by decide), _, rfl, _, _, rfl, rfl, .inr ⟨by omega, by omega⟩, _, _, rfl, rfl, _, rfl, _, _, rfl, rfl, .inl (by decide), _, _, rfl, rfl, _, _, rfl, rfl, _, _, rfl, rfl, (by show (0 : Int) < 2147483629; decide), ?_⟩
    generalize hv : (n % 2147483629 + 7919 * t * t + 104729 * t + 13) % 2147483629 = v
    have v0 : 0 ≤ v := by rw [← hv]; exact Int.emod_nonneg _ (by decide)
    have v1 : v < 2147483629 := by rw [← hv]; exact Int.emod_lt_of_pos _ (by decide)
    refine ⟨_, rfl, _, rfl, _, _, rfl, rfl, .inl ⟨by omega, by omega⟩, _, _, rfl, rfl, (by show (0 : Int) < 2147483587; decide), _, rfl, _, _, rfl, rfl, .inr ⟨by omega, by omega⟩, _, _, rfl, rfl, (by show (0 : Int) < 2147483563; decide), ?_⟩
    generalize hu : v * v % 2147483587 * v % 2147483563 = u
    have u0 : 0 ≤ u := by rw [← hu]; exact Int.emod_nonneg _ (by decide)
    have u1 : u < 2147483563 := by rw [← hu]; exact Int.emod_lt_of_pos _ (by decide)
    refine ⟨_, rfl, _, _, rfl, rfl, .inl ⟨by omega, by omega⟩, _, rfl, _, _, rfl, rfl, _, _, rfl, rfl, (by show (0 : Int) < 2147483399; decide), _, _, rfl, rfl, ⟨by decide, by decide⟩, ?_⟩
    exact k _ (by omega) (by omega)
/-! ### _law_store -/
def spStore (K : PySem.W.Frag) : Sp := fun vs H Q _ => ∃ (a : Addr) (ns : List Int), vs = [.ref a] ∧ SqL K H a (ns.map V.int) ∧ ns.length ≤ 63 ∧ ∀ (p sc : Addr) (H' : Hp), Same H H' → H p = none → Sto sc p 0 H' → Q (.ref p) H'
theorem scStore : FnScope ["script", "mixed", "cell"] ["script"] (defScope sStore) := ⟨rfl, rfl, rfl, by decide +kernel, rfl, by decide +kernel, by decide +kernel⟩
theorem map_int_get {ns : List Int} {i : Nat} {y : V} (h : (ns.map V.int)[i]? = some y) : ∃ z, ns[i]? = some z ∧ y = V.int z := by
  rw [List.getElem?_map] at h
  cases e : ns[i]? with
  | none => rw [e] at h; cases h
  | some z => rw [e] at h; exact ⟨z, rfl, (Option.some.inj h).symm⟩
theorem cut63 {ns : List Int} (h : ns.length ≤ 63) : cutV (ns.map V.int) none (some 63) = ns.map V.int := by
  have e1 : HT.sIx (ns.map V.int).length 0 none = 0 := rfl
  have e2 : HT.sIx (ns.map V.int).length (ns.map V.int).length (some 63) = min 63 (ns.map V.int).length := HT.sIx_nat _ _ 63
  unfold cutV
  rw [e1, e2, List.drop_zero]
  exact List.take_of_length_le (by rw [List.length_map]; omega)
theorem ok_store (D : Df K mg "_law_store" sStore ["script"]) (len : mg "len" = none) : Cl P w K mg base CX0 1 "_law_store" ["script"] (spStore K) := by
  refine cl0 D scStore (fun vs H Q E h => ?_) (fun f cdv A outer s H vs Q E hr h => ?_)
  · obtain ⟨a, ns, rfl, _⟩ := h
    rfl
  · obtain ⟨a, ns, rfl, hS, hl, k⟩ := h
    refine ⟨_, pss_cons (ps_set (i := 1) scStore.nd rfl (Or.inl rfl) (pe_callB call_len_seq (by rfl) len PySem.boot_len (pa_cons (pv 0) pa_nil)))
      (pss_cons (ps_for PassesOwn.never rfl (pi_list (pe_slice sl_list (pv 0) po_none (po_some pe_int))) (pg_name (i := 2) scStore.nd rfl (Or.inl rfl))
        (pss_one (ps_set (i := 1) scStore.nd rfl (Or.inl rfl) (pe_op op_mod (pe_op op_add (pe_op op_add (pe_op op_mul (pv 1) pe_int) (pe_op op_mod (pv 2) pe_int)) pe_int) pe_int))))
      (pss_one (ps_ret (pe_lst (pa_cons (pe_slice sl_list (pv 0) po_none (po_some pe_int)) (pa_cons pe_int (pa_cons pe_int (pa_cons (pv 1) (pa_cons pe_int pa_nil))))))))), ?_⟩
    refine ⟨_, rfl, a, _, rfl, .inl hS, ?_⟩
    refine ⟨_, rfl, _, rfl, a, _, rfl, hS, fun p hp => ⟨p, rfl, ⟨_, SqL.of upd_same⟩, ?_⟩⟩
    rw [cut63 hl]
    refine for_list (K := K) (a := p) (xs := ns.map V.int) (fun i σ H' => ∃ (m : Int) (v : Option V), σ = [some (.ref a), some (.int m), v] ∧ 0 ≤ m ∧ m < 2147483648 ∧ H' = upd H p (.lst (ns.map V.int)))
      ⟨_, none, rfl, Int.natCast_nonneg _, by rw [List.length_map]; omega, rfl⟩ (fun i σ H' _ ⟨m, v, _, _, _, e⟩ => by rw [e]; exact SqL.of upd_same) ?_ ?_
    · rintro i y σ H' hi ⟨m, v, rfl, m0, m1, rfl⟩
      obtain ⟨z, _, rfl⟩ := map_int_get hi
      refine ⟨_, rfl, _, _, rfl, rfl, .inl ⟨by omega, by omega⟩, _, rfl, _, _, rfl, rfl, (by show (0 : Int) < 1000000007; decide), _, _, rfl, rfl, _, _, rfl, rfl, _, _, rfl, rfl, (by show (0 : Int) < 2147483629; decide), ?_⟩
      refine ⟨_, _, rfl, Int.emod_nonneg _ (by decide), ?_, rfl⟩
      have q := Int.emod_lt_of_pos (m * 16807 + z % 1000000007 + 11) (show (0 : Int) < 2147483629 by decide)
      omega
    · rintro σ H' ⟨m, v, rfl, m0, m1, rfl⟩
      have s1 : Same H (upd H p (.lst (ns.map V.int))) := same_new hp
      refine ⟨_, rfl, _, rfl, a, _, rfl, s1.seq hS, fun q hq => ?_⟩
      rw [cut63 hl]
      have s2 : Same H (upd (upd H p (.lst (ns.map V.int))) q (.lst (ns.map V.int))) := s1.trans (same_new hq)
      refine ⟨_, rfl, (by show 5 ≤ sizeLine; decide), fun r hr' => ?_⟩
      have nq : q ≠ r := ne_of_none upd_same hr'
      refine k r q _ (s2.trans (same_new hr')) ((s2.trans (Same.refl _)).free hr') ?_
      exact Sto.put nq upd_same hl (by decide) (by decide) (by decide) (by decide)
end
end Vk
namespace Vk
open PySem PySem.Spec PyProof.Rows L2
section
variable {P : Program} {w : World} {K : PySem.W.Frag} {mg : Str → Option Value} {base : Heap}
def spPick : Sp := fun vs H Q _ => ∃ (a sc : Addr) (m n : Int), vs = [.ref a, .int m] ∧ 0 < m ∧ m < 1000000000 ∧ Sto sc a n H ∧ n ≤ 1000000 ∧
  ∀ (r : Int) (H' : Hp), 0 ≤ r → r < m → Sto sc a (n + 1) H' → Kept a H H' → Q (.int r) H'
theorem scPick : FnScope ["store", "count", "cell", "digit"] ["store", "count"] (defScope sPick) := ⟨rfl, rfl, rfl, by decide +kernel, rfl, by decide +kernel, by decide +kernel⟩
theorem ok_pick (D : Df K mg "_law_pick" sPick ["store", "count"]) (M : Cl P w K mg base CX0 1 "_law_mix" ["number", "turn"] spMix) (len : mg "len" = none) : Cl P w K mg base CX0 2 "_law_pick" ["store", "count"] spPick := by
  refine cl0 D scPick (fun vs H Q E h => ?_) (fun f cdv A outer s H vs Q E hr h => ?_)
  · obtain ⟨a, sc, m, n, rfl, _⟩ := h
    rfl
  · obtain ⟨a, sc, m, n, rfl, m0, m1, S, n1, k⟩ := h
    refine ⟨_, pss_cons (ps_asg (pe_op op_add (pe_ix ix_list (pv 0) pe_int (fun _ _ => rfl)) pe_int) (pg_sub (pv 0) pe_int set_list))
      (pss_cons (ps_if (PW.pt (pw_and (pt_cmpR op_eq (pe_ix ix_list (pv 0) pe_int (fun _ _ => rfl)) pe_int (nomark _)) (pw_and1 (pt_cmpR op_lt (pe_ix ix_list (pv 0) pe_int (fun _ _ => rfl)) (pe_callB call_len_seq (by rfl) len PySem.boot_len (pa_cons (pe_ix ix_list (pv 0) pe_int (fun _ _ => rfl)) pa_nil)) (nomark _)))))
        (pss_cons (ps_set (i := 2) scPick.nd rfl (Or.inl rfl) (pe_ix ix_list (pe_ix ix_list (pv 0) pe_int (fun _ _ => rfl)) (pe_ix ix_list (pv 0) pe_int (fun _ _ => rfl)) (fun _ _ => rfl)))
        (pss_cons (ps_asg (pe_op op_add (pe_ix ix_list (pv 0) pe_int (fun _ _ => rfl)) pe_int) (pg_sub (pv 0) pe_int set_list))
        (pss_cons (ps_if (pt_cmpR op_lt (pv 2) (pe_op op_pow pe_int pe_int) (nomark _))
          (pss_one (ps_ret (pe_op op_mod (pc M hr (by decide) (pa_cons (pv 2) (pa_cons (pe_ix ix_list (pv 0) pe_int (fun _ _ => rfl)) pa_nil))) (pv 1)))) pss_nil)
        (pss_one (ps_asg (pv 2) (pg_sub (pv 0) pe_int set_list)))))) pss_nil)
      (pss_cons (ps_if (pt_cmpR op_gt (pe_ix ix_list (pv 0) pe_int (fun _ _ => rfl)) pe_int (nomark _))
        (pss_cons (ps_set (i := 3) scPick.nd rfl (Or.inl rfl) (pe_op op_mod (pe_ix ix_list (pv 0) pe_int (fun _ _ => rfl)) (pv 1)))
        (pss_cons (ps_asg (pe_op op_fdiv (pe_ix ix_list (pv 0) pe_int (fun _ _ => rfl)) (pv 1)) (pg_sub (pv 0) pe_int set_list))
        (pss_one (ps_ret (pv 3))))) pss_nil)
      (pss_one (ps_ret (pe_op op_mod (pc M hr (by decide) (pa_cons (pe_ix ix_list (pv 0) pe_int (fun _ _ => rfl)) (pa_cons (pe_ix ix_list (pv 0) pe_int (fun _ _ => rfl)) pa_nil))) (pv 1)))))), ?_⟩
    obtain ⟨cs, i, dg, mx, c, hH, ns, hq, hl, i0, d0, c0, cn⟩ := S.ex
    have fill : ∀ (G : Hp) (i' dg' c' : Int), Off a G = Off a H → 0 ≤ i' → 0 ≤ dg' → 0 ≤ c' → c' ≤ n + 1 → G a = some (.lst [.ref sc, .int i', .int dg', .int mx, .int c']) → Sto sc a (n + 1) G ∧ Kept a H G := fun G i' dg' c' e h1 h2 h3 h4 h5 =>
      ⟨⟨cs, i', dg', mx, c', h5, ns, off_sub a G _ _ (by rw [e, off_ne ns]; exact hq), hl, h1, h2, h3, h4⟩, by unfold Kept; rw [e]; exact Same.refl _⟩
    -- store[4] = store[4] + 1
    refine ⟨_, rfl, a, _, _, _, rfl, rfl, SqL.of hH, rfl, _, _, rfl, rfl, _, rfl, a, _, _, _, rfl, rfl, hH, rfl, ?_⟩
    -- the mix at the end
    have fin : ∀ (G : Hp) (i' dg' x r : Int), Off a G = Off a H → 0 ≤ i' → 0 ≤ dg' → G a = some (.lst [.ref sc, .int i', .int dg', .int mx, .int (c + 1)]) → Q (.int (r % m)) G := fun G i' dg' x r e h1 h2 h3 => by
      obtain ⟨s1, s2⟩ := fill G i' dg' (c + 1) e h1 h2 (by omega) (by omega) h3
      exact k _ G (Int.emod_nonneg _ (by omega)) (Int.emod_lt_of_pos _ m0) s1 s2
    have fin2 : ∀ (G : Hp) (i' dg' r : Int), Off a G = Off a H → 0 ≤ i' → 0 ≤ dg' → 0 ≤ r → r < m → G a = some (.lst [.ref sc, .int i', .int dg', .int mx, .int (c + 1)]) → Q (.int r) G := fun G i' dg' r e h1 h2 q1 q2 h3 => by
      obtain ⟨s1, s2⟩ := fill G i' dg' (c + 1) e h1 h2 (by omega) (by omega) h3
      exact k _ G q1 q2 s1 s2
    have hqG : ∀ G : Hp, Off a G = Off a H → SqL K G sc (cs.map V.int) := fun G e => SqL.of (off_sub a G _ _ (by rw [e, off_ne ns]; exact hq))
    have oG : ∀ o, Off a (upd H a o) = Off a H := fun o => off_upd
    have oG2 : ∀ o u, Off a (upd (upd H a o) a u) = Off a H := fun o u => by rw [off_upd, off_upd]
    have oG3 : ∀ o u v, Off a (upd (upd (upd H a o) a u) a v) = Off a H := fun o u v => by rw [off_upd, off_upd, off_upd]
    refine ⟨_, rfl, a, _, _, _, rfl, rfl, SqL.of upd_same, rfl, rfl, _, rfl, ?_⟩
    refine ite2 (fun hd => ?_) (fun hd => ?_)
    · have hd0 : dg = 0 := by
        have z := of_decide_eq_true hd
        exact V.int.inj z
      subst hd0
      refine ⟨_, rfl, a, _, _, _, rfl, rfl, SqL.of upd_same, rfl, _, rfl, a, _, _, _, rfl, rfl, SqL.of upd_same, rfl, sc, _, rfl, .inl (hqG _ (oG _)), _, _, rfl, rfl, _, rfl, ?_⟩
      refine ite2 (fun hi => ?_) (fun hi => ?_)
      · have hi0 : i < (cs.map V.int).length := of_decide_eq_true hi
        have hj : i.toNat < cs.length := by rw [List.length_map] at hi0; omega
        have hc : (cs.map V.int)[i.toNat]? = some (V.int cs[i.toNat]) := by rw [List.getElem?_map, List.getElem?_eq_getElem hj]; rfl
        have ha : atI (cs.map V.int) i = some (V.int cs[i.toNat]) := by
          have z := atI_nat hc
          rw [Int.toNat_of_nonneg i0] at z
          exact z
        -- cell = store[0][store[1]]; store[1] = store[1] + 1
        refine ⟨_, rfl, a, _, _, _, rfl, rfl, SqL.of upd_same, rfl, _, rfl, a, _, _, _, rfl, rfl, SqL.of upd_same, rfl, sc, _, _, _, rfl, rfl, hqG _ (oG _), ha, ?_⟩
        refine ⟨_, rfl, a, _, _, _, rfl, rfl, SqL.of upd_same, rfl, _, _, rfl, rfl, _, rfl, a, _, _, _, rfl, rfl, upd_same, rfl, ?_⟩
        -- if cell < 10 ** 18
        refine ⟨_, rfl, _, _, rfl, rfl, ⟨by decide, by decide, by decide⟩, _, _, rfl, rfl, _, rfl, ?_⟩
        refine ite2 (fun hx => ?_) (fun hx => ?_)
        · refine ⟨_, rfl, _, rfl, a, _, _, _, rfl, rfl, SqL.of upd_same, rfl, _, _, rfl, by omega, by omega, fun r r0 r1 => ?_⟩
          exact ⟨_, rfl, _, _, rfl, rfl, m0, fin _ (i + 1) 0 0 r (oG2 _ _) (by omega) (by decide) upd_same⟩
        · have hx0 : ¬ cs[i.toNat] < 10 ^ 18 := fun z => hx (decide_eq_true z)
          -- store[2] = cell
          refine ⟨_, rfl, _, rfl, a, _, _, _, rfl, rfl, upd_same, rfl, ?_⟩
          refine ⟨_, rfl, a, _, _, _, rfl, rfl, SqL.of upd_same, rfl, _, _, rfl, rfl, _, rfl, ?_⟩
          refine ite2 (fun _ => ?_) (fun z => absurd (decide_eq_true (show (0 : Int) < cs[i.toNat] by omega)) z)
          refine ⟨_, rfl, a, _, _, _, rfl, rfl, SqL.of upd_same, rfl, _, rfl, _, _, rfl, rfl, m0, ?_⟩
          refine ⟨_, rfl, a, _, _, _, rfl, rfl, SqL.of upd_same, rfl, _, rfl, _, _, rfl, rfl, ⟨m0, by omega⟩, _, rfl, a, _, _, _, rfl, rfl, upd_same, rfl, ?_⟩
          refine ⟨_, rfl, ?_⟩
          exact fin2 _ (i + 1) (cs[i.toNat] / m) _ (by rw [off_upd, off_upd, off_upd, off_upd]) (by omega) (Int.ediv_nonneg (by omega) (by omega)) (Int.emod_nonneg _ (by omega)) (Int.emod_lt_of_pos _ m0) upd_same
      · refine ⟨_, rfl, a, _, _, _, rfl, rfl, SqL.of upd_same, rfl, _, _, rfl, rfl, _, rfl, ?_⟩
        refine ite2 (fun z => absurd (of_decide_eq_true z) (by decide)) (fun _ => ?_)
        refine ⟨_, rfl, a, _, _, _, rfl, rfl, SqL.of upd_same, rfl, _, rfl, a, _, _, _, rfl, rfl, SqL.of upd_same, rfl, _, _, rfl, by omega, by omega, fun r r0 r1 => ?_⟩
        exact ⟨_, rfl, _, _, rfl, rfl, m0, fin _ i 0 0 r (oG _) i0 (by decide) upd_same⟩
    · have hd0 : ¬ dg = 0 := fun z => hd (decide_eq_true (by rw [z]))
      refine iteF ?_
      refine ⟨_, rfl, a, _, _, _, rfl, rfl, SqL.of upd_same, rfl, _, _, rfl, rfl, _, rfl, ?_⟩
      refine ite2 (fun _ => ?_) (fun z => absurd (decide_eq_true (show (0 : Int) < dg by omega)) z)
      refine ⟨_, rfl, a, _, _, _, rfl, rfl, SqL.of upd_same, rfl, _, rfl, _, _, rfl, rfl, m0, ?_⟩
      refine ⟨_, rfl, a, _, _, _, rfl, rfl, SqL.of upd_same, rfl, _, rfl, _, _, rfl, rfl, ⟨m0, by omega⟩, _, rfl, a, _, _, _, rfl, rfl, upd_same, rfl, ?_⟩
      refine ⟨_, rfl, ?_⟩
      exact fin2 _ i (dg / m) _ (by rw [off_upd, off_upd]) i0 (Int.ediv_nonneg (by omega) (by omega)) (Int.emod_nonneg _ (by omega)) (Int.emod_lt_of_pos _ m0) upd_same
end
end Vk
/-! enumerate over a tuple: the pairs are new tuples -/
namespace PySem
set_option maxHeartbeats 4000000 in
theorem vx_enumNew {v : Value} {cell : Obj} {Hh : Heap → Prop} (B : Begins v cell Hh) :
    Meets (Builtin.«enumerate.__new__» ⟨[.type "enumerate", v], []⟩) (fun _ R s => Hh s.heap ∧
      R (.ok (.ret (.ref (s.heap.push cell).objs.size)))
        { s with heap := (s.heap.push cell).push { cls := .type "enumerate", data := .fields #[.none, .bool false, .ref s.heap.objs.size, rawInt 0, .none, .none] } }) :=
  .of_wp fun prog w A R s h => by
    obtain ⟨hp, gs, dr, tk, os⟩ := s
    obtain ⟨hbeg, h⟩ := h
    have subE := sub_enumerate
    have itOf : ∀ {A2 : Around} {E2 : Value → Shared → Prop} {Q2 : Value → Shared → Prop}, Q2 (.ref hp.objs.size) ⟨hp.push cell, gs, dr, tk, os⟩ → wpAny (model prog w) A2 (pyIter v) Q2 E2 ⟨hp, gs, dr, tk, os⟩ :=
      fun q => B.iter prog w _ _ ⟨hp, gs, dr, tk, os⟩ _ hbeg q
    wp_walk using itOf
    refine wpAny_stack_any fun st => wpAny_pure ?_
    split
    · rename_i cc _ _ _ _ _
      cases (cc == Value.type "enumerate") <;> (wp_walk using itOf; exact ⟨_, rfl, h⟩)
    · wp_walk using itOf
      exact ⟨_, rfl, h⟩
section
variable {prog : Program} {w : World} {A : Around} {E : Value → Shared → Prop} {s : Shared}
theorem vx_callEnum {v : Value} {cell : Obj} {Hh : Heap → Prop} {Q : Value → Shared → Prop} (B : Begins v cell Hh) (hbeg : Hh s.heap)
    (h : ∀ h', IsEnum h' (s.heap.objs.size + 1) s.heap.objs.size 0 .none → h'.get? s.heap.objs.size = some cell → (∀ b o, s.heap.get? b = some o → h'.get? b = some o) →
      Q (.ref (s.heap.objs.size + 1)) { s with heap := h' }) :
    wpAny (model prog w) A (call (.type "enumerate") [v]) Q E s := by
  refine callType_new F.called_enumerate (by decide) (F.typeCall_enumerate_1 _) (F.newCall_enumerate_1 _) (fun obj => F.args_object_init_2 obj _) F.entry_enumerate_new
    (vx_enumNew B) ⟨hbeg, ?_⟩
  have sz : (s.heap.push cell).objs.size = s.heap.objs.size + 1 := Heap.size_push ..
  show _ ∧ _
  rw [sz]
  have en : IsEnum ((s.heap.push cell).push { cls := .type "enumerate", data := .fields #[.none, .bool false, .ref s.heap.objs.size, rawInt 0, .none, .none] }) (s.heap.objs.size + 1) s.heap.objs.size 0 .none := by
    have got := Heap.get?_push_size (s.heap.push cell) (o := { cls := .type "enumerate", data := .fields #[.none, .bool false, .ref s.heap.objs.size, rawInt 0, .none, .none] }) rfl
    rw [sz] at got
    exact got
  exact ⟨⟨_, en, rfl⟩, h _ en (Heap.get?_push_of_some _ (Heap.get?_push_size _ B.free)) fun b o x => Heap.get?_push_of_some _ (Heap.get?_push_of_some _ x)⟩
end
end PySem
namespace L2
open PySem PySem.Spec PyProof.Rows
/-- what enumerate gives over the tuple at a: its items in new pairs -/
def IteT (K : PySem.W.Frag) (a : Addr) : It :=
  ⟨fun i H => ∃ (ys : List V) (y : V), SqT K H a ys ∧ ys[i]? = some y, fun i H v H' => ∃ T y, v = .ref T ∧ H T = none ∧ H' = upd H T (.tup [.int (i : Nat), y]) ∧ ∀ ys, SqT K H a ys → ys[i]? = some y,
    fun i H => ∃ ys : List V, SqT K H a ys ∧ ys.length = i⟩
theorem vx_turn {P : Program} {w : World} {K : PySem.W.Frag} {elts : List Expr} {kk : Nat} {tpos : Pos} (a e it : Addr) :
    Turn P w K (.Tuple elts kk tpos) (IteT K a) [e, it] e (fun i h => (∃ old, IsEnum h e it ((i : Nat) : Int) old) ∧ h.IsTupleIter it a i ∧ e ≠ it ∧ a ≠ it ∧ e ≠ a) where
  mem := List.mem_cons_self
  obj := fun i h st b hb => by
    obtain ⟨⟨old, en⟩, ⟨o, ho, hc, hd⟩, _⟩ := st
    have two : b = e ∨ b = it := by simpa using hb
    rcases two with z | z
    · subst z
      exact ⟨_, en, fun v q => nomatch q⟩
    · subst z
      exact ⟨o, ho, fun v q => by rw [hd] at q; cases q⟩
  keep := fun i h h' st k => by
    obtain ⟨⟨old, en⟩, hi, r⟩ := st
    exact ⟨⟨old, k e (by simp) _ en⟩, hi.at fun o q => k it (by simp) o q, r⟩
  item := by
    intro X hP hw hK hc i pins s σ H E I hf st hg
    subst hP hw hK
    obtain ⟨⟨old, en⟩, hit, nei, nai, nea⟩ := st
    obtain ⟨ys, y, hq, hy⟩ := hg
    obtain ⟨its, rv, p, _⟩ := I.tuple hq
    obtain ⟨u, hu, ru⟩ := rv.get hy
    have le : e < s.heap.objs.size := Heap.lt_size en
    have li : it < s.heap.objs.size := by obtain ⟨_, q, _⟩ := hit; exact Heap.lt_size q
    have hin : X.A.in1.handled = none := I.ok.hd hc
    have ilt : i < its.toArray.size := by
      have z := (List.getElem?_eq_some_iff.mp hu).1
      rw [List.size_toArray]
      exact z
    refine wpAny_pyNext_enum_itemD (Draws.tuple hin it a nai its.toArray) en ⟨hit, p⟩ ilt nei (by simp [nei, nea]) fun x h2 tk hx eo st2 hT hsz hk => ?_
    have ex : x = u := by
      have z : its.toArray[i]? = some x := hx
      rw [List.getElem?_toArray, hu] at z
      exact (Option.some.inj z).symm
    subst ex
    refine ⟨_, rfl, wpAny_letOwnedTupleGo_enum (s := { s with heap := h2, toks := tk + 1 }) eo fun h3 he3 sb => ?_⟩
    have hT3 : h3.get? s.heap.objs.size = some { cls := .type "tuple", data := .seq #[.int i tk, x] } := (sb.2 _ (Nat.ne_of_gt le)).trans hT
    have new : ObjOk X.prog X.w (upd H s.heap.objs.size (.tup [.int (i : Nat), y])) h3 s.heap.objs.size (.tup [.int (i : Nat), y]) :=
      ⟨(by show 2 ≤ sizeLine; decide), [.int i tk, x], .cons ⟨_, rfl⟩ (.cons ru .nil), ⟨_, hT3, rfl, _, rfl⟩⟩
    have J : Inv X pins σ (upd H s.heap.objs.size (.tup [.int (i : Nat), y])) { s with heap := h3, toks := tk + 1 } :=
      I.turnedNew (ch := [e, it]) (fun b ob hb q => by
        have n1 : b ≠ e := fun z => hb (by simp [z])
        have n2 : b ≠ it := fun z => hb (by simp [z])
        exact (sb.2 b n1).trans (hk b ob n1 n2 q)) hf (Nat.le_refl _) new
    refine ⟨.ref s.heap.objs.size, _, J, rfl, ⟨_, y, rfl, I.hok.fresh (Nat.le_refl _), rfl, fun zs hz => by rw [I.tuple_inj hz hq]; exact hy⟩, ⟨⟨x, ?_⟩, st2.1.at fun o q => (sb.2 it (Ne.symm nei)).trans q, nei, nai, nea⟩, fun b hb => ?_⟩
    · have en2 : ((i + 1 : Nat) : Int) = (i : Int) + 1 := by omega
      rw [en2]
      exact he3
    · have lb : b < s.heap.objs.size := by
        have two : b = e ∨ b = it := by simpa using hb
        rcases two with z | z
        · rw [z]; exact le
        · rw [z]; exact li
      rw [upd_ne (Nat.ne_of_lt lb)]
      exact (hf b hb).1
  done := by
    intro X hP hw hK hc i pins s σ H E I hf st hg
    subst hP hw hK
    obtain ⟨⟨old, en⟩, hit, nei, nai, nea⟩ := st
    obtain ⟨ys, hq, hy⟩ := hg
    obtain ⟨its, rv, p, _⟩ := I.tuple hq
    obtain ⟨f0, f1, f2, f3, f4, f5⟩ := hf it (by simp)
    have hl := rv.length
    have hi : i = its.toArray.size := by rw [List.size_toArray]; omega
    subst hi
    have hin : X.A.in1.handled = none := I.ok.hd hc
    exact wpAny_pyNext_enum_endD (Draws.tuple hin it a nai its.toArray) en ⟨hit, p⟩ fun h2 eb => ⟨rfl, I.turned (t' := s.toks) (fun b o hb q => eb b o hb q) f0 f1 f3 f4 f5⟩
  self := fun A i s Q E st h => by
    obtain ⟨⟨_, en⟩, _⟩ := st
    exact wpAny_pyIter_enum en h
def iEnumT (K : PySem.W.Frag) (ta : TA) : TI := fun σ H R => ta σ H fun vs H1 => ∃ a ys, vs = [.ref a] ∧ SqT K H1 a ys ∧ R (IteT K a) H1
theorem pi_enumT {X : Cx} {e : Expr} {ta : TA} {p pos tpos : Pos} {elts : List Expr} {kk : Nat} (hm : X.mg "enumerate" = none) (ha : PA X [e] ta) (hg : Gl X "enumerate" := by rfl) (hs : starEach [e] X.env = [(false, eval e X.env)] := by rfl) :
    PI X (.Tuple elts kk tpos) (.Call (.Name "enumerate" p) [e] [] pos) (iEnumT X.K ta) := by
  refine ⟨fun pins s σ H R I h => ?_⟩
  refine Call_ (ld_blt I hg hm boot_enumerate (PyProof.Rows.callWith_type1 (thn (ha.run pos pins s σ H _ I h) fun us s1 ⟨vs, H1, I1, r1, q1⟩ => ?_) hs rfl))
  obtain ⟨a, ys, ex, hq, q⟩ := q1
  subst ex
  cases r1 with
  | cons r rr =>
    cases rr
    cases r
    obtain ⟨its, rv, p2, _⟩ := I1.tuple hq
    have la : a < s1.heap.objs.size := by obtain ⟨_, z, _⟩ := p2; exact Heap.lt_size z
    refine vx_callEnum (begins_tuple a its.toArray) p2 fun h2 he hit hk => wpAny_pyIter_enum he ?_
    have I2 : Inv X pins σ H1 { s1 with heap := h2 } := I1.kept (t' := s1.toks) hk
    refine ⟨s1.heap.objs.size + 1, [s1.heap.objs.size + 1, s1.heap.objs.size], _, _, H1, rfl, I2, vx_turn a (s1.heap.objs.size + 1) s1.heap.objs.size,
      ⟨⟨.none, he⟩, ⟨_, hit, rfl, rfl⟩, Nat.succ_ne_self _, Nat.ne_of_lt la, Nat.ne_of_gt (Nat.lt_succ_of_lt la)⟩, fun b hb => ?_, q⟩
    have two : b = s1.heap.objs.size + 1 ∨ b = s1.heap.objs.size := by simpa using hb
    have hle : s1.heap.objs.size ≤ b := by
      rcases two with z | z
      · rw [z]; exact Nat.le_succ _
      · rw [z]; exact Nat.le_refl _
    exact I1.fpOk hle (I1.hok.fresh hle)
/-- turn by turn, the tuple standing still -/
theorem walk_enumT {K : PySem.W.Frag} {a : Addr} {xs : List V} : Walk (IteT K a) xs.length (fun H => SqT K H a xs) (YPair (fun i => some (.int (i : Nat))) (fun i => xs[i]?)) := by
  refine ⟨fun i _ hi q => ⟨xs, xs[i], q, by simp [hi]⟩, fun _ q => ⟨xs, q, rfl⟩, fun i H v H' _ q y => ?_⟩
  obtain ⟨T, x, h1, h2, h3, h4⟩ := y
  exact ⟨T, .int (i : Nat), x, h1, h2, h3, rfl, h4 xs q⟩
end L2
/-! an exception that its except suite gives to another name: it is tracked from there on -/
namespace Vk
open PySem PySem.Spec PyProof.Rows L2
/-- at a: an exception of the class cls, its dict d -/
def Xco (a : Addr) (cls : Value) (d : Option Addr) : HO := .ext fun h => ∃ (oe : Obj) (vs : Array Value), h.get? a = some oe ∧ Zc cls d oe ∧ oe.data = .fields vs
theorem xco_ok {P : Program} {w : World} {H : Hp} {h : Heap} {a : Addr} {cls : Value} {d : Option Addr} {oe : Obj} {vs : Array Value} (e : h.get? a = some oe) (z : Zc cls d oe) (f : oe.data = .fields vs) : ObjOk P w H h a (Xco a cls d) :=
  ⟨⟨oe, vs, e, z, f⟩, ⟨oe, e⟩, fun _ _ ⟨o, v, q, r⟩ k => ⟨o, v, k o q, r⟩⟩
theorem xco_at {P : Program} {w : World} {H : Hp} {h : Heap} {a : Addr} {cls : Value} {d : Option Addr} (hok : HOk P w H h) (e : H a = some (Xco a cls d)) : ∃ (oe : Obj) (vs : Array Value), h.get? a = some oe ∧ Zc cls d oe ∧ oe.data = .fields vs := by
  have x : ObjOk P w H h a (.ext fun h => ∃ (oe : Obj) (vs : Array Value), h.get? a = some oe ∧ Zc cls d oe ∧ oe.data = .fields vs) := hok a _ e
  exact x.1
section
variable {X : Cx} {pins : List (Addr × Obj)} {σ : L2.St} {H : Hp} {s : Shared}
theorem inv_track {a : Addr} {o : HO} (I : Inv X pins σ H s) (hn : H a = none) (n0 : ∀ ob, X.s_0.heap.get? a = some ob → False) (nL : a ≠ X.env.locals) (nC : ∀ x c, X.env.cells.lookup x = some c → c ≠ a) (nP : ∀ p ∈ X.pn ++ pins, p.1 ≠ a)
    (new : ObjOk X.prog X.w (upd H a o) s.heap a o) : Inv X pins σ (upd H a o) s := by
  have ne : ∀ {b : Addr} {u : HO}, H b = some u → b ≠ a := fun q => ne_of_none q hn
  have b1 : Un X.fs X.ex X.H_0 (upd H a o) X.s_0.heap s.heap := {
      keep := I.base.keep
      slot := I.base.slot
      free := fun b u q n x => by
        have nb : b ≠ a := fun z => by
          rw [z] at q
          exact n0 u q
        rw [upd_ne nb]
        exact I.base.free b u q n x
      there := I.base.there
      tups := fun b xs q => by
        have z := I.base.tups b xs q
        rw [upd_ne (ne z)]
        exact z
      frzs := fun b u xs q => by
        have z := I.base.frzs b u xs q
        rw [upd_ne (ne z)]
        exact z
      tbls := fun b ps q => by
        obtain ⟨m, z⟩ := I.base.tbls b ps q
        exact ⟨m, by rw [upd_ne (ne z)]; exact z⟩ }
  refine ⟨I.ok, I.os, I.bare, b1, I.loc, I.cell, ?_, ?_, ?_, ?_, I.len⟩
  · rw [upd_ne nL.symm]
    exact I.free
  · intro x c q
    rw [upd_ne (nC x c q)]
    exact I.freeC x c q
  · intro p hp
    obtain ⟨h1, h2, h3⟩ := I.pin p hp
    exact ⟨h1, by rw [upd_ne (nP p hp)]; exact h2, h3⟩
  · intro b u q
    by_cases hb : b = a
    · subst hb
      rw [upd_same] at q
      cases q
      exact new
    · rw [upd_ne hb] at q
      refine (I.hok b u q).stay (fun c v _ z => z) (fun c z => ?_) (fun c xs z => ?_)
      · rw [upd_ne (ne z)]
        exact z
      · rw [upd_ne (ne z)]
        exact z
end
/-- what «except C as n: suite» wishes where the suite keeps the exception -/
def wKeep (K : PySem.W.Frag) (c : Value) (i : Nat) (ts : Addr → Value → Option Addr → TS) (D : Ends) : WX := fun cls d σ H =>
  PySem.W.exmOne K cls c = some true ∧ ∀ a, H a = none → ts a cls d { nx := fun σ' H' => H' a = none → D.nx (σ'.set i none) (upd H' a (Xco a cls d)), rt := fun _ _ => False } (σ.set i (some (.ref a))) H
section
variable {X : Cx} {x n : Str} {c : Value} {i : Nat} {body more : List Stmt} {b₀ : Stmt} {np pos pos' : Pos} {tb : WX → TS} {ts : Addr → Value → Option Addr → TS}
theorem ps_try_keep (hs : X.stack = X.env :: X.outer) (hf : X.env.frame = some X.env.locals) (hex : X.ex = []) (hN : X.N.Nodup) (hi : X.N[i]? = some n) (hln : X.env.kindOf n = some .local) (hg : Gl X x) (hm : X.mg x = some c)
    (hdb : (x == ("__debug__" : Str)) = false)
    (hb : ∀ (W : WX) (pn : List (Addr × Obj)) (xe : Value → Shared → Prop), Takes (X.tr pn xe) W → PassesOwn (model X.prog X.w) X.A X.env xe → PSs (X.tr pn xe) body (tb W))
    (hsu : ∀ (a : Addr) (oe : Obj) (cls : Value) (d : Option Addr) (pn : List (Addr × Obj)), Zc cls d oe → (∃ vs, oe.data = .fields vs) → PSs (X.suite a ((a, oe) :: pn)) (b₀ :: more) (ts a cls d)) :
    PS X (.Try body [.ExceptHandler (some (.Name x np)) (some n) (b₀ :: more) pos'] [] [] pos) (fun D σ H => tb (wKeep X.K c i ts D) D σ H) := by
  refine ⟨fun pins s σ H D I h => ?_⟩
  have ok := I.ok
  have frames : X.A.frames = some (X.env :: X.outer) := by rw [ok.frames, hs]
  refine wpAny_Try_except (wpAny_mono ((hb (wKeep X.K c i ts D) (X.pn ++ pins) _ (fun u s2 air => ?_) PassesOwn.looking).run [] s σ H D (I.toTry _) h) (fun f s2 sp => ?_) (fun _ _ z => z))
  · obtain ⟨a, B, sI, pins2, σ2, H2, cls, d, rfl, J2, ground, up, sky, na, os, ag, match1, suite⟩ := air
    have J : Inv X pins σ2 H2 sI := J2.ofTry ok
    have air2 : Sky B (X.env :: X.outer) a (Zc cls d) X.env.locals s2.heap := by rw [← hs]; exact sky
    -- a stands in no frame, and is new
    refine Sky.land Zc.steady frames hf air2 fun h3 fly3 up3 => ?_
    have K3 : Inv X pins σ2 H2 { s2 with heap := h3 } := J.landed ground fly3.1 (up.trans up3) os ag
    obtain ⟨o3, v3, get3, z3, dat3⟩ := fly3.there
    have outFr : a ∉ frs (X.env :: X.outer) := fun hm2 => by
      obtain ⟨_, o4, get4, nf⟩ := fly3.2.2.1.mem hm2
      rw [get3] at get4
      cases get4
      exact nf _ dat3
    have noL : a ≠ X.env.locals := fun z => outFr (List.mem_filterMap.mpr ⟨X.env, List.mem_cons_self, by rw [hf, z]⟩)
    have noF : a ∉ X.fs := fun hm2 => by
      obtain ⟨e, he, q⟩ := List.mem_filterMap.mp hm2
      exact outFr (List.mem_filterMap.mpr ⟨e, List.mem_cons_of_mem _ he, q⟩)
    have outI : ∀ ob, sI.heap.get? a = some ob → False := fun ob q => by
      have z := ground a ob q (by rw [show (X.tr (X.pn ++ pins) _).stack = X.stack from rfl, hs]; exact outFr)
      rw [fly3.2.1] at z
      cases z
    have out0 : ∀ ob, X.s_0.heap.get? a = some ob → False := fun ob q => by
      obtain ⟨o5, z⟩ := J.base.there a ob q (by rw [hex]; exact fun y => nomatch y)
      exact outI _ z
    have noC : ∀ y cc, X.env.cells.lookup y = some cc → cc ≠ a := fun y cc q z => by
      obtain ⟨v, o6, get6, _⟩ := J.cell y cc q
      rw [z] at get6
      exact outI _ get6
    have noP : ∀ p ∈ X.pn ++ pins, p.1 ≠ a := fun p hp z => by
      have q := (J.pin p hp).1
      rw [z] at q
      exact outI _ q
    refine wpAny_handleBy_cons (codeAny_handlers_test ?_) (by intro q; cases q)
    have isC : PySem.W.Looks (model X.prog X.w) h3 (typeOf (.ref a)) cls := fun A2 Q2 E2 s4 kk q => wpAny_typeOf_ref (kk _ _ get3) (by rw [z3.1]; exact q)
    refine ld_glob (X := X.suite a ((a, o3) :: (X.pn ++ pins))) (K3.suite get3 dat3 na noL noF) hg hm ?_ hdb
    refine (PySem.W.exm_one (M := model X.prog X.w) K3.kIn isC match1).here (codeAny_handlers_suite_as ?_)
    refine HandSPX.lands_againZ fly3 fun h4 fly4 up4 => ?_
    have K4 : Inv X pins σ2 H2 { s2 with heap := h4 } := J.landed ground fly4.1 ((up.trans up3).trans up4) os ag
    obtain ⟨o4, v4, get4, z4, dat4⟩ := fly4.there
    refine store_ok (X := X.suite a ((a, o4) :: (X.pn ++ pins))) (v := .ref a) (K4.suite get4 dat4 na noL noF) hN hi (.inl hln) rfl (fun s5 S5 => ?_) (.inr hln)
    refine wpAny_mono ((hsu a o4 cls d (X.pn ++ pins) z4 ⟨_, dat4⟩).run [] s5 _ H2 _ S5 (suite a na)) (fun f s6 sp => ?_) (fun _ _ z => False.elim z)
    cases f with
    | next =>
      obtain ⟨σ6, H6, S6, q6⟩ := sp
      obtain ⟨get6, n6, _⟩ := S6.pin (a, o4) (List.mem_append_left _ List.mem_cons_self)
      have T6 : Inv X pins σ6 (upd H6 a (Xco a cls d)) s6 := inv_track (S6.unsuite ok) n6 out0 noL noC noP (xco_ok get6 z4 dat4)
      exact gone_ok T6 hN hi hln fun s7 T7 => ⟨_, _, T7, q6 n6⟩
    | brk =>
      obtain ⟨_, _, _, z⟩ := sp
      exact False.elim z
    | cont =>
      obtain ⟨_, _, _, z⟩ := sp
      exact False.elim z
    | ret u =>
      obtain ⟨_, _, _, _, _, z⟩ := sp
      exact False.elim z
  · cases f with
    | next =>
      obtain ⟨σ2, H2, J, q⟩ := sp
      exact wpAny_execs_nil ⟨σ2, H2, J.ofTry ok, q⟩
    | brk =>
      obtain ⟨σ2, H2, J, q⟩ := sp
      exact ⟨σ2, H2, J.ofTry ok, q⟩
    | cont =>
      obtain ⟨σ2, H2, J, q⟩ := sp
      exact ⟨σ2, H2, J.ofTry ok, q⟩
    | ret u =>
      obtain ⟨v, σ2, H2, J, r, q⟩ := sp
      exact ⟨v, σ2, H2, J.ofTry ok, r, q⟩
end
/-! ### what is asked of it later -/
theorem xco_inst {X : Cx} {pins : List (Addr × Obj)} {σ : L2.St} {H : Hp} {s : Shared} {a C : Addr} {d : Option Addr} (I : Inv X pins σ H s) (e : H a = some (Xco a (.ref C) d)) (hd : ∀ dd, d = some dd → ∃ fs, H dd = some (.xd fs)) :
    ∃ oe od, PySem.W.InstAt s.heap a oe C od := by
  obtain ⟨⟨oc, odd, dat, sl⟩, vs, get, ⟨z1, z2⟩, f⟩ := xco_at I.hok e
  dsimp only at z1 z2 f
  subst z1 z2 f
  cases odd with
  | none => exact ⟨_, none, get, rfl, rfl, trivial⟩
  | some dd =>
    obtain ⟨fs, hx⟩ := hd dd rfl
    have ok : ObjOk X.prog X.w H s.heap dd (.xd fs) := I.hok dd _ hx
    obtain ⟨mA, ⟨o2, _, _, get2, _⟩, _⟩ := ok
    exact ⟨_, some o2, get, rfl, rfl, get2⟩
/-- isinstance(e, c) of such an exception -/
def rIsX (K : PySem.W.Frag) : List V → Hp → VK → Prop := fun xs H Q => ∃ (a C : Addr) (d : Option Addr) (c : V) (u : Value) (b : Bool), xs = [.ref a, c] ∧ H a = some (Xco a (.ref C) d) ∧ (∀ dd, d = some dd → ∃ fs, H dd = some (.xd fs)) ∧
  ExcC K C ∧ ClsV c u ∧ PySem.W.kitOne K (.ref C) u = some b ∧ Q (.bl b) H
theorem call_isX {X : Cx} : CallR X (.builtin "isinstance") (rIsX X.K) := by
  intro pins s σ H xs us Q I r h
  obtain ⟨a, C, d, c, u, b, rfl, e, hd, T, k, hk, q⟩ := h
  obtain ⟨u1, u2, rfl, r1, r2⟩ := vals2 r
  cases r1
  have e2 := k.eq r2
  subst e2
  obtain ⟨oe, od, inst⟩ := xco_inst I e hd
  have cl : (PySem.W.clsIn X.K C).isSome = true := by
    obtain ⟨cd, hc, _⟩ := PySem.W.any_some T.hd
    rw [hc]
    rfl
  exact PySem.W.kia_one (PySem.W.kitx_exc (od := od) cl T.hg T.hk T.hs T.ha T.hn T.ht T.hm) I.kIn inst hk (fun z => nomatch z) fun tk => ⟨.bl b, H, I.tok tk, rfl, q⟩
/-- e.f of such an exception -/
def tXp (K : PySem.W.Frag) (f : Str) (te : TE) : TE := fun σ H Q => te σ H fun x H1 => ∃ (a C dd : Addr) (fs : List (Str × V)) (v : V), x = .ref a ∧ H1 a = some (Xco a (.ref C) (some dd)) ∧ H1 dd = some (.xd fs) ∧ fs.lookup f = some v ∧
  XfC K C ∧ PySem.W.findIn K (.ref C) f = some none ∧ Q v H1
theorem pe_xp {X : Cx} {e : Expr} {te : TE} {pos : Pos} {n : Str} (he : PE X e te) (hb : attributeBase e n X.env (eval e X.env) = eval e X.env := by rfl) : PE X (.Attribute e n pos) (tXp X.K n te) := by
  refine ⟨fun pins s σ H Q I h => attr_of hb (thn (he.run pins s σ H _ I h) fun u s1 got => ?_)⟩
  obtain ⟨x, H1, I1, rx, a, C, dd, fs, v, rfl, ea, ed, hl, T, hno, q⟩ := got
  cases rx
  obtain ⟨⟨oc, odd, dat, sl⟩, vs, get, ⟨z1, z2⟩, f⟩ := xco_at I1.hok ea
  dsimp only at z1 z2 f
  subst z1 z2 f
  have ok : ObjOk X.prog X.w H1 s1.heap dd (.xd fs) := I1.hok dd _ ed
  obtain ⟨mA, hns, hr⟩ := ok
  obtain ⟨od, ho, look⟩ := lookIn_ns hns
  obtain ⟨y, hy, ry⟩ := RelO.some_of (v := v) (o := mA n) (by rw [← hl]; exact hr n)
  have inst : PySem.W.InstAt s1.heap a ⟨.ref C, some dd, .fields vs, sl⟩ C (some od) := ⟨get, rfl, rfl, ho⟩
  exact HandSPX.exc_get I1.kIn inst T.ga T.gg T.exC (PySem.W.findObj_own T.hdC hno rfl (by rw [look, hy])) (handed_of ry) ⟨v, H1, I1.tok _, ry, q⟩
end Vk
/-! xs.count(y) of flat items -/
namespace Vk
open PySem PySem.Spec PyProof.Rows L2
theorem cnt_flat {y : V} : ∀ {ys : List V} {us : List Value}, Vals ys us → ys.all flatV = true → us.countP (eqU y) = ys.countP (fun z => eqV z y)
  | _, _, .nil, _ => rfl
  | _, _, .cons r t, f => by
    have f2 := Bool.and_eq_true_iff.mp f
    rw [List.countP_cons, List.countP_cons, cnt_flat t f2.2, eqU_of r f2.1]
def rCntV (K : PySem.W.Frag) : V → List V → Hp → VK → Prop := fun x xs H Q => ∃ (p : Addr) (ys : List V) (y : V), x = .ref p ∧ xs = [y] ∧ SqL K H p ys ∧ flatV y = true ∧ ys.all flatV = true ∧ Q (.int (ys.countP (fun z => eqV z y) : Nat)) H
theorem mt_countV {X : Cx} : MtR X "list.count" (rCntV X.K) := by
  intro pins s σ H x xs v us Q I rx rxs h
  obtain ⟨p, ys, y, rfl, rfl, hs, fy, fys, q⟩ := h
  cases rx
  obtain ⟨u, rfl, ru⟩ := rxs.one
  obtain ⟨its, rv, ⟨⟨cls, dd, data, sl⟩, n, ho, hc, hdn, hd⟩, hlen⟩ := I.list hs
  simp only at hc hd
  subst hc hd
  refine call_meets PySem.F.slot_list_count ⟨_, ho, rfl⟩ PySem.F.entry_list_count (PySem.F.args_list_count_2 _ _)
    (SeqAt.list_countAt p its.toArray n dd sl u (eqU y)) ⟨ho, fun z hz => mem_eqAt ru fy rv fys z (by simpa using hz), ?_⟩
  refine ⟨.int (ys.countP (fun z => eqV z y) : Nat), H, I.tok _, ⟨s.toks, ?_⟩, q⟩
  show Value.int ((its.toArray.toList.countP (eqU y) : Nat) : Int) s.toks = _
  rw [show its.toArray.toList = its from rfl, cnt_flat rv fys]
end Vk
/-! raise X(e), X an own error whose __init__ keeps one field -/
namespace Vk
open PySem PySem.Spec PyProof.Rows L2
def spIni (C : Addr) (fld : Str) : Sp := fun vs H Q _ => ∃ (a : Addr) (v : V), vs = [.ref a, v] ∧ H a = some (exo a C none) ∧ ∀ dx, H dx = none → dx ≠ a → Q .non (upd (upd H dx (exd dx [(fld, v)])) a (exo a C (some dx)))
structure ErC (P : Program) (w : World) (K : PySem.W.Frag) (mg : Str → Option Value) (base : Heap) (x fld : Str) (C : Addr) : Prop where
  gC : mg x = some (.ref C)
  oex : OexC K C
  ini : ∃ (fI : Addr) (fd : FuncData), PySem.W.findIn K (.ref C) "__init__" = some (some (.ref fI)) ∧ PySem.W.typeIn K (.ref fI) = some (.type "function") ∧ Binds K fd ["self", fld] [] ∧ FnOk P w K mg base CX0 1 fI fd ["self", fld] (spIni C fld)
def tRaiseE (C : Addr) (fld : Str) (W : WX) (te : TE) : TS := fun _ σ H => tMkO C (spIni C fld) [] (tCons te tNil) σ H fun cls d H' => W cls d σ H'
theorem put_del {H : Hp} {a d : Addr} {o u v x : HO} (ha : H a = none) (hd : H d = none) (ne : d ≠ a) : Same H (upd (del (upd (upd (upd H a o) d u) a v) a) d x) := fun b y e => by
  have nb : b ≠ a := ne_of_none e ha
  rw [upd_ne (ne_of_none e hd), del_ne nb, upd_ne nb, upd_ne (ne_of_none e hd), upd_ne nb]
  exact e
section
variable {X : Cx} {x fld : Str} {C : Addr} {W : WX} {e : Expr} {te : TE} {p pos pos2 : Pos} {k : Nat}
theorem ps_raiseE (T : ErC X.prog X.w X.K X.mg X.base x fld C) (hc : X.calm = true) (hr : Room k X.A) (hk : 2 ≤ k) (tk : Takes X W) (he : PE X e te) (hg : Gl X x := by rfl) (hdb : (x == ("__debug__" : Str)) = false := by decide)
    (hs : starEach (e :: []) X.env = (false, eval e X.env) :: starEach [] X.env := by rfl) (hpl : (backTo pos (starEach [] X.env)).any (·.1) = false := by rfl) :
    PS X (.Raise (some (.Call (.Name x p) [e] [] pos)) none pos2) (tRaiseE C fld W te) := by
  obtain ⟨fI, fd, h1, h2, h3, h4⟩ := T.ini
  have big := ps_raise (pos := pos2) hc tk (pmk_oex (p := p) (pos := pos) (CX := CX0) (k := 1) T.oex h1 h2 h4 (hr.mono hk) h3 .nil pass0 hg T.gC (pa_cons he pa_nil hs) hdb hs hpl)
  exact big
end
theorem raise_go {C : Addr} {fld : Str} {v : V} {H1 : Hp} {R : XK} {E : XK} (h : ∀ (d : Addr) (H2 : Hp), Same H1 H2 → H1 d = none → H2 d = some (.xd [(fld, v)]) → R (.ref C) (some d) H2) :
    [v].length ≤ 1000 ∧ ∀ a, H1 a = none → spIni C fld (.ref a :: ([v] ++ [])) (upd H1 a (exo a C none)) (fun u H2 => u = .non ∧ ∃ (d : Addr) (fs : List (Str × V)), H2 a = some (exo a C (some d)) ∧ H2 d = some (exd d fs) ∧ H1 d = none ∧ R (.ref C) (some d) (upd (del H2 a) d (.xd fs))) E := by
  refine ⟨by simp, fun a na => ⟨a, v, rfl, upd_same, fun dx nx ne => ?_⟩⟩
  have n1 : H1 dx = none := by
    rw [upd_ne ne] at nx
    exact nx
  refine ⟨rfl, dx, [(fld, v)], upd_same, by rw [upd_ne ne, upd_same], n1, h dx _ (put_del na n1 ne) n1 upd_same⟩
/-! ### the __init__ -/
structure Nit (K : PySem.W.Frag) (x qual fld : Str) (st : Stmt) (C : Addr) : Prop where
  ex : ∃ (fI : Addr) (fd : FuncData), PySem.W.findIn K (.ref C) "__init__" = some (some (.ref fI)) ∧ PySem.W.typeIn K (.ref fI) = some (.type "function") ∧ Fun K "__init__" qual st fI fd ∧ Binds K fd ["self", fld] []
end Vk
namespace Vk
open PySem PySem.Spec PyProof.Rows L2
section
variable {P : Program} {w : World} {K : PySem.W.Frag} {mg : Str → Option Value} {base : Heap}
theorem scInteger : FnScope ["value", "least"] ["value", "least"] (defScope sInteger) := ⟨rfl, rfl, rfl, by decide +kernel, rfl, by decide +kernel, by decide +kernel⟩
theorem ok_integer (D : Df K mg "is_integer" sInteger ["value", "least"]) (B : Blt mg) : Cl P w K mg base CX0 1 "is_integer" ["value", "least"] (spInteger K) := by
  refine cl0 D scInteger (fun vs H Q E h => ?_) (fun f cdv A outer s H vs Q E hr h => ?_)
  · obtain ⟨v, d, least, rfl, _⟩ := h
    rfl
  · obtain ⟨v, d, least, rfl, hd, k⟩ := h
    refine ⟨_, pss_one (ps_ret (pe_and (pe_callB call_isi (by rfl) B.isi (by decide +kernel) (pa_cons (pv 0) (pa_cons (pe_bltn (v := .ty "int") (u := .type "int") (by rfl) B.int (by decide +kernel) rfl) pa_nil))) (pe_and (pe_not (pe_callB call_isi (by rfl) B.isi (by decide +kernel) (pa_cons (pv 0) (pa_cons (pe_bltn (v := .ty "bool") (u := .type "bool") (by rfl) B.bool (by decide +kernel) rfl) pa_nil)))) (pe_one (pe_cmpR op_ge (pv 0) (pv 1) (nomark _)))))), ?_⟩
    refine ⟨_, rfl, v, _, _, _, _, rfl, .ty "int", dp_ty hd, kit_int hd, _, rfl, ?_⟩
    cases hd with
    | int i =>
      refine iteT ⟨_, rfl, _, _, _, _, _, rfl, .ty "bool", dp_ty (.int i), kit_bool (H := H) (.int i), _, rfl, _, rfl, iteT ?_⟩
      exact ⟨_, rfl, _, rfl, _, _, rfl, rfl, k⟩
    | bl b => exact iteT ⟨_, rfl, _, _, _, _, _, rfl, .ty "bool", dp_ty (.bl b), kit_bool (H := H) (.bl b), _, rfl, _, rfl, iteF k⟩
    | non => exact iteF k
    | str x => exact iteF k
    | lst q r => exact iteF k
    | tup q r => exact iteF k
theorem scInt : FnScope ["value", "least"] ["value", "least"] (defScope sInt) := ⟨rfl, rfl, rfl, by decide +kernel, rfl, by decide +kernel, by decide +kernel⟩
theorem ok_int (D : Df K mg "_law_is_int" sInt ["value", "least"]) (B : Blt mg) : Cl P w K mg base CX0 1 "_law_is_int" ["value", "least"] (spInteger K) := by
  refine cl0 D scInt (fun vs H Q E h => ?_) (fun f cdv A outer s H vs Q E hr h => ?_)
  · obtain ⟨v, d, least, rfl, _⟩ := h
    rfl
  · obtain ⟨v, d, least, rfl, hd, k⟩ := h
    refine ⟨_, pss_one (ps_ret (pe_and (pe_callB call_isi (by rfl) B.isi (by decide +kernel) (pa_cons (pv 0) (pa_cons (pe_bltn (v := .ty "int") (u := .type "int") (by rfl) B.int (by decide +kernel) rfl) pa_nil))) (pe_and (pe_not (pe_callB call_isi (by rfl) B.isi (by decide +kernel) (pa_cons (pv 0) (pa_cons (pe_bltn (v := .ty "bool") (u := .type "bool") (by rfl) B.bool (by decide +kernel) rfl) pa_nil)))) (pe_one (pe_cmpR op_ge (pv 0) (pv 1) (nomark _)))))), ?_⟩
    refine ⟨_, rfl, v, _, _, _, _, rfl, .ty "int", dp_ty hd, kit_int hd, _, rfl, ?_⟩
    cases hd with
    | int i =>
      refine iteT ⟨_, rfl, _, _, _, _, _, rfl, .ty "bool", dp_ty (.int i), kit_bool (H := H) (.int i), _, rfl, _, rfl, iteT ?_⟩
      exact ⟨_, rfl, _, rfl, _, _, rfl, rfl, k⟩
    | bl b => exact iteT ⟨_, rfl, _, _, _, _, _, rfl, .ty "bool", dp_ty (.bl b), kit_bool (H := H) (.bl b), _, rfl, _, rfl, iteF k⟩
    | non => exact iteF k
    | str x => exact iteF k
    | lst q r => exact iteF k
    | tup q r => exact iteF k
theorem scTupleOf : FnScope ["value", "many"] ["value", "many"] (defScope sTupleOf) := ⟨rfl, rfl, rfl, by decide +kernel, rfl, by decide +kernel, by decide +kernel⟩
theorem ok_tupleOf (D : Df K mg "is_tuple_of" sTupleOf ["value", "many"]) (B : Blt mg) : Cl P w K mg base CX0 1 "is_tuple_of" ["value", "many"] (spTupleOf K) := by
  refine cl0 D scTupleOf (fun vs H Q E h => ?_) (fun f cdv A outer s H vs Q E hr h => ?_)
  · obtain ⟨v, d, n, rfl, _⟩ := h
    rfl
  · obtain ⟨v, d, n, rfl, hd, k⟩ := h
    refine ⟨_, pss_one (ps_ret (pe_and (pe_callB call_isi (by rfl) B.isi (by decide +kernel) (pa_cons (pv 0) (pa_cons (pe_bltn (v := .ty "tuple") (u := .type "tuple") (by rfl) B.tuple (by decide +kernel) rfl) pa_nil))) (pe_one (pe_cmpR op_eq (pe_callB call_len_seq (by rfl) B.len PySem.boot_len (pa_cons (pv 0) pa_nil)) (pv 1) (nomark _))))), ?_⟩
    refine ⟨_, rfl, v, _, _, _, _, rfl, .ty "tuple", dp_ty hd, kit_tup hd, _, rfl, ?_⟩
    cases hd with
    | int i => exact iteF k
    | bl b => exact iteF k
    | non => exact iteF k
    | str x => exact iteF k
    | lst q r => exact iteF k
    | @tup a xs ds q r =>
      refine iteT ⟨_, rfl, _, xs, rfl, .inr q, _, rfl, rfl, ?_⟩
      have e : decide (V.int (xs.length : Nat) = V.int n) = tupleND n (.tuple ds) := by
        show _ = decide ((ds.length : Int) = n)
        rw [dps_len r]
        by_cases z : (ds.length : Int) = n
        · rw [z, decide_eq_true rfl, decide_eq_true rfl]
        · rw [decide_eq_false z, decide_eq_false (fun y => z (V.int.inj y))]
      show Q (.bl (decide (V.int (xs.length : Nat) = V.int n))) H
      rw [e]
      exact k
end
end Vk
namespace Vk
open PySem PySem.Spec PyProof.Rows L2
def countD : PyData → Bool
  | .none => true
  | d => integerD 1 d
def kindD : PyData → Bool
  | .str x => x == ("queue" : Str) || x == ("stack" : Str)
  | _ => false
def levelD : PyData → Bool
  | .tuple [a, b] => kindD a && countD b
  | _ => false
/-- the first of a pair is flat -/
def headD : PyData → Bool
  | .tuple [a, _] => flatD a
  | _ => true
theorem in_kinds {K : PySem.W.Frag} {H : Hp} {v : V} {d : PyData} (h : Dp K H v d) : inV v [.str ("queue" : Str), .str ("stack" : Str)] = kindD d := by
  cases h with
  | str x =>
    show (("queue" : Str) == x || (("stack" : Str) == x || false)) = (x == ("queue" : Str) || x == ("stack" : Str))
    rw [Bool.or_false, BEq.comm (a := ("queue" : Str)), BEq.comm (a := ("stack" : Str))]
  | non => rfl
  | bl b => rfl
  | int i => rfl
  | lst q r => rfl
  | tup q r => rfl
section
variable {P : Program} {w : World} {K : PySem.W.Frag} {mg : Str → Option Value} {base : Heap}
def spCount (K : PySem.W.Frag) : Sp := fun vs H Q _ => ∃ (v : V) (d : PyData), vs = [v] ∧ Dp K H v d ∧ Q (.bl (countD d)) H
theorem scCount : FnScope ["value"] ["value"] (defScope sCount) := ⟨rfl, rfl, rfl, by decide +kernel, rfl, by decide +kernel, by decide +kernel⟩
theorem ok_count (D : Df K mg "is_count" sCount ["value"]) (I : Cl P w K mg base CX0 1 "is_integer" ["value", "least"] (spInteger K)) : Cl P w K mg base CX0 2 "is_count" ["value"] (spCount K) := by
  refine cl0 D scCount (fun vs H Q E h => ?_) (fun f cdv A outer s H vs Q E hr h => ?_)
  · obtain ⟨v, d, rfl, _⟩ := h
    rfl
  · obtain ⟨v, d, rfl, hd, k⟩ := h
    refine ⟨_, pss_one (ps_ret (pe_or (pe_cmpR op_isN (pv 0) pe_non (nomark _)) (pe_one (pc I hr (by decide) (pa_cons (pv 0) (pa_cons pe_int pa_nil)))))), ?_⟩
    refine ⟨_, rfl, rfl, _, rfl, ?_⟩
    cases hd with
    | non => exact iteT k
    | int i => exact iteF ⟨_, rfl, _, _, 1, rfl, .int i, k⟩
    | bl b => exact iteF ⟨_, rfl, _, _, 1, rfl, .bl b, k⟩
    | str x => exact iteF ⟨_, rfl, _, _, 1, rfl, .str x, k⟩
    | lst q r => exact iteF ⟨_, rfl, _, _, 1, rfl, .lst q r, k⟩
    | tup q r => exact iteF ⟨_, rfl, _, _, 1, rfl, .tup q r, k⟩
def spLevel (K : PySem.W.Frag) : Sp := fun vs H Q _ => ∃ (v : V) (d : PyData), vs = [v] ∧ Dp K H v d ∧ headD d = true ∧ ∀ H', Same H H' → Q (.bl (levelD d)) H'
theorem scLevel : FnScope ["level"] ["level"] (defScope sLevel) := ⟨rfl, rfl, rfl, by decide +kernel, rfl, by decide +kernel, by decide +kernel⟩
theorem level_two {d : PyData} (h : tupleND 2 d = true) : ∃ a b, d = .tuple [a, b] := by
  cases d with
  | tuple ds =>
    have z : (ds.length : Int) = 2 := of_decide_eq_true h
    match ds, z with
    | [a, b], _ => exact ⟨a, b, rfl⟩
    | [], z => cases z
    | [_], z => cases z
    | _ :: _ :: _ :: l, z => simp only [List.length_cons] at z; omega
  | _ => cases h
theorem level_not {d : PyData} (h : tupleND 2 d = false) : levelD d = false := by
  cases d with
  | tuple ds =>
    have z : ¬ (ds.length : Int) = 2 := of_decide_eq_false h
    match ds, z with
    | [a, b], z => exact absurd rfl z
    | [], _ => rfl
    | [_], _ => rfl
    | _ :: _ :: _ :: l, _ => rfl
  | _ => rfl
theorem dp_two {K : PySem.W.Frag} {H : Hp} {v : V} {a b : PyData} (h : Dp K H v (.tuple [a, b])) : ∃ p x y, v = .ref p ∧ SqT K H p [x, y] ∧ Dp K H x a ∧ Dp K H y b := by
  obtain ⟨p, xs, rfl, q, r⟩ := dp_tuple h
  cases r with
  | cons h1 r =>
    cases r with
    | cons h2 r =>
      cases r
      exact ⟨p, _, _, rfl, q, h1, h2⟩
theorem ok_level (D : Df K mg "is_level" sLevel ["level"]) (T : Cl P w K mg base CX0 1 "is_tuple_of" ["value", "many"] (spTupleOf K)) (C : Cl P w K mg base CX0 2 "is_count" ["value"] (spCount K)) : Cl P w K mg base CX0 3 "is_level" ["level"] (spLevel K) := by
  refine cl0 D scLevel (fun vs H Q E h => ?_) (fun f cdv A outer s H vs Q E hr h => ?_)
  · obtain ⟨v, d, rfl, _⟩ := h
    rfl
  · obtain ⟨v, d, rfl, hd, fl, k⟩ := h
    refine ⟨_, pss_one (ps_ret (pe_and (pc T hr (by decide) (pa_cons (pv 0) (pa_cons pe_int pa_nil))) (pe_and (pe_cmpR op_in_seq (pe_ix ix_tup (pv 0) pe_int (fun _ _ => rfl)) (pe_tup (pa_cons pe_str (pa_cons pe_str pa_nil))) (by rfl))
      (pe_one (pc C hr (by decide) (pa_cons (pe_ix ix_tup (pv 0) pe_int (fun _ _ => rfl)) pa_nil)))))), ?_⟩
    refine ⟨_, rfl, v, d, 2, rfl, hd, _, rfl, ?_⟩
    cases ht : tupleND 2 d with
    | false =>
      refine iteF ?_
      have z := k H (Same.refl H)
      rw [level_not ht] at z
      exact z
    | true =>
      obtain ⟨a, b, rfl⟩ := level_two ht
      obtain ⟨p, x, y, rfl, q, ha, hb⟩ := dp_two hd
      refine iteT ⟨_, rfl, p, _, _, _, rfl, rfl, q, rfl, (by show 2 ≤ sizeLine; decide), fun t nt => ?_⟩
      have s1 := same_new (o := .tup [.str ("queue" : Str), .str ("stack" : Str)]) nt
      refine ⟨t, _, rfl, .inr (SqT.of upd_same), (by rw [dp_flat ha]; exact fl), rfl, _, rfl, ?_⟩
      show if inV x [.str ("queue" : Str), .str ("stack" : Str)] = true then _ else _
      rw [in_kinds ha]
      have kk := k _ s1
      have e : levelD (.tuple [a, b]) = (kindD a && countD b) := rfl
      rw [e] at kk
      cases hk : kindD a with
      | false =>
        rw [hk] at kk
        exact iteF kk
      | true =>
        rw [hk] at kk
        exact iteT ⟨_, rfl, p, _, _, _, rfl, rfl, same_seqT s1 q, rfl, y, b, rfl, dp_same s1 hb, kk⟩
theorem scIsLevel : FnScope ["level"] ["level"] (defScope sIsLevel) := ⟨rfl, rfl, rfl, by decide +kernel, rfl, by decide +kernel, by decide +kernel⟩
theorem ok_isLevel (D : Df K mg "_law_is_level" sIsLevel ["level"]) (B : Blt mg) (I : Cl P w K mg base CX0 1 "_law_is_int" ["value", "least"] (spInteger K)) : Cl P w K mg base CX0 2 "_law_is_level" ["level"] (spLevel K) := by
  refine cl0 D scIsLevel (fun vs H Q E h => ?_) (fun f cdv A outer s H vs Q E hr h => ?_)
  · obtain ⟨v, d, rfl, _⟩ := h
    rfl
  · obtain ⟨v, d, rfl, hd, fl, k⟩ := h
    refine ⟨_, pss_cons (ps_if (PW.pt (pw_or (pt_not (pt_val (pe_callB call_isi (by rfl) B.isi (by decide +kernel) (pa_cons (pv 0) (pa_cons (pe_bltn (v := .ty "tuple") (u := .type "tuple") (by rfl) B.tuple (by decide +kernel) rfl) pa_nil))))) (pw_or (pt_cmpR op_ne (pe_callB call_len_seq (by rfl) B.len PySem.boot_len (pa_cons (pv 0) pa_nil)) pe_int (nomark _))
        (pw_or1 (pt_cmpR op_notIn_seq (pe_ix ix_tup (pv 0) pe_int (fun _ _ => rfl)) (pe_tup (pa_cons pe_str (pa_cons pe_str pa_nil))) (by rfl)))))) (pss_one (ps_ret pe_bl)) pss_nil)
      (pss_one (ps_ret (pe_or (pe_cmpR op_isN (pe_ix ix_tup (pv 0) pe_int (fun _ _ => rfl)) pe_non (nomark _)) (pe_one (pc I hr (by decide) (pa_cons (pe_ix ix_tup (pv 0) pe_int (fun _ _ => rfl)) (pa_cons pe_int pa_nil))))))), ?_⟩
    refine ⟨_, rfl, v, _, _, _, _, rfl, .ty "tuple", dp_ty hd, kit_tup hd, _, rfl, ?_⟩
    by_cases htup : isTupD d = true
    case neg =>
      have e1 : isTupD d = false := Bool.eq_false_iff.mpr htup
      have e2 : levelD d = false := by
        cases d with
        | tuple ds => exact absurd rfl htup
        | _ => rfl
      rw [e1]
      refine iteT ?_
      refine iteT ?_
      have z := k H (Same.refl H)
      rw [e2] at z
      exact z
    case pos =>
      rw [htup]
      refine iteF ?_
      cases ht : tupleND 2 d with
      | false =>
        cases d with
        | tuple ds =>
          obtain ⟨p, xs, rfl, q, r⟩ := dp_tuple hd
          have z : ¬ (ds.length : Int) = 2 := of_decide_eq_false ht
          refine ⟨_, rfl, p, xs, rfl, .inr q, rfl, _, rfl, ?_⟩
          have e3 : (!decide (V.int (xs.length : Nat) = V.int 2)) = true := by
            rw [decide_eq_false (fun y => z (by rw [← dps_len r]; exact V.int.inj y))]
            rfl
          rw [e3]
          refine iteT (iteT ?_)
          have zz := k H (Same.refl H)
          rw [level_not ht] at zz
          exact zz
        | _ => cases htup
      | true =>
        obtain ⟨a, b, rfl⟩ := level_two ht
        obtain ⟨p, x, y, rfl, q, ha, hb⟩ := dp_two hd
        refine ⟨_, rfl, p, _, rfl, .inr q, rfl, _, rfl, iteF ?_⟩
        refine ⟨_, rfl, p, _, _, _, rfl, rfl, q, rfl, (by show 2 ≤ sizeLine; decide), fun t nt => ?_⟩
        have s1 := same_new (o := .tup [.str ("queue" : Str), .str ("stack" : Str)]) nt
        refine ⟨t, _, rfl, .inr (SqT.of upd_same), (by rw [dp_flat ha]; exact fl), rfl, _, rfl, ?_⟩
        show if (!inV x [.str ("queue" : Str), .str ("stack" : Str)]) = true then _ else _
        rw [in_kinds ha]
        have kk := k _ s1
        have e : levelD (.tuple [a, b]) = (kindD a && countD b) := rfl
        rw [e] at kk
        cases hk : kindD a with
        | false =>
          rw [hk] at kk
          exact iteT kk
        | true =>
          rw [hk] at kk
          refine iteF ⟨_, rfl, p, _, _, _, rfl, rfl, same_seqT s1 q, rfl, rfl, _, rfl, ?_⟩
          have hb' := dp_same s1 hb
          cases hb' with
          | non => exact iteT kk
          | int i => exact iteF ⟨_, rfl, p, _, _, _, rfl, rfl, same_seqT s1 q, rfl, _, _, 1, rfl, .int i, kk⟩
          | bl b => exact iteF ⟨_, rfl, p, _, _, _, rfl, rfl, same_seqT s1 q, rfl, _, _, 1, rfl, .bl b, kk⟩
          | str x => exact iteF ⟨_, rfl, p, _, _, _, rfl, rfl, same_seqT s1 q, rfl, _, _, 1, rfl, .str x, kk⟩
          | lst q2 r => exact iteF ⟨_, rfl, p, _, _, _, rfl, rfl, same_seqT s1 q, rfl, _, _, 1, rfl, .lst q2 r, kk⟩
          | tup q2 r => exact iteF ⟨_, rfl, p, _, _, _, rfl, rfl, same_seqT s1 q, rfl, _, _, 1, rfl, .tup q2 r, kk⟩
end
end Vk
namespace Vk
open PySem PySem.Spec PyProof.Rows L2
abbrev sRuleInit : Stmt := inClass (top 3) 0
section
variable {P : Program} {w : World} {K : PySem.W.Frag} {mg : Str → Option Value} {base : Heap}
theorem scRuleInit : FnScope ["self", "place"] ["self", "place"] (defScope sRuleInit) := ⟨rfl, rfl, rfl, by decide +kernel, rfl, by decide +kernel, by decide +kernel⟩
theorem ok_ruleInit {C fI : Addr} {fd : FuncData} (F : Fun K "__init__" "NoRule.__init__" sRuleInit fI fd) (T : OexC K C) (no : PySem.W.findIn K (.ref C) "place" = some none) : FnOk P w K mg base CX0 1 fI fd ["self", "place"] (spIni C "place") := by
  refine F.ok scRuleInit (fun vs H Q E h => ?_) (fun cdv A outer s H vs Q E hr h => ?_)
  · obtain ⟨a, v, rfl, _⟩ := h
    rfl
  · obtain ⟨a, v, rfl, ha, k⟩ := h
    refine ⟨_, pss_one (ps_ost (pv 0) (pv 1)), ?_⟩
    exact ⟨_, rfl, _, rfl, a, C, rfl, T, no, .inl ⟨ha, fun dx n1 n2 => k dx n1 n2⟩⟩
theorem erc_rule {C : Addr} (g : mg "NoRule" = some (.ref C)) (T : OexC K C) (no : PySem.W.findIn K (.ref C) "place" = some none) (N : Nit K "NoRule" "NoRule.__init__" "place" sRuleInit C) : ErC P w K mg base "NoRule" "place" C := by
  obtain ⟨fI, fd, h1, h2, h3, h4⟩ := N.ex
  exact ⟨g, T, fI, fd, h1, h2, h4, ok_ruleInit h3 T no⟩
end
end Vk
namespace Vk
open PySem PySem.Spec PyProof.Rows L2
/-- the place of the first fault of a rule -/
def rulePlace : PyData → Option Int
  | .tuple [.tuple ls, b] => if 1 ≤ ls.length ∧ ls.length ≤ 6 then (match ls.findIdx? (fun d => !levelD d) with
    | some i => some (i : Int)
    | none => if countD b = true then none else some (ls.length : Int)) else some 0
  | _ => some 0
def goodHeads : PyData → Bool
  | .tuple [.tuple ls, _] => ls.all headD
  | _ => true
theorem place_two {d : PyData} (h : tupleND 2 d = false) : rulePlace d = some 0 := by
  cases d with
  | tuple ds =>
    have z : ¬ (ds.length : Int) = 2 := of_decide_eq_false h
    match ds, z with
    | [a, b], z => exact absurd rfl z
    | [], _ => rfl
    | [_], _ => simp [rulePlace]
    | _ :: _ :: _ :: l, _ => simp [rulePlace]
  | _ => rfl
theorem place_tup {a b : PyData} (h : isTupD a = false) : rulePlace (.tuple [a, b]) = some 0 := by
  cases a with
  | tuple ds => cases h
  | _ => rfl
theorem bad_at {ls : List PyData} {i : Nat} {d : PyData} (h : ls[i]? = some d) (hd : levelD d = false) (ok : ∀ j < i, ∀ e, ls[j]? = some e → levelD e = true) : ls.findIdx? (fun d => !levelD d) = some i := by
  rw [List.findIdx?_eq_some_iff_getElem]
  obtain ⟨h1, h2⟩ := List.getElem?_eq_some_iff.mp h
  refine ⟨h1, by rw [h2, hd]; rfl, fun j hj => ?_⟩
  have z := ok j hj ls[j] (List.getElem?_eq_getElem (by omega))
  rw [z]
  decide
theorem bad_no {ls : List PyData} (ok : ∀ j < ls.length, ∀ e, ls[j]? = some e → levelD e = true) : ls.findIdx? (fun d => !levelD d) = none := by
  rw [List.findIdx?_eq_none_iff]
  intro x hx
  obtain ⟨j, hj, e⟩ := List.getElem_of_mem hx
  have z := ok j hj x (by rw [List.getElem?_eq_getElem hj, e])
  rw [z]
  rfl
section
variable {P : Program} {w : World} {K : PySem.W.Frag} {mg : Str → Option Value} {base : Heap}
def spCheck (K : PySem.W.Frag) (C : Addr) : Sp := fun vs H Q E => ∃ (v : V) (d : PyData), vs = [v] ∧ Dp K H v d ∧ goodHeads d = true ∧ (rulePlace d = none → ∀ H', Same H H' → Q .non H') ∧
  (∀ p, rulePlace d = some p → ∀ (dx : Addr) (H' : Hp), Same H H' → H' dx = some (.xd [("place", .int p)]) → E (.ref C) (some dx) H')
theorem scCheck : FnScope ["rule", "levels", "boost", "place", "level"] ["rule"] (defScope sCheck) := ⟨rfl, rfl, rfl, by decide +kernel, rfl, by decide +kernel, by decide +kernel⟩
theorem ok_check {C : Addr} (D : Df K mg "check_rule" sCheck ["rule"]) (B : Blt mg) (M : ∃ u, mg "MOST_LEVELS" = some u ∧ RelV (.int 6) u) (ER : ErC P w K mg base "NoRule" "place" C) (T : Cl P w K mg base CX0 1 "is_tuple_of" ["value", "many"] (spTupleOf K))
    (L : Cl P w K mg base CX0 3 "is_level" ["level"] (spLevel K)) (CN : Cl P w K mg base CX0 2 "is_count" ["value"] (spCount K)) : Cl P w K mg base (L2.CX P w) 4 "check_rule" ["rule"] (spCheck K C) := by
  refine clX D scCheck (fun vs H Q E h => ?_) (fun f cdv A outer s H vs Q E hr h => ?_)
  · obtain ⟨v, d, rfl, _⟩ := h
    rfl
  · obtain ⟨v, d, rfl, hd, gh, kN, kE⟩ := h
    obtain ⟨mu, mm, mr⟩ := M
    refine ⟨_, pss_cons (ps_if (pt_not (pt_val (pc T hr (by decide) (pa_cons (pv 0) (pa_cons pe_int pa_nil))))) (pss_one (ps_raiseE ER rfl hr (by decide) (takes_of rfl rfl rfl rfl) pe_int)) pss_nil)
      (pss_cons (ps_asg (pv 0) (pg_tup rfl (pgs_cons (pg_name (i := 1) scCheck.nd rfl (.inl rfl)) (pgs_cons (pg_name (i := 2) scCheck.nd rfl (.inl rfl)) pgs_nil))))
      (pss_cons (ps_if (PW.pt (pw_or (pt_not (pt_val (pe_callB call_isi (by rfl) B.isi (by decide +kernel) (pa_cons (pv 1) (pa_cons (pe_bltn (v := .ty "tuple") (u := .type "tuple") (by rfl) B.tuple (by decide +kernel) rfl) pa_nil))))) (pw_or1 (pt_not (pt_chain op_le op_le pe_int (pe_callB call_len_seq (by rfl) B.len PySem.boot_len (pa_cons (pv 1) pa_nil)) (pe_glob rfl mm mr))))))
        (pss_one (ps_raiseE ER rfl hr (by decide) (takes_of rfl rfl rfl rfl) pe_int)) pss_nil)
      (pss_cons (ps_for (passes_of rfl) rfl (pi_enumT B.enum (pa_cons (pv 1) pa_nil)) (pg_tup rfl (pgs_cons (pg_name (i := 3) scCheck.nd rfl (.inl rfl)) (pgs_cons (pg_name (i := 4) scCheck.nd rfl (.inl rfl)) pgs_nil)))
        (pss_one (ps_if (pt_not (pt_val (pc L hr (by decide) (pa_cons (pv 4) pa_nil)))) (pss_one (ps_raiseE ER rfl hr (by decide) (takes_of rfl rfl rfl rfl) (pv 3))) pss_nil)))
      (pss_one (ps_if (pt_not (pt_val (pc CN hr (by decide) (pa_cons (pv 2) pa_nil)))) (pss_one (ps_raiseE ER rfl hr (by decide) (takes_of rfl rfl rfl rfl) (pe_callB call_len_seq (by rfl) B.len PySem.boot_len (pa_cons (pv 1) pa_nil)))) pss_nil))))), ?_⟩
    refine ⟨_, rfl, v, d, 2, rfl, hd, _, rfl, ?_⟩
    cases ht : tupleND 2 d with
    | false =>
      refine iteT ?_
      exact raise_go fun dx H2 s1 _ hx => kE 0 (place_two ht) dx H2 s1 hx
    | true =>
      obtain ⟨a, b, rfl⟩ := level_two ht
      obtain ⟨p, x, y, rfl, q, ha, hb⟩ := dp_two hd
      refine iteF ?_
      -- levels, boost = rule
      refine ⟨_, rfl, p, _, rfl, q, rfl, _, _, rfl, _, _, rfl, rfl, ?_⟩
      refine ⟨_, rfl, x, _, _, _, _, rfl, .ty "tuple", dp_ty ha, kit_tup ha, _, rfl, ?_⟩
      cases hta : isTupD a with
      | false =>
        refine iteT ?_
        refine iteT ?_
        exact raise_go fun dx H2 s1 _ hx => kE 0 (place_tup hta) dx H2 s1 hx
      | true =>
        obtain ⟨ls, rfl⟩ : ∃ ls, a = .tuple ls := by
          cases a with
          | tuple ls => exact ⟨ls, rfl⟩
          | _ => cases hta
        obtain ⟨pl, xs, rfl, ql, rl⟩ := dp_tuple ha
        have ll := dps_len rl
        refine iteF ?_
        -- 1 <= len(levels) <= 6
        refine ⟨_, rfl, pl, xs, rfl, .inr ql, _, _, rfl, rfl, _, rfl, ?_⟩
        have small : rulePlace (.tuple [.tuple ls, b]) = some 0 ∨ (1 ≤ ls.length ∧ ls.length ≤ 6) := by
          by_cases z : 1 ≤ ls.length ∧ ls.length ≤ 6
          · exact .inr z
          · refine .inl ?_
            simp only [rulePlace]
            rw [if_neg z]
        have noSmall : ¬ (1 ≤ ls.length ∧ ls.length ≤ 6) → rulePlace (.tuple [.tuple ls, b]) = some 0 := fun z => by
          rcases small with h | h
          · exact h
          · exact absurd h z
        have loop : ∀ H1 : Hp, 1 ≤ ls.length → ls.length ≤ 6 → True := fun _ _ _ => trivial
        refine ite2 (fun z1 => ?_) (fun z1 => ?_)
        case refine_2 =>
          have n1 : ¬ (1 ≤ ls.length) := fun y => z1 (decide_eq_true (by omega))
          refine ⟨_, rfl, iteT ?_⟩
          exact raise_go fun dx H2 s1 _ hx => kE 0 (noSmall fun y => n1 y.1) dx H2 s1 hx
        refine ⟨_, _, rfl, rfl, _, rfl, ?_⟩
        by_cases n6 : ls.length ≤ 6
        case neg =>
          rw [decide_eq_false (show ¬ ((xs.length : Nat) : Int) ≤ 6 by omega)]
          refine iteT ?_
          exact raise_go fun dx H2 s1 _ hx => kE 0 (noSmall fun y => n6 y.2) dx H2 s1 hx
        rw [decide_eq_true (show ((xs.length : Nat) : Int) ≤ 6 by omega)]
        refine iteF ?_
        have n1 : 1 ≤ ls.length := by
          have z := of_decide_eq_true z1
          omega
        -- for place, level in enumerate(levels)
        refine ⟨_, rfl, pl, xs, rfl, ql, for_it (walk_enumT (K := K) (a := pl) (xs := xs)) (fun i σ H' => ∃ (u1 u2 : Option V), σ = [some (.ref p), some (.ref pl), some y, u1, u2] ∧ Same H H' ∧ ∀ j < i, ∀ e, ls[j]? = some e → levelD e = true)
          ⟨none, none, rfl, Same.refl H, fun j hj => absurd hj (Nat.not_lt_zero _)⟩ (fun i σ H' _ ⟨_, _, _, s1, _⟩ => same_seqT s1 ql) ?_ ?_⟩
        · rintro i v1 σ H1 H2 hi ⟨u1, u2, rfl, s1, okl⟩ ⟨TT, x1, y1, rfl, nT, rfl, ex, ey⟩
          cases ex
          obtain ⟨d1, hd1, dp1⟩ := dps_getV rl ey
          have s2 := s1.trans (same_new (o := .tup [V.int (i : Nat), y1]) nT)
          refine ⟨TT, _, rfl, SqT.of upd_same, rfl, _, _, rfl, _, _, rfl, rfl, ?_⟩
          have hh : headD d1 = true := List.all_eq_true.mp gh d1 (List.mem_of_getElem? hd1)
          refine ⟨_, rfl, y1, d1, rfl, dp_same s2 dp1, hh, fun H3 s3 => ⟨_, rfl, ?_⟩⟩
          cases hl : levelD d1 with
          | true =>
            refine iteF ?_
            refine ⟨_, _, rfl, s2.trans s3, fun j hj e he => ?_⟩
            by_cases z : j = i
            · subst z
              rw [hd1] at he
              cases he
              exact hl
            · exact okl j (by omega) e he
          | false =>
            refine iteT ⟨_, rfl, ?_⟩
            refine raise_go fun dx H4 s4 _ hx => kE (i : Int) ?_ dx H4 ((s2.trans s3).trans s4) hx
            simp only [rulePlace]
            rw [if_pos ⟨n1, n6⟩, bad_at hd1 hl okl]
        · rintro σ H1 ⟨u1, u2, rfl, s1, okl⟩
          have none1 := bad_no (ls := ls) (fun j hj => okl j (by omega))
          have pl1 : rulePlace (.tuple [.tuple ls, b]) = if countD b = true then none else some (ls.length : Int) := by
            simp only [rulePlace]
            rw [if_pos ⟨n1, n6⟩, none1]
          refine ⟨_, rfl, y, b, rfl, dp_same s1 hb, _, rfl, ?_⟩
          cases hc : countD b with
          | true =>
            rw [hc] at pl1
            exact iteF (kN pl1 _ s1)
          | false =>
            rw [hc] at pl1
            refine iteT ⟨_, rfl, pl, xs, rfl, .inr (same_seqT s1 ql), ?_⟩
            refine raise_go fun dx H4 s4 _ hx => kE (ls.length : Int) pl1 dx H4 (s1.trans s4) ?_
            rw [← ll]
            exact hx
end
end Vk
namespace Vk
open PySem PySem.Spec PyProof.Rows L2
def placeV : Option Int → V
  | none => .non
  | some p => .int p
section
variable {P : Program} {w : World} {K : PySem.W.Frag} {mg : Str → Option Value} {base : Heap}
def spFault (K : PySem.W.Frag) : Sp := fun vs H Q _ => ∃ (v : V) (d : PyData), vs = [v] ∧ Dp K H v d ∧ goodHeads d = true ∧ ∀ H', Same H H' → Q (placeV (rulePlace d)) H'
theorem scFault : FnScope ["value", "levels", "boost", "place", "level"] ["value"] (defScope sFault) := ⟨rfl, rfl, rfl, by decide +kernel, rfl, by decide +kernel, by decide +kernel⟩
theorem ok_fault (D : Df K mg "_law_fault" sFault ["value"]) (B : Blt mg) (L : Cl P w K mg base CX0 2 "_law_is_level" ["level"] (spLevel K)) (I : Cl P w K mg base CX0 1 "_law_is_int" ["value", "least"] (spInteger K)) : Cl P w K mg base CX0 3 "_law_fault" ["value"] (spFault K) := by
  refine cl0 D scFault (fun vs H Q E h => ?_) (fun f cdv A outer s H vs Q E hr h => ?_)
  · obtain ⟨v, d, rfl, _⟩ := h
    rfl
  · obtain ⟨v, d, rfl, hd, gh, k⟩ := h
    refine ⟨_, pss_cons (ps_if (PW.pt (pw_or (pt_not (pt_val (pe_callB call_isi (by rfl) B.isi (by decide +kernel) (pa_cons (pv 0) (pa_cons (pe_bltn (v := .ty "tuple") (u := .type "tuple") (by rfl) B.tuple (by decide +kernel) rfl) pa_nil))))) (pw_or1 (pt_cmpR op_ne (pe_callB call_len_seq (by rfl) B.len PySem.boot_len (pa_cons (pv 0) pa_nil)) pe_int (nomark _))))) (pss_one (ps_ret pe_int)) pss_nil)
      (pss_cons (ps_asg (pv 0) (pg_tup rfl (pgs_cons (pg_name (i := 1) scFault.nd rfl (.inl rfl)) (pgs_cons (pg_name (i := 2) scFault.nd rfl (.inl rfl)) pgs_nil))))
      (pss_cons (ps_if (PW.pt (pw_or (pt_not (pt_val (pe_callB call_isi (by rfl) B.isi (by decide +kernel) (pa_cons (pv 1) (pa_cons (pe_bltn (v := .ty "tuple") (u := .type "tuple") (by rfl) B.tuple (by decide +kernel) rfl) pa_nil))))) (pw_or1 (pt_not (pt_chain op_le op_le pe_int (pe_callB call_len_seq (by rfl) B.len PySem.boot_len (pa_cons (pv 1) pa_nil)) pe_int)))))
        (pss_one (ps_ret pe_int)) pss_nil)
      (pss_cons (ps_for PassesOwn.never rfl (pi_enumT B.enum (pa_cons (pv 1) pa_nil)) (pg_tup rfl (pgs_cons (pg_name (i := 3) scFault.nd rfl (.inl rfl)) (pgs_cons (pg_name (i := 4) scFault.nd rfl (.inl rfl)) pgs_nil)))
        (pss_one (ps_if (pt_not (pt_val (pc L hr (by decide) (pa_cons (pv 4) pa_nil)))) (pss_one (ps_ret (pv 3))) pss_nil)))
      (pss_cons (ps_if (PW.pt (pw_or (pt_cmpR op_isN (pv 2) pe_non (nomark _)) (pw_or1 (pt_val (pc I hr (by decide) (pa_cons (pv 2) (pa_cons pe_int pa_nil))))))) (pss_one (ps_ret pe_non)) pss_nil)
      (pss_one (ps_ret (pe_callB call_len_seq (by rfl) B.len PySem.boot_len (pa_cons (pv 1) pa_nil)))))))), ?_⟩
    have zero : rulePlace d = some 0 → ∀ H', Same H H' → Q (.int 0) H' := fun e H' s1 => by
      have z := k H' s1
      rw [e] at z
      exact z
    refine ⟨_, rfl, v, _, _, _, _, rfl, .ty "tuple", dp_ty hd, kit_tup hd, _, rfl, ?_⟩
    by_cases htup : isTupD d = true
    case neg =>
      have e1 : isTupD d = false := Bool.eq_false_iff.mpr htup
      have e2 : rulePlace d = some 0 := by
        cases d with
        | tuple ds => exact absurd rfl htup
        | _ => rfl
      rw [e1]
      exact iteT (iteT (zero e2 H (Same.refl H)))
    rw [htup]
    refine iteF ?_
    obtain ⟨ds, rfl⟩ : ∃ ds, d = .tuple ds := by
      cases d with
      | tuple ls => exact ⟨ls, rfl⟩
      | _ => cases htup
    cases ht : tupleND 2 (.tuple ds) with
    | false =>
      obtain ⟨p, xs0, rfl, q0, r0⟩ := dp_tuple hd
      have z : ¬ (ds.length : Int) = 2 := of_decide_eq_false ht
      refine ⟨_, rfl, p, xs0, rfl, .inr q0, rfl, _, rfl, ?_⟩
      have e3 : (!decide (V.int (xs0.length : Nat) = V.int 2)) = true := by
        rw [decide_eq_false (fun y => z (by rw [← dps_len r0]; exact V.int.inj y))]
        rfl
      rw [e3]
      exact iteT (zero (place_two ht) H (Same.refl H))
    | true =>
      obtain ⟨a, b, e4⟩ := level_two ht
      cases e4
      obtain ⟨p, x, y, rfl, q, ha, hb⟩ := dp_two hd
      refine ⟨_, rfl, p, _, rfl, .inr q, rfl, _, rfl, iteF ?_⟩
      refine ⟨_, rfl, p, _, rfl, q, rfl, _, _, rfl, _, _, rfl, rfl, ?_⟩
      refine ⟨_, rfl, x, _, _, _, _, rfl, .ty "tuple", dp_ty ha, kit_tup ha, _, rfl, ?_⟩
      cases hta : isTupD a with
      | false => exact iteT (iteT (zero (place_tup hta) H (Same.refl H)))
      | true =>
        obtain ⟨ls, rfl⟩ : ∃ ls, a = .tuple ls := by
          cases a with
          | tuple ls => exact ⟨ls, rfl⟩
          | _ => cases hta
        obtain ⟨pl, xs, rfl, ql, rl⟩ := dp_tuple ha
        have ll := dps_len rl
        refine iteF ?_
        have noSmall : ¬ (1 ≤ ls.length ∧ ls.length ≤ 6) → rulePlace (.tuple [.tuple ls, b]) = some 0 := fun z => by
          simp only [rulePlace]
          rw [if_neg z]
        refine ⟨_, rfl, pl, xs, rfl, .inr ql, _, _, rfl, rfl, _, rfl, ?_⟩
        refine ite2 (fun z1 => ?_) (fun z1 => ?_)
        case refine_2 =>
          have n1 : ¬ (1 ≤ ls.length) := fun y => z1 (decide_eq_true (by omega))
          exact ⟨_, rfl, iteT (zero (noSmall fun y => n1 y.1) H (Same.refl H))⟩
        refine ⟨_, _, rfl, rfl, _, rfl, ?_⟩
        by_cases n6 : ls.length ≤ 6
        case neg =>
          rw [decide_eq_false (show ¬ ((xs.length : Nat) : Int) ≤ 6 by omega)]
          exact iteT (zero (noSmall fun y => n6 y.2) H (Same.refl H))
        rw [decide_eq_true (show ((xs.length : Nat) : Int) ≤ 6 by omega)]
        refine iteF ?_
        have n1 : 1 ≤ ls.length := by
          have z := of_decide_eq_true z1
          omega
        refine ⟨_, rfl, pl, xs, rfl, ql, for_it (walk_enumT (K := K) (a := pl) (xs := xs)) (fun i σ H' => ∃ (u1 u2 : Option V), σ = [some (.ref p), some (.ref pl), some y, u1, u2] ∧ Same H H' ∧ ∀ j < i, ∀ e, ls[j]? = some e → levelD e = true)
          ⟨none, none, rfl, Same.refl H, fun j hj => absurd hj (Nat.not_lt_zero _)⟩ (fun i σ H' _ ⟨_, _, _, s1, _⟩ => same_seqT s1 ql) ?_ ?_⟩
        · rintro i v1 σ H1 H2 hi ⟨u1, u2, rfl, s1, okl⟩ ⟨TT, x1, y1, rfl, nT, rfl, ex, ey⟩
          cases ex
          obtain ⟨d1, hd1, dp1⟩ := dps_getV rl ey
          have s2 := s1.trans (same_new (o := .tup [V.int (i : Nat), y1]) nT)
          refine ⟨TT, _, rfl, SqT.of upd_same, rfl, _, _, rfl, _, _, rfl, rfl, ?_⟩
          have hh : headD d1 = true := List.all_eq_true.mp gh d1 (List.mem_of_getElem? hd1)
          refine ⟨_, rfl, y1, d1, rfl, dp_same s2 dp1, hh, fun H3 s3 => ⟨_, rfl, ?_⟩⟩
          cases hl : levelD d1 with
          | true =>
            refine iteF ?_
            refine ⟨_, _, rfl, s2.trans s3, fun j hj e he => ?_⟩
            by_cases z : j = i
            · subst z
              rw [hd1] at he
              cases he
              exact hl
            · exact okl j (by omega) e he
          | false =>
            refine iteT ⟨_, rfl, ?_⟩
            have pl0 : rulePlace (.tuple [.tuple ls, b]) = some (i : Int) := by
              simp only [rulePlace]
              rw [if_pos ⟨n1, n6⟩, bad_at hd1 hl okl]
            have z := k _ (s2.trans s3)
            rw [pl0] at z
            exact z
        · rintro σ H1 ⟨u1, u2, rfl, s1, okl⟩
          have none1 := bad_no (ls := ls) (fun j hj => okl j (by omega))
          have pl1 : rulePlace (.tuple [.tuple ls, b]) = if countD b = true then none else some (ls.length : Int) := by
            simp only [rulePlace]
            rw [if_pos ⟨n1, n6⟩, none1]
          have kk := k H1 s1
          rw [pl1] at kk
          refine ⟨_, rfl, rfl, _, rfl, ?_⟩
          have rest : b ≠ .none → integerD 1 b = countD b → ∀ y : V, Dp K H y b → (if integerD 1 b = true then Q .non H1 else Q (.int (xs.length : Nat)) H1) := fun _ e _ _ => by
            rw [e, ll]
            cases hc : countD b with
            | true =>
              rw [hc] at kk
              exact iteT kk
            | false =>
              rw [hc] at kk
              exact iteF kk
          cases hb with
          | non => exact iteT kk
          | int i => exact iteF ⟨_, rfl, _, _, 1, rfl, .int i, _, rfl, ite2 (fun z => by have r := rest (fun z => nomatch z) rfl _ (.int i); rw [if_pos z] at r; exact r) (fun z => ⟨_, rfl, pl, xs, rfl, .inr (same_seqT s1 ql), by have r := rest (fun z => nomatch z) rfl _ (.int i); rw [if_neg z] at r; exact r⟩)⟩
          | bl b => exact iteF ⟨_, rfl, _, _, 1, rfl, .bl b, _, rfl, iteF ⟨_, rfl, pl, xs, rfl, .inr (same_seqT s1 ql), rest (fun z => nomatch z) rfl _ (.bl b)⟩⟩
          | str x => exact iteF ⟨_, rfl, _, _, 1, rfl, .str x, _, rfl, iteF ⟨_, rfl, pl, xs, rfl, .inr (same_seqT s1 ql), rest (fun z => nomatch z) rfl _ (.str x)⟩⟩
          | lst q2 r2 => exact iteF ⟨_, rfl, _, _, 1, rfl, .lst (s1.seq q2) (dps_same s1 r2), _, rfl, iteF ⟨_, rfl, pl, xs, rfl, .inr (same_seqT s1 ql), rest (fun z => nomatch z) rfl _ (.lst q2 r2)⟩⟩
          | tup q2 r2 => exact iteF ⟨_, rfl, _, _, 1, rfl, .tup (same_seqT s1 q2) (dps_same s1 r2), _, rfl, iteF ⟨_, rfl, pl, xs, rfl, .inr (same_seqT s1 ql), rest (fun z => nomatch z) rfl _ (.tup q2 r2)⟩⟩
end
end Vk
namespace Vk
open PySem PySem.Spec PyProof.Rows L2
/-- the truth of the twelve questions, for the class with number i -/
def bits (i : Nat) : List V := (List.range 12).map fun j => V.bl (decide (j = i))
def words7 : List Str := ["jobs", "rule", "lengths", "log", "marks", "named", "order"]
theorem bits_len (i : Nat) : (bits i).length = 12 := by simp [bits]
theorem bits_get {i m : Nat} (h : m < 12) : (bits i)[m]? = some (V.bl (decide (m = i))) := by
  unfold bits
  rw [List.getElem?_map, List.getElem?_range h]
  rfl
theorem bits_flat (i : Nat) : (bits i).all flatV = true := by
  unfold bits
  rw [List.all_eq_true]
  intro x hx
  obtain ⟨j, _, rfl⟩ := List.mem_map.mp hx
  rfl
theorem bits_cnt : ∀ i : Fin 12, (bits i.1).countP (fun z => eqV z (.bl true)) = 1 := by decide +kernel
structure Kn (K : PySem.W.Frag) (mg : Str → Option Value) (C : Addr) (i : Nat) : Prop where
  ex : ExcC K C
  xf : XfC K C
  noP : PySem.W.findIn K (.ref C) "place" = some none
  ve : mg "ValueError" = none
  kv : PySem.W.kitOne K (.ref C) (.type "ValueError") = some true
  se : ∃ S, mg "SlotError" = some (.ref S) ∧ PySem.W.kitOne K (.ref C) (.ref S) = some true ∧ PySem.W.exmOne K (.ref C) (.ref S) = some true
  c0 : ∃ D, mg "NoJobs" = some (.ref D) ∧ PySem.W.kitOne K (.ref C) (.ref D) = some (decide (0 = i))
  c1 : ∃ D, mg "NoRule" = some (.ref D) ∧ PySem.W.kitOne K (.ref C) (.ref D) = some (decide (1 = i))
  c2 : ∃ D, mg "NoLengths" = some (.ref D) ∧ PySem.W.kitOne K (.ref C) (.ref D) = some (decide (2 = i))
  c3 : ∃ D, mg "NoLog" = some (.ref D) ∧ PySem.W.kitOne K (.ref C) (.ref D) = some (decide (3 = i))
  c4 : ∃ D, mg "NoMarks" = some (.ref D) ∧ PySem.W.kitOne K (.ref C) (.ref D) = some (decide (4 = i))
  c5 : ∃ D, mg "NoNamed" = some (.ref D) ∧ PySem.W.kitOne K (.ref C) (.ref D) = some (decide (5 = i))
  c6 : ∃ D, mg "NoOrder" = some (.ref D) ∧ PySem.W.kitOne K (.ref C) (.ref D) = some (decide (6 = i))
  c7 : ∃ D, mg "NoText" = some (.ref D) ∧ PySem.W.kitOne K (.ref C) (.ref D) = some (decide (7 = i))
  c8 : ∃ D, mg "NoNumber" = some (.ref D) ∧ PySem.W.kitOne K (.ref C) (.ref D) = some (decide (8 = i))
  c9 : ∃ D, mg "NoName" = some (.ref D) ∧ PySem.W.kitOne K (.ref C) (.ref D) = some (decide (9 = i))
  c10 : ∃ D, mg "NoUndo" = some (.ref D) ∧ PySem.W.kitOne K (.ref C) (.ref D) = some (decide (10 = i))
  c11 : ∃ D, mg "NoLine" = some (.ref D) ∧ PySem.W.kitOne K (.ref C) (.ref D) = some (decide (11 = i))
section
variable {P : Program} {w : World} {K : PySem.W.Frag} {mg : Str → Option Value} {base : Heap}
def spKind (C : Addr) (i : Nat) : Sp := fun vs H Q _ => ∃ (a dd : Addr) (v : V), vs = [.ref a] ∧ H a = some (Xco a (.ref C) (some dd)) ∧ H dd = some (.xd [(("place" : Str), v)]) ∧
  ∀ (t : Addr) (H' : Hp), Same H H' → H' t = some (.tup [.str (words7.getD i ""), v]) → Q (.ref t) H'
theorem scKind : FnScope ["caught", "kinds", "at"] ["caught"] (defScope sKind) := ⟨rfl, rfl, rfl, by decide +kernel, rfl, by decide +kernel, by decide +kernel⟩
theorem ok_kind {C : Addr} {i : Nat} (hi : i < 7) (D : Df K mg "_law_kind" sKind ["caught"]) (B : Blt mg) (N : Kn K mg C i) : Cl P w K mg base CX0 1 "_law_kind" ["caught"] (spKind C i) := by
  refine cl0 D scKind (fun vs H Q E h => ?_) (fun f cdv A outer s H vs Q E hr h => ?_)
  · obtain ⟨a, dd, v, rfl, _⟩ := h
    rfl
  · obtain ⟨a, dd, v, rfl, ha, hdd, k⟩ := h
    obtain ⟨S, mS, kS, _⟩ := N.se
    obtain ⟨D0, m0, k0⟩ := N.c0
    obtain ⟨D1, m1, k1⟩ := N.c1
    obtain ⟨D2, m2, k2⟩ := N.c2
    obtain ⟨D3, m3, k3⟩ := N.c3
    obtain ⟨D4, m4, k4⟩ := N.c4
    obtain ⟨D5, m5, k5⟩ := N.c5
    obtain ⟨D6, m6, k6⟩ := N.c6
    obtain ⟨D7, m7, k7⟩ := N.c7
    obtain ⟨D8, m8, k8⟩ := N.c8
    obtain ⟨D9, m9, k9⟩ := N.c9
    obtain ⟨D10, m10, k10⟩ := N.c10
    obtain ⟨D11, m11, k11⟩ := N.c11
    refine ⟨_, pss_cons (ps_set (i := 1) scKind.nd rfl (Or.inl rfl) (pe_lst (pa_cons (pe_callB call_isX (by rfl) B.isi (by decide +kernel) (pa_cons (pv 0) (pa_cons (pe_glob rfl m0 (show RelV (.ref _) _ from rfl)) pa_nil))) (pa_cons (pe_callB call_isX (by rfl) B.isi (by decide +kernel) (pa_cons (pv 0) (pa_cons (pe_glob rfl m1 (show RelV (.ref _) _ from rfl)) pa_nil))) (pa_cons (pe_callB call_isX (by rfl) B.isi (by decide +kernel) (pa_cons (pv 0) (pa_cons (pe_glob rfl m2 (show RelV (.ref _) _ from rfl)) pa_nil))) pa_nil)))))
      (pss_cons (ps_set (i := 1) scKind.nd rfl (Or.inl rfl) (pe_op op_cat (pv 1) (pe_lst (pa_cons (pe_callB call_isX (by rfl) B.isi (by decide +kernel) (pa_cons (pv 0) (pa_cons (pe_glob rfl m3 (show RelV (.ref _) _ from rfl)) pa_nil))) (pa_cons (pe_callB call_isX (by rfl) B.isi (by decide +kernel) (pa_cons (pv 0) (pa_cons (pe_glob rfl m4 (show RelV (.ref _) _ from rfl)) pa_nil))) (pa_cons (pe_callB call_isX (by rfl) B.isi (by decide +kernel) (pa_cons (pv 0) (pa_cons (pe_glob rfl m5 (show RelV (.ref _) _ from rfl)) pa_nil))) pa_nil))))))
      (pss_cons (ps_set (i := 1) scKind.nd rfl (Or.inl rfl) (pe_op op_cat (pv 1) (pe_lst (pa_cons (pe_callB call_isX (by rfl) B.isi (by decide +kernel) (pa_cons (pv 0) (pa_cons (pe_glob rfl m6 (show RelV (.ref _) _ from rfl)) pa_nil))) (pa_cons (pe_callB call_isX (by rfl) B.isi (by decide +kernel) (pa_cons (pv 0) (pa_cons (pe_glob rfl m7 (show RelV (.ref _) _ from rfl)) pa_nil))) (pa_cons (pe_callB call_isX (by rfl) B.isi (by decide +kernel) (pa_cons (pv 0) (pa_cons (pe_glob rfl m8 (show RelV (.ref _) _ from rfl)) pa_nil))) pa_nil))))))
      (pss_cons (ps_set (i := 1) scKind.nd rfl (Or.inl rfl) (pe_op op_cat (pv 1) (pe_lst (pa_cons (pe_callB call_isX (by rfl) B.isi (by decide +kernel) (pa_cons (pv 0) (pa_cons (pe_glob rfl m9 (show RelV (.ref _) _ from rfl)) pa_nil))) (pa_cons (pe_callB call_isX (by rfl) B.isi (by decide +kernel) (pa_cons (pv 0) (pa_cons (pe_glob rfl m10 (show RelV (.ref _) _ from rfl)) pa_nil))) (pa_cons (pe_callB call_isX (by rfl) B.isi (by decide +kernel) (pa_cons (pv 0) (pa_cons (pe_glob rfl m11 (show RelV (.ref _) _ from rfl)) pa_nil))) pa_nil))))))
      (pss_cons (ps_if (PW.pt (pw_or (pt_not (pt_val (pe_callB call_isX (by rfl) B.isi (by decide +kernel) (pa_cons (pv 0) (pa_cons (pe_glob rfl mS (show RelV (.ref _) _ from rfl)) pa_nil))))) (pw_or (pt_not (pt_val (pe_callB call_isX (by rfl) B.isi (by decide +kernel) (pa_cons (pv 0) (pa_cons (pe_bltn (v := .ty "ValueError") (u := .type "ValueError") (by rfl) N.ve (by decide +kernel) rfl) pa_nil)))))
        (pw_or1 (pt_cmpR op_ne (pe_bm PySem.F.plainAttrs_list PySem.F.slot_list_count PySem.F.type_list_count mt_countV (pv 1) (pa_cons pe_bl pa_nil)) pe_int (nomark _)))))) (pss_one (ps_ret (pe_tup (pa_cons pe_str (pa_cons pe_int pa_nil))))) pss_nil)
      (pss_cons (ps_set (i := 2) scKind.nd rfl (Or.inl rfl) (pe_bm PySem.F.plainAttrs_list PySem.F.slot_list_index PySem.F.type_list_index mt_index (pv 1) (pa_cons pe_bl pa_nil)))
      (pss_cons (ps_if (pt_cmpR op_lt (pv 2) pe_int (nomark _)) (pss_one (ps_ret (pe_tup (pa_cons (pe_ix ix_list (pe_lst (pa_cons pe_str (pa_cons pe_str (pa_cons pe_str (pa_cons pe_str (pa_cons pe_str (pa_cons pe_str (pa_cons pe_str pa_nil)))))))) (pv 2) (fun _ _ => rfl)) (pa_cons (pe_xp (pv 0)) pa_nil))))) pss_nil)
      (pss_cons ps_never (pss_cons ps_never (pss_cons ps_never (pss_one ps_never)))))))))), ?_⟩
    refine ⟨_, rfl, a, C, some dd, _, _, _, rfl, (Same.refl H) _ _ ha, (fun d2 e2 => by cases e2; exact ⟨_, (Same.refl H) _ _ hdd⟩), N.ex, .own _, k0,
      _, rfl, a, C, some dd, _, _, _, rfl, (Same.refl H) _ _ ha, (fun d2 e2 => by cases e2; exact ⟨_, (Same.refl H) _ _ hdd⟩), N.ex, .own _, k1,
      _, rfl, a, C, some dd, _, _, _, rfl, (Same.refl H) _ _ ha, (fun d2 e2 => by cases e2; exact ⟨_, (Same.refl H) _ _ hdd⟩), N.ex, .own _, k2, (by show 3 ≤ sizeLine; decide), fun p1 n1 => ?_⟩
    have s1 := same_new (o := .lst [.bl (decide (0 = i)), .bl (decide (1 = i)), .bl (decide (2 = i))]) n1
    refine ⟨_, rfl, _, rfl, a, C, some dd, _, _, _, rfl, s1 _ _ ha, (fun d2 e2 => by cases e2; exact ⟨_, s1 _ _ hdd⟩), N.ex, .own _, k3,
      _, rfl, a, C, some dd, _, _, _, rfl, s1 _ _ ha, (fun d2 e2 => by cases e2; exact ⟨_, s1 _ _ hdd⟩), N.ex, .own _, k4,
      _, rfl, a, C, some dd, _, _, _, rfl, s1 _ _ ha, (fun d2 e2 => by cases e2; exact ⟨_, s1 _ _ hdd⟩), N.ex, .own _, k5, (by show 3 ≤ sizeLine; decide), fun q1 m1' => ?_⟩
    have t1 := same_new (o := .lst [.bl (decide (3 = i)), .bl (decide (4 = i)), .bl (decide (5 = i))]) m1'
    refine ⟨p1, q1, _, _, rfl, rfl, t1 _ _ upd_same, upd_same, (by show 3 + 3 ≤ sizeLine; decide), fun p2 n2 => ?_⟩
    have s2 := (s1.trans t1).trans (same_new (o := .lst ([.bl (decide (0 = i)), .bl (decide (1 = i)), .bl (decide (2 = i))] ++ [.bl (decide (3 = i)), .bl (decide (4 = i)), .bl (decide (5 = i))])) n2)
    refine ⟨_, rfl, _, rfl, a, C, some dd, _, _, _, rfl, s2 _ _ ha, (fun d2 e2 => by cases e2; exact ⟨_, s2 _ _ hdd⟩), N.ex, .own _, k6,
      _, rfl, a, C, some dd, _, _, _, rfl, s2 _ _ ha, (fun d2 e2 => by cases e2; exact ⟨_, s2 _ _ hdd⟩), N.ex, .own _, k7,
      _, rfl, a, C, some dd, _, _, _, rfl, s2 _ _ ha, (fun d2 e2 => by cases e2; exact ⟨_, s2 _ _ hdd⟩), N.ex, .own _, k8, (by show 3 ≤ sizeLine; decide), fun q2 m2' => ?_⟩
    have t2 := same_new (o := .lst [.bl (decide (6 = i)), .bl (decide (7 = i)), .bl (decide (8 = i))]) m2'
    refine ⟨p2, q2, _, _, rfl, rfl, t2 _ _ upd_same, upd_same, (by show 6 + 3 ≤ sizeLine; decide), fun p3 n3 => ?_⟩
    have s3 := (s2.trans t2).trans (same_new (o := .lst (([.bl (decide (0 = i)), .bl (decide (1 = i)), .bl (decide (2 = i))] ++ [.bl (decide (3 = i)), .bl (decide (4 = i)), .bl (decide (5 = i))]) ++ [.bl (decide (6 = i)), .bl (decide (7 = i)), .bl (decide (8 = i))])) n3)
    refine ⟨_, rfl, _, rfl, a, C, some dd, _, _, _, rfl, s3 _ _ ha, (fun d2 e2 => by cases e2; exact ⟨_, s3 _ _ hdd⟩), N.ex, .own _, k9,
      _, rfl, a, C, some dd, _, _, _, rfl, s3 _ _ ha, (fun d2 e2 => by cases e2; exact ⟨_, s3 _ _ hdd⟩), N.ex, .own _, k10,
      _, rfl, a, C, some dd, _, _, _, rfl, s3 _ _ ha, (fun d2 e2 => by cases e2; exact ⟨_, s3 _ _ hdd⟩), N.ex, .own _, k11, (by show 3 ≤ sizeLine; decide), fun q3 m3' => ?_⟩
    have t3 := same_new (o := .lst [.bl (decide (9 = i)), .bl (decide (10 = i)), .bl (decide (11 = i))]) m3'
    refine ⟨p3, q3, _, _, rfl, rfl, t3 _ _ upd_same, upd_same, (by show 9 + 3 ≤ sizeLine; decide), fun p4 n4 => ?_⟩
    have s4 := (s3.trans t3).trans (same_new (o := .lst ((([.bl (decide (0 = i)), .bl (decide (1 = i)), .bl (decide (2 = i))] ++ [.bl (decide (3 = i)), .bl (decide (4 = i)), .bl (decide (5 = i))]) ++ [.bl (decide (6 = i)), .bl (decide (7 = i)), .bl (decide (8 = i))]) ++ [.bl (decide (9 = i)), .bl (decide (10 = i)), .bl (decide (11 = i))])) n4)
    have e12 : ((([.bl (decide (0 = i)), .bl (decide (1 = i)), .bl (decide (2 = i))] ++ [.bl (decide (3 = i)), .bl (decide (4 = i)), .bl (decide (5 = i))]) ++ [.bl (decide (6 = i)), .bl (decide (7 = i)), .bl (decide (8 = i))]) ++ [.bl (decide (9 = i)), .bl (decide (10 = i)), .bl (decide (11 = i))]) = bits i := rfl
    refine ⟨_, rfl, a, C, some dd, _, _, _, rfl, s4 _ _ ha, (fun d2 e2 => by cases e2; exact ⟨_, s4 _ _ hdd⟩), N.ex, .own _, kS, _, rfl, iteF ?_⟩
    refine ⟨_, rfl, a, C, some dd, _, _, _, rfl, s4 _ _ ha, (fun d2 e2 => by cases e2; exact ⟨_, s4 _ _ hdd⟩), N.ex, .ty "ValueError", N.kv, _, rfl, iteF ?_⟩
    refine ⟨_, rfl, .inl ⟨rfl, _, SqL.of upd_same⟩, p4, _, _, rfl, rfl, SqL.of upd_same, rfl, ?_, ?_⟩
    · rw [e12]
      exact bits_flat i
    rw [e12]
    have ec : (bits i).countP (fun z => eqV z (.bl true)) = 1 := bits_cnt ⟨i, by omega⟩
    rw [ec]
    refine ⟨rfl, _, rfl, iteF ?_⟩
    refine ⟨_, rfl, .inl ⟨rfl, _, SqL.of upd_same⟩, p4, _, _, i, .bl (decide (i = i)), rfl, rfl, SqL.of upd_same, rfl, bits_flat i, bits_get (by omega), by rw [decide_eq_true rfl]; rfl, fun m z' hm hz => ?_, ?_⟩
    · rw [bits_get (by omega)] at hz
      cases hz
      rw [decide_eq_false (by omega)]
      rfl
    refine ⟨_, rfl, _, _, rfl, rfl, _, rfl, ?_⟩
    rw [decide_eq_true (show (i : Int) < 7 by omega)]
    refine iteT ⟨(by show 7 ≤ sizeLine; decide), fun l nl => ?_⟩
    have s5 := s4.trans (same_new (o := .lst (words7.map V.str)) nl)
    have ew : (words7.map V.str)[i]? = some (.str (words7.getD i "")) := by
      rw [List.getElem?_map, List.getD_eq_getElem?_getD]
      have hl : i < words7.length := hi
      rw [List.getElem?_eq_getElem hl]
      rfl
    refine ⟨_, rfl, l, _, _, _, rfl, rfl, SqL.of upd_same, atI_nat ew, _, rfl, a, C, dd, _, v, rfl, s5 _ _ ha, s5 _ _ hdd, by simp [List.lookup], N.xf, N.noP, (by show 2 ≤ sizeLine; decide), fun t nt => ?_⟩
    exact k t _ (s5.trans (same_new nt)) upd_same
end
end Vk
namespace Vk
open PySem PySem.Spec PyProof.Rows L2
section
variable {P : Program} {w : World} {K : PySem.W.Frag} {mg : Str → Option Value} {base : Heap}
def spRight (K : PySem.W.Frag) : Sp := fun vs H Q _ => ∃ (v : V) (d : PyData), vs = [v] ∧ Dp K H v d ∧ goodHeads d = true ∧ ∀ H', Same H H' → Q (.bl true) H'
theorem scRight : FnScope ["value", "due", "caught", "found", "e"] ["value"] (defScope sRight) := ⟨rfl, rfl, rfl, by decide +kernel, rfl, by decide +kernel, by decide +kernel⟩
theorem ok_right {C : Addr} (D : Df K mg "_law_right" sRight ["value"]) (B : Blt mg) (N : Kn K mg C 1) (FA : Cl P w K mg base CX0 3 "_law_fault" ["value"] (spFault K)) (CH : Cl P w K mg base (L2.CX P w) 4 "check_rule" ["rule"] (spCheck K C))
    (KI : Cl P w K mg base CX0 1 "_law_kind" ["caught"] (spKind C 1)) : Cl P w K mg base CX0 5 "_law_right" ["value"] (spRight K) := by
  refine cl0 D scRight (fun vs H Q E h => ?_) (fun f cdv A outer s H vs Q E hr h => ?_)
  · obtain ⟨v, d, rfl, _⟩ := h
    rfl
  · obtain ⟨v, d, rfl, hd, gh, k⟩ := h
    obtain ⟨S, mS, _, exm⟩ := N.se
    obtain ⟨fC, fdC, mC, kpC, bC, FC⟩ := CH.ex
    refine ⟨_, pss_cons (ps_set (i := 1) scRight.nd rfl (Or.inl rfl) (pc FA hr (by decide) (pa_cons (pv 0) pa_nil)))
      (pss_cons (ps_set (i := 2) scRight.nd rfl (Or.inl rfl) pe_non)
      (pss_cons (ps_set (i := 3) scRight.nd rfl (Or.inl rfl) pe_non)
      (pss_cons (ps_try_keep (i := 4) (c := .ref S) (tb := fun W => tAsg (tCallS (spCheck K C) (WE W) (tCons (tVar 0) tNil)) (gName 3)) (ts := fun _ _ _ => tAsg (tVar 4) (gName 2)) rfl rfl rfl scRight.nd rfl rfl rfl mS (by decide)
          (fun W pn xe tk _ => pss_one (ps_set (i := 3) scRight.nd rfl (Or.inl rfl) (by exact (pe_callS FC hr rfl mC kpC bC (fun σ => passAt tk σ) (by exact (pa_cons (pv 0) pa_nil))))))
          (fun a oe cls d pn _ _ => pss_one (ps_set (i := 2) scRight.nd rfl (Or.inl rfl) (by exact (pv 4)))))
      (pss_cons (ps_if (pt_cmpR op_isN (pv 1) pe_non (nomark _)) (pss_one (ps_ret (pe_and (pe_cmpR op_isN (pv 2) pe_non (nomark _)) (pe_one (pe_cmpR op_isN (pv 3) pe_non (nomark _)))))) pss_nil)
      (pss_one (ps_ret (pe_and (pe_cmpR op_notN (pv 2) pe_non (nomark _)) (pe_and (pe_cmpR (op_eqD hr.units) (pc KI hr (by decide) (pa_cons (pv 2) pa_nil)) (pe_tup (pa_cons pe_str (pa_cons (pv 1) pa_nil))) (nomark _))
        (pe_one (pe_not (pe_callB call_isi (by rfl) B.isi (by decide +kernel) (pa_cons (pe_xp (pv 2)) (pa_cons (pe_bltn (v := .ty "bool") (u := .type "bool") (by rfl) B.bool (by decide +kernel) rfl) pa_nil))))))))))))), ?_⟩
    refine ⟨_, rfl, v, d, rfl, hd, gh, fun H1 s1 => ?_⟩
    cases hp : rulePlace d with
    | none =>
      refine ⟨_, rfl, v, d, rfl, dp_same s1 hd, gh, fun _ H2 s2 => ?_, fun p e => absurd (hp.symm.trans e) (fun z => nomatch z)⟩
      exact ⟨_, rfl, rfl, _, rfl, iteT ⟨_, rfl, rfl, _, rfl, iteT ⟨_, rfl, rfl, k H2 (s1.trans s2)⟩⟩⟩
    | some p =>
      refine ⟨_, rfl, v, d, rfl, dp_same s1 hd, gh, fun e => absurd (hp.symm.trans e) (fun z => nomatch z), fun p2 e dx H2 s2 hx => ?_⟩
      rw [hp] at e
      cases e
      refine ⟨exm, fun a na => ⟨_, rfl, fun na2 => ?_⟩⟩
      have s3 := (s1.trans s2).trans (same_new (o := Xco a (.ref C) (some dx)) na2)
      have hx3 : upd H2 a (Xco a (.ref C) (some dx)) dx = some (.xd [(("place" : Str), .int p)]) := by
        rw [upd_ne (ne_of_none hx na2)]
        exact hx
      refine ⟨_, rfl, rfl, _, rfl, iteF ?_⟩
      refine ⟨_, rfl, rfl, _, rfl, iteT ?_⟩
      refine ⟨_, rfl, a, dx, _, rfl, upd_same, hx3, fun t H4 s4 ht => ?_⟩
      refine ⟨_, rfl, (by show 2 ≤ sizeLine; decide), fun u nu => ?_⟩
      have s5 := s4.trans (same_new (o := .tup [.str ("rule" : Str), .int p]) nu)
      have d1 : Dp K (upd H4 u (.tup [.str ("rule" : Str), .int p])) (.ref t) (.tuple [.str ("rule" : Str), .int p]) := .tup (SqT.of (same_new nu _ _ ht)) (.cons (.str _) (.cons (.int _) .nil))
      have d2 : Dp K (upd H4 u (.tup [.str ("rule" : Str), .int p])) (.ref u) (.tuple [.str ("rule" : Str), .int p]) := .tup (SqT.of upd_same) (.cons (.str _) (.cons (.int _) .nil))
      have sh : SeqAt.shaped (.tuple [.str ("rule" : Str), .int p]) = true := by simp [SeqAt.shaped, PyData.canLay0, PyData.canLayAll0, PyData.depth, PyData.depthAll]; decide +kernel
      have eq : PyData.eqv (.tuple [.str ("rule" : Str), .int p]) (.tuple [.str ("rule" : Str), .int p]) = true := SeqAt.eqv_refl _ (SeqAt.canLay_of_shaped sh)
      refine ⟨_, _, d1, d2, sh, sh, _, rfl, ?_⟩
      rw [eq]
      refine iteT ?_
      refine ⟨_, rfl, a, C, dx, _, .int p, rfl, s5 _ _ upd_same, s5 _ _ hx3, by simp [List.lookup], N.xf, N.noP, _, _, _, _, _, rfl, .ty "bool", .base (.int p), kit_ty (show kitB "int" "bool" = some false by decide +kernel), _, rfl, ?_⟩
      exact k _ (s3.trans s5)
end
end Vk
/-! data beside the store: new tuples, lists, sums, slices -/
namespace Vk
open PySem PySem.Spec PyProof.Rows L2
theorem off_at {a p : Addr} {H : Hp} {o : HO} (h : H p = some o) (n : p ≠ a) : Off a H p = some o := by
  rw [off_ne n]
  exact h
theorem Kept.at {a p : Addr} {H H' : Hp} {o : HO} (k : Kept a H H') (h : H p = some o) (n : p ≠ a) : H' p = some o := off_sub a H' _ _ (k _ _ (off_at h n))
theorem off_other {a p : Addr} {H : Hp} {o : HO} (h : p ≠ a) : Off a (upd H p o) = upd (Off a H) p o := by
  funext b
  by_cases h1 : b = a
  · subst h1
    rw [off_same, upd_ne h.symm, off_same]
  · rw [off_ne h1]
    by_cases h2 : b = p
    · subst h2
      rw [upd_same, upd_same]
    · rw [upd_ne h2, upd_ne h2, off_ne h1]
section
variable {K : PySem.W.Frag} {a p : Addr} {G : Hp} {vs : List V} {ds : List PyData} {o : HO}
theorem new_tup (hA : G a = some o) (np : G p = none) (h : DpAll K (Off a G) vs ds) : Dp K (Off a (upd G p (.tup vs))) (.ref p) (.tuple ds) := by
  have pa : p ≠ a := (ne_of_none hA np).symm
  exact .tup (SqT.of (by rw [off_ne pa, upd_same])) (dps_same (off_mono (same_new np)) h)
theorem new_lst (hA : G a = some o) (np : G p = none) (h : DpAll K (Off a G) vs ds) : Dp K (Off a (upd G p (.lst vs))) (.ref p) (.list ds) := by
  have pa : p ≠ a := (ne_of_none hA np).symm
  exact .lst (SqL.of (by rw [off_ne pa, upd_same])) (dps_same (off_mono (same_new np)) h)
theorem dp_up {H H' : Hp} {v : V} {d : PyData} (s : Same H H') (h : Dp K (Off a H) v d) : Dp K (Off a H') v d := dp_same (off_mono s) h
theorem dps_up {H H' : Hp} {v : List V} {d : List PyData} (s : Same H H') (h : DpAll K (Off a H) v d) : DpAll K (Off a H') v d := dps_same (off_mono s) h
theorem dp_on {H : Hp} {v : V} {d : PyData} (h : Dp K (Off a H) v d) : Dp K H v d := dp_same (off_sub a H) h
theorem atI_mem {xs : List V} {r : Int} (h0 : 0 ≤ r) (h1 : r < xs.length) : ∃ x, atI xs r = some x ∧ x ∈ xs := by
  have hj : r.toNat < xs.length := by omega
  have z := atI_nat (List.getElem?_eq_getElem hj)
  rw [Int.toNat_of_nonneg h0] at z
  exact ⟨_, z, List.getElem_mem hj⟩
theorem atI_dp {H : Hp} {xs : List V} {es : List PyData} {r : Int} (d : DpAll K H xs es) (h0 : 0 ≤ r) (h1 : r < es.length) : ∃ x e, atI xs r = some x ∧ es[r.toNat]? = some e ∧ Dp K H x e := by
  have hl := dps_len d
  have hj : r.toNat < es.length := by omega
  obtain ⟨x, hx, dx⟩ := dps_get d (List.getElem?_eq_getElem hj)
  have z := atI_nat hx
  rw [Int.toNat_of_nonneg h0] at z
  exact ⟨x, _, z, List.getElem?_eq_getElem hj, dx⟩
theorem cat_go {H : Hp} {x y : V} {ds es : List PyData} {Q : VK} (hA : H a = some o) (hx : Dp K (Off a H) x (.tuple ds)) (hy : Dp K (Off a H) y (.tuple es)) (hl : ds.length + es.length ≤ 1000)
    (k : ∀ z H', Same H H' → Dp K (Off a H') z (.tuple (ds ++ es)) → Q z H') : rCatA K x y H Q := by
  obtain ⟨p, xs, rfl, qx, rx⟩ := dp_tuple hx
  obtain ⟨q, ys, rfl, qy, ry⟩ := dp_tuple hy
  have l1 := dps_len rx
  have l2 := dps_len ry
  refine ⟨p, q, xs, ys, rfl, rfl, same_seqT (off_sub a H) qx, same_seqT (off_sub a H) qy, Nat.le_trans (show xs.length + ys.length ≤ 1000 by omega) (by decide), fun e => ?_, fun _ e => ?_, fun _ _ t nt => ?_⟩
  · subst e
    have e2 : ds = [] := List.eq_nil_of_length_eq_zero l1.symm
    subst e2
    exact k _ H (Same.refl H) hy
  · subst e
    have e2 : es = [] := List.eq_nil_of_length_eq_zero l2.symm
    subst e2
    rw [List.append_nil] at k
    exact k _ H (Same.refl H) hx
  · exact k _ _ (same_new nt) (new_tup hA nt (dps_app rx ry))
theorem slice_go {H : Hp} {x : V} {ds : List PyData} {lo hi : Option Int} {Q : VK} (hA : H a = some o) (hx : Dp K (Off a H) x (.tuple ds))
    (k : ∀ z H', Same H H' → Dp K (Off a H') z (.tuple ((ds.drop (HT.sIx ds.length 0 lo)).take (HT.sIx ds.length ds.length hi - HT.sIx ds.length 0 lo))) → Q z H') : rSlA K x lo hi H Q := by
  obtain ⟨p, xs, rfl, qx, rx⟩ := dp_tuple hx
  have l1 := dps_len rx
  refine ⟨p, xs, rfl, same_seqT (off_sub a H) qx, fun w => ?_, fun _ t nt => ?_⟩
  · rw [l1] at w
    have z := k (.ref p) H (Same.refl H)
    rw [w.1, w.2, List.drop_zero, Nat.sub_zero, List.take_length] at z
    exact z hx
  · refine k _ _ (same_new nt) (new_tup hA nt ?_)
    unfold cutV
    rw [l1]
    exact dps_take _ (dps_drop _ rx)
theorem dps_rep {H : Hp} {xs : List V} {es : List PyData} (d : DpAll K H xs es) : ∀ n : Nat, DpAll K H (List.replicate n xs).flatten (List.replicate n es).flatten
  | 0 => .nil
  | n + 1 => by
    rw [List.replicate_succ, List.replicate_succ, List.flatten_cons, List.flatten_cons]
    exact dps_app d (dps_rep d n)
end
end Vk
namespace Vk
open PySem PySem.Spec PyProof.Rows L2
theorem atI_four {x0 x1 x2 x3 : V} {r : Int} (h0 : 0 ≤ r) (h4 : r < 4) : ∃ x, atI [x0, x1, x2, x3] r = some x ∧ (x = x0 ∨ x = x1 ∨ x = x2 ∨ x = x3) := by
  have z : r = 0 ∨ r = 1 ∨ r = 2 ∨ r = 3 := by omega
  rcases z with rfl | rfl | rfl | rfl
  · exact ⟨_, rfl, .inl rfl⟩
  · exact ⟨_, rfl, .inr (.inl rfl)⟩
  · exact ⟨_, rfl, .inr (.inr (.inl rfl))⟩
  · exact ⟨_, rfl, .inr (.inr (.inr rfl))⟩
theorem atI_two {x0 x1 : V} {r : Int} (h0 : 0 ≤ r) (h4 : r < 2) : ∃ x, atI [x0, x1] r = some x ∧ (x = x0 ∨ x = x1) := by
  have z : r = 0 ∨ r = 1 := by omega
  rcases z with rfl | rfl
  · exact ⟨_, rfl, .inl rfl⟩
  · exact ⟨_, rfl, .inr rfl⟩
/-- none or an integer from 1 on -/
theorem num_ok {K : PySem.W.Frag} {r : Int} (h : 0 ≤ r) {x : V} (hx : x = .non ∨ x = .int 1 ∨ x = .int (1 + r) ∨ x = .int (10 ^ Int.toNat 30)) : ∃ d, countD d = true ∧ ∀ H, Dp K H x d := by
  rcases hx with rfl | rfl | rfl | rfl
  · exact ⟨.none, rfl, fun _ => .non⟩
  · exact ⟨.int 1, rfl, fun _ => .int 1⟩
  · exact ⟨.int (1 + r), decide_eq_true (by omega), fun _ => .int _⟩
  · exact ⟨.int (10 ^ Int.toNat 30), by decide +kernel, fun _ => .int _⟩
theorem kind_ok {K : PySem.W.Frag} {x : V} (hx : x = .str ("queue" : Str) ∨ x = .str ("stack" : Str)) : ∃ d, kindD d = true ∧ ∀ H, Dp K H x d := by
  rcases hx with rfl | rfl
  · exact ⟨.str ("queue" : Str), by decide +kernel, fun _ => .str _⟩
  · exact ⟨.str ("stack" : Str), by decide +kernel, fun _ => .str _⟩
section
variable {P : Program} {w : World} {K : PySem.W.Frag} {mg : Str → Option Value} {base : Heap}
def spGood (K : PySem.W.Frag) : Sp := fun vs H Q _ => ∃ (a sc : Addr) (n : Int), vs = [.ref a] ∧ Sto sc a n H ∧ n ≤ 900000 ∧
  ∀ (v : V) (ls : List PyData) (b : PyData) (H' : Hp), Sto sc a (n + 20) H' → Kept a H H' → Dp K (Off a H') v (.tuple [.tuple ls, b]) → 1 ≤ ls.length → ls.length ≤ 6 → ls.all levelD = true → countD b = true → Q v H'
theorem scGood : FnScope ["store", "numbers", "levels", "k"] ["store"] (defScope sGood) := ⟨rfl, rfl, rfl, by decide +kernel, rfl, by decide +kernel, by decide +kernel⟩
theorem ok_good (D : Df K mg "_law_good" sGood ["store"]) (B : Blt mg) (PK : Cl P w K mg base CX0 2 "_law_pick" ["store", "count"] spPick) : Cl P w K mg base CX0 3 "_law_good" ["store"] (spGood K) := by
  refine cl0 D scGood (fun vs H Q E h => ?_) (fun f cdv A outer s H vs Q E hr h => ?_)
  · obtain ⟨a, sc, n, rfl, _⟩ := h
    rfl
  · obtain ⟨a, sc, n, rfl, S, n1, k⟩ := h
    refine ⟨_, pss_cons (ps_set (i := 1) scGood.nd rfl (Or.inl rfl) (pe_lst (pa_cons pe_non (pa_cons pe_int (pa_cons (pe_op op_add pe_int (pc PK hr (by decide) (pa_cons (pv 0) (pa_cons pe_int pa_nil)))) (pa_cons (pe_op op_pow pe_int pe_int) pa_nil))))))
      (pss_cons (ps_set (i := 2) scGood.nd rfl (Or.inl rfl) (pe_lst pa_nil))
      (pss_cons (ps_for PassesOwn.never rfl (pi_range1 rfl B.range (pa_cons (pe_op op_add pe_int (pc PK hr (by decide) (pa_cons (pv 0) (pa_cons pe_int pa_nil)))) pa_nil)) (pg_name (i := 3) scGood.nd rfl (Or.inl rfl))
        (pss_one (ps_expr (pe_bm PySem.F.plainAttrs_list PySem.F.slot_list_append PySem.F.type_list_append mt_append (pv 2)
          (pa_cons (pe_tup (pa_cons (pe_ix ix_list (pe_lst (pa_cons pe_str (pa_cons pe_str pa_nil))) (pc PK hr (by decide) (pa_cons (pv 0) (pa_cons pe_int pa_nil))) (fun _ _ => rfl)) (pa_cons (pe_ix ix_list (pv 1) (pc PK hr (by decide) (pa_cons (pv 0) (pa_cons pe_int pa_nil))) (fun _ _ => rfl)) pa_nil))) pa_nil)))))
      (pss_one (ps_ret (pe_tup (pa_cons (pe_callTy call_tuple_of (by rfl) B.tuple (by decide +kernel) (pa_cons (pv 2) pa_nil)) (pa_cons (pe_ix ix_list (pv 1) (pc PK hr (by decide) (pa_cons (pv 0) (pa_cons pe_int pa_nil))) (fun _ _ => rfl)) pa_nil))))))), ?_⟩
    -- numbers
    refine ⟨_, rfl, a, sc, 9, n, rfl, by decide, by decide, S, by omega, fun r H1 r0 r9 S1 K1 => ?_⟩
    refine ⟨_, _, rfl, rfl, _, _, rfl, rfl, ⟨by decide, by decide, by decide⟩, (by show 4 ≤ sizeLine; decide), fun nb nnb => ?_⟩
    have b1 := S1.ne nnb
    have s1 := same_new (o := .lst [.non, .int 1, .int (1 + r), .int (10 ^ Int.toNat 30)]) nnb
    -- levels = []
    refine ⟨(by show 0 ≤ sizeLine; decide), fun l nl => ?_⟩
    have s2 := s1.trans (same_new (o := .lst []) nl)
    have nbl : nb ≠ l := ne_of_none upd_same nl
    have l1 : l ≠ a := (S1.same s1).ne nl
    have S2 := S1.same s2
    have l2 : l ≠ sc := (S1.same s1).ne2 nl
    -- range(1 + pick)
    refine ⟨_, rfl, a, sc, 6, n + 1, rfl, by decide, by decide, S2, by omega, fun m H3 m0 m6 S3 K3 => ?_⟩
    refine ⟨_, _, rfl, rfl, 1 + m, rfl, by omega, by omega, ?_⟩
    have K13 : Kept a H H3 := (K1.trans (kept_same s2)).trans K3
    have nb3 : H3 nb = some (.lst [.non, .int 1, .int (1 + r), .int (10 ^ Int.toNat 30)]) := K3.at (by rw [upd_ne nbl, upd_same]) b1
    have l3 : H3 l = some (.lst []) := K3.at upd_same l1
    refine for_range (lo := 0) (n := (1 + m).toNat) (fun i σ H' => ∃ (u : Option V) (xs : List V) (ds : List PyData), σ = [some (.ref a), some (.ref nb), some (.ref l), u] ∧ Sto sc a (n + 2 + 2 * i) H' ∧ Same (Off l (Off a H)) (Off l (Off a H')) ∧ H' nb = some (.lst [.non, .int 1, .int (1 + r), .int (10 ^ Int.toNat 30)]) ∧
        H' l = some (.lst xs) ∧ DpAll K (Off l (Off a H')) xs ds ∧ ds.length = i ∧ ds.all levelD = true)
      ⟨none, [], [], rfl, S3.more (by omega), off_mono K13, nb3, l3, .nil, rfl, rfl⟩ ?_ ?_
    · rintro i σ G hi ⟨u, xs, ds, rfl, SG, KG, nbG, lG, dG, len, okG⟩
      refine ⟨_, rfl, .inl ⟨rfl, _, SqL.of lG⟩, ?_⟩
      refine ⟨(by show 2 ≤ sizeLine; decide), fun q nq => ?_⟩
      have sq := same_new (o := .lst [.str ("queue" : Str), .str ("stack" : Str)]) nq
      have qa := SG.ne nq
      refine ⟨_, rfl, a, sc, 2, n + 2 + 2 * i, rfl, by decide, by decide, SG.same sq, by omega, fun x G2 x0 x2 SG2 KG2 => ?_⟩
      obtain ⟨kv, hkv, kk⟩ := atI_two (x0 := .str ("queue" : Str)) (x1 := .str ("stack" : Str)) x0 x2
      refine ⟨q, _, _, kv, rfl, rfl, SqL.of (KG2.at upd_same qa), hkv, ?_⟩
      have nbG2 := KG2.at (sq _ _ nbG) b1
      refine ⟨_, rfl, _, rfl, a, sc, 4, n + 2 + 2 * i + 1, rfl, by decide, by decide, SG2, by omega, fun y G3 y0 y4 SG3 KG3 => ?_⟩
      have nbG3 := KG3.at nbG2 b1
      obtain ⟨nv, hnv, nn⟩ := atI_four (x0 := .non) (x1 := .int 1) (x2 := .int (1 + r)) (x3 := .int (10 ^ Int.toNat 30)) y0 y4
      refine ⟨nb, _, _, nv, rfl, rfl, SqL.of nbG3, hnv, (by show 2 ≤ sizeLine; decide), fun t nt => ?_⟩
      have ta := SG3.ne nt
      have lG3 : G3 l = some (.lst xs) := KG3.at (KG2.at (sq _ _ lG) l1) l1
      have tl : l ≠ t := ne_of_none lG3 nt
      have st := same_new (o := .tup [kv, nv]) nt
      have xl : xs.length = i := by rw [dps_len dG, len]
      refine ⟨l, _, _, rfl, rfl, st _ _ lG3, by rw [xl]; exact Nat.lt_of_lt_of_le (show i < 7 by omega) (by decide), ?_⟩
      obtain ⟨kd, kd1, kd2⟩ := kind_ok (K := K) kk
      obtain ⟨nd, nd1, nd2⟩ := num_ok (K := K) r0 nn
      have KK : Kept a G (upd G3 t (.tup [kv, nv])) := ((kept_same sq).trans (KG2.trans KG3)).trans (kept_same st)
      have offs : Off l (Off a (upd (upd G3 t (.tup [kv, nv])) l (.lst (xs ++ [.ref t])))) = Off l (Off a (upd G3 t (.tup [kv, nv]))) := by
        rw [off_other l1, off_upd]
      refine ⟨_, xs ++ [.ref t], ds ++ [.tuple [kd, nd]], rfl, ?_, ?_, ?_, upd_same, ?_, by rw [List.length_append, len]; rfl, ?_⟩
      · exact ((SG3.same st).other l1 l2).more (by omega)
      · rw [offs]
        exact KG.trans (off_mono KK)
      · rw [upd_ne nbl]
        exact st _ _ nbG3
      · rw [offs]
        refine dps_app (dps_same (off_mono KK) dG) (.cons (.tup (SqT.of ?_) (.cons (kd2 _) (.cons (nd2 _) .nil))) .nil)
        rw [off_ne (Ne.symm tl), off_ne ta, upd_same]
      · rw [List.all_append, okG]
        show (true && ((kindD kd && countD nd) && true)) = true
        rw [kd1, nd1]
        rfl
    · rintro σ G ⟨u, xs, ds, rfl, SG, KG, nbG, lG, dG, len, okG⟩
      have KGf : Kept a H G := fun b o e => by
        have bl : b ≠ l := fun z => by
          have q := (K1.trans (kept_same s1)) b o e
          have q2 := off_sub a _ _ _ q
          rw [z, nl] at q2
          cases q2
        exact off_sub l _ _ _ (KG b o (off_at e bl))
      refine ⟨_, rfl, l, xs, rfl, .inl ⟨SqL.of lG, fun tp ntp => ?_⟩⟩
      have stp := same_new (o := .tup xs) ntp
      have tpa := SG.ne ntp
      refine ⟨_, rfl, _, rfl, a, sc, 4, _, rfl, by decide, by decide, SG.same stp, by omega, fun y G3 y0 y4 SG3 KG3 => ?_⟩
      obtain ⟨nv, hnv, nn⟩ := atI_four (x0 := .non) (x1 := .int 1) (x2 := .int (1 + r)) (x3 := .int (10 ^ Int.toNat 30)) y0 y4
      have nbG3 := KG3.at (stp _ _ nbG) b1
      refine ⟨nb, _, _, nv, rfl, rfl, SqL.of nbG3, hnv, (by show 2 ≤ sizeLine; decide), fun p np => ?_⟩
      have sp := same_new (o := .tup [.ref tp, nv]) np
      have pa := SG3.ne np
      obtain ⟨nd, nd1, nd2⟩ := num_ok (K := K) r0 nn
      have KF : Kept a G (upd G3 p (.tup [.ref tp, nv])) := (kept_same stp).trans (KG3.trans (kept_same sp))
      have dG' : DpAll K (Off a G) xs ds := dps_same (off_sub l _) dG
      refine k (.ref p) ds nd _ ((SG3.same sp).more (by omega)) (KGf.trans KF) (.tup (SqT.of ?_) (.cons (.tup (a := tp) (SqT.of ?_) (dps_same KF dG')) (.cons (nd2 _) .nil))) (by omega) (by omega) okG nd1
      · rw [off_ne pa, upd_same]
      · rw [off_ne tpa]
        exact sp _ _ (KG3.at upd_same tpa)
end
end Vk
namespace Vk
open PySem PySem.Spec PyProof.Rows L2
/-- how long the levels of a rule are at most -/
def levMost (m : Nat) (d : PyData) : Prop := ∀ ls b, d = .tuple [.tuple ls, b] → ls.length ≤ m
theorem level_parts {d : PyData} (h : levelD d = true) : ∃ x q, d = .tuple [.str x, q] ∧ countD q = true := by
  have ht : tupleND 2 d = true := by
    cases h2 : tupleND 2 d with
    | true => rfl
    | false =>
      rw [level_not h2] at h
      cases h
  obtain ⟨a, q, rfl⟩ := level_two ht
  have z := Bool.and_eq_true_iff.mp (show (kindD a && countD q) = true from h)
  cases a with
  | str x => exact ⟨x, q, rfl, z.2⟩
  | _ => cases z.1
theorem heads_of {ls : List PyData} (h : ls.all levelD = true) : ls.all headD = true := by
  rw [List.all_eq_true] at h ⊢
  intro x hx
  obtain ⟨y, q, rfl, _⟩ := level_parts (h x hx)
  rfl
theorem count_head {q : PyData} (h : countD q = true) : headD q = true := by
  cases q with
  | tuple ds => cases h
  | _ => rfl
theorem heads_self {ls : List PyData} (h : ls.all levelD = true) : goodHeads (.tuple ls) = true ∧ levMost (7 * ls.length) (.tuple ls) := by
  match ls, h with
  | [], _ => exact ⟨rfl, fun _ _ e => nomatch e⟩
  | [x], h =>
    refine ⟨by simp [goodHeads], fun _ _ e => ?_⟩
    cases e
  | [x, y], h =>
    obtain ⟨kx, q, rfl, hq⟩ := level_parts (List.all_eq_true.mp h x (by simp))
    refine ⟨?_, fun _ _ e => ?_⟩
    · show (headD (.str kx) && (headD q && true)) = true
      rw [count_head hq]
      rfl
    · cases e
      simp only [List.length_cons, List.length_nil]
      omega
  | x :: y :: z :: l, h =>
    refine ⟨by simp [goodHeads], fun _ _ e => ?_⟩
    cases e
section
variable {P : Program} {w : World} {K : PySem.W.Frag} {mg : Str → Option Value} {base : Heap}
def spSpoilt (K : PySem.W.Frag) : Sp := fun vs H Q _ => ∃ (a sc : Addr) (n : Int) (v : V) (ls : List PyData) (b : PyData), vs = [.ref a, v] ∧ Sto sc a n H ∧ n ≤ 900000 ∧ Dp K (Off a H) v (.tuple [.tuple ls, b]) ∧ 1 ≤ ls.length ∧ ls.length ≤ 42 ∧ ls.all levelD = true ∧
  ∀ (v' : V) (d' : PyData) (H' : Hp), Sto sc a (n + 8) H' → Kept a H H' → Dp K (Off a H') v' d' → goodHeads d' = true → levMost (7 * ls.length) d' → Q v' H'
theorem scSpoilt : FnScope ["store", "value", "levels", "boost", "at", "kind", "quantum", "bads", "bad", "way", "kinds", "level", "more"] ["store", "value"] (defScope sSpoilt) := ⟨rfl, rfl, rfl, by decide +kernel, rfl, by decide +kernel, by decide +kernel⟩
theorem ok_spoilt (D : Df K mg "_law_spoilt" sSpoilt ["store", "value"]) (B : Blt mg) (PK : Cl P w K mg base CX0 2 "_law_pick" ["store", "count"] spPick) : Cl P w K mg base CX0 3 "_law_spoilt" ["store", "value"] (spSpoilt K) := by
  refine cl0 D scSpoilt (fun vs H Q E h => ?_) (fun f cdv A outer s H vs Q E hr h => ?_)
  · obtain ⟨a, sc, n, v, ls, b, rfl, _⟩ := h
    rfl
  · obtain ⟨a, sc, n, v, ls, b, rfl, S, n1, hd, len1, len42, okl, k⟩ := h
    have S' := S
    obtain ⟨pr, x, y, rfl, q, hx, hb⟩ := dp_two hd
    obtain ⟨pl, xs, rfl, ql, rl⟩ := dp_tuple hx
    have ll := dps_len rl
    refine ⟨_, pss_cons (ps_asg (pv 1) (pg_tup rfl (pgs_cons (pg_name (i := 2) scSpoilt.nd rfl (.inl rfl)) (pgs_cons (pg_name (i := 3) scSpoilt.nd rfl (.inl rfl)) pgs_nil))))
      (pss_cons (ps_set (i := 4) scSpoilt.nd rfl (Or.inl rfl) (pc PK hr (by decide) (pa_cons (pv 0) (pa_cons (pe_callB call_len_seq (by rfl) B.len PySem.boot_len (pa_cons (pv 2) pa_nil)) pa_nil))))
      (pss_cons (ps_asg (pe_ix ix_tup (pv 2) (pv 4) (fun _ _ => rfl)) (pg_tup rfl (pgs_cons (pg_name (i := 5) scSpoilt.nd rfl (.inl rfl)) (pgs_cons (pg_name (i := 6) scSpoilt.nd rfl (.inl rfl)) pgs_nil))))
      (pss_cons (ps_set (i := 7) scSpoilt.nd rfl (Or.inl rfl) (pe_lst (pa_cons pe_int (pa_cons (pe_un un_neg pe_int) (pa_cons pe_bl (pa_cons pe_str (pa_cons pe_bl (pa_cons (pe_tup (pa_cons pe_int pa_nil)) (pa_cons (pe_op op_sub pe_int (pe_op op_pow pe_int pe_int)) pa_nil)))))))))
      (pss_cons (ps_set (i := 8) scSpoilt.nd rfl (Or.inl rfl) (pe_ix ix_list (pv 7) (pc PK hr (by decide) (pa_cons (pv 0) (pa_cons pe_int pa_nil))) (fun _ _ => rfl)))
      (pss_cons (ps_set (i := 9) scSpoilt.nd rfl (Or.inl rfl) (pc PK hr (by decide) (pa_cons (pv 0) (pa_cons pe_int pa_nil))))
      (pss_cons (ps_if (pt_cmpR op_lt (pv 9) pe_int (nomark _))
        (pss_cons (ps_set (i := 10) scSpoilt.nd rfl (Or.inl rfl) (pe_lst (pa_cons (pe_tup (pa_cons (pv 5) (pa_cons (pv 8) pa_nil))) (pa_cons (pe_tup (pa_cons pe_str (pa_cons (pv 6) pa_nil))) (pa_cons (pe_tup (pa_cons (pv 5) pa_nil))
            (pa_cons (pe_tup (pa_cons (pv 5) (pa_cons (pv 6) (pa_cons pe_int pa_nil)))) (pa_cons (pe_lst (pa_cons (pv 5) (pa_cons (pv 6) pa_nil))) (pa_cons pe_non (pa_cons (pe_tup (pa_cons pe_int (pa_cons (pv 5) pa_nil))) pa_nil)))))))))
        (pss_cons (ps_set (i := 11) scSpoilt.nd rfl (Or.inl rfl) (pe_ix ix_list (pe_op op_cat (pv 10) (pe_lst (pa_cons (pv 5) (pa_cons (pe_tup pa_nil) pa_nil)))) (pc PK hr (by decide) (pa_cons (pv 0) (pa_cons pe_int pa_nil))) (fun _ _ => rfl)))
        (pss_one (ps_ret (pe_tup (pa_cons (pe_op op_catA (pe_op op_catA (pe_slice sl_tupA (pv 2) po_none (po_some (pv 4))) (pe_tup (pa_cons (pv 11) pa_nil))) (pe_slice sl_tupA (pv 2) (po_some (pe_op op_add (pv 4) pe_int)) po_none)) (pa_cons (pv 3) pa_nil))))))) pss_nil)
      (pss_cons (ps_if (pt_cmpR op_lt (pv 9) pe_int (nomark _)) (pss_one (ps_ret (pe_tup (pa_cons (pv 2) (pa_cons (pv 8) pa_nil))))) pss_nil)
      (pss_cons (ps_set (i := 12) scSpoilt.nd rfl (Or.inl rfl) (pe_lst (pa_cons (pe_tup (pa_cons (pe_tup pa_nil) (pa_cons (pv 3) pa_nil))) (pa_cons (pe_tup (pa_cons (pe_op op_repT (pv 2) pe_int) (pa_cons (pv 3) pa_nil)))
          (pa_cons (pe_tup (pa_cons (pe_callTy call_list_of (by rfl) B.list (by decide +kernel) (pa_cons (pv 2) pa_nil)) (pa_cons (pv 3) pa_nil))) (pa_cons (pe_tup (pa_cons (pv 2) pa_nil)) (pa_cons (pe_tup (pa_cons (pv 2) (pa_cons (pv 3) (pa_cons pe_int pa_nil))))
          (pa_cons (pe_lst (pa_cons (pv 2) (pa_cons (pv 3) pa_nil))) pa_nil))))))))
      (pss_one (ps_ret (pe_ix ix_list (pe_op op_cat (pv 12) (pe_lst (pa_cons (pv 2) (pa_cons pe_non (pa_cons (pe_tup (pa_cons pe_non (pa_cons (pv 3) pa_nil))) (pa_cons (pe_tup (pa_cons pe_str (pa_cons (pv 3) pa_nil))) pa_nil)))))) (pc PK hr (by decide) (pa_cons (pv 0) (pa_cons pe_int pa_nil))) (fun _ _ => rfl)))))))))))), ?_⟩
    -- levels, boost = value; at
    refine ⟨_, rfl, pr, _, rfl, same_seqT (off_sub a H) q, rfl, _, _, rfl, _, _, rfl, rfl, ?_⟩
    refine ⟨_, rfl, _, rfl, pl, xs, rfl, .inr (same_seqT (off_sub a H) ql), a, sc, _, n, rfl, by omega, by omega, S, by omega, fun at_ H1 at0 at1 S1 K1 => ?_⟩
    have rl1 := dps_same K1 rl
    have hb1 := dp_same K1 hb
    have ql1 : SqT K (Off a H1) pl xs := same_seqT K1 ql
    -- kind, quantum = levels[at]
    obtain ⟨lv, ld, hat, hld, dld⟩ := atI_dp (r := at_) rl1 at0 (by omega)
    obtain ⟨kx, qd, rfl, hqd⟩ := level_parts (List.all_eq_true.mp okl ld (List.mem_of_getElem? hld))
    obtain ⟨lp, kv, qv, rfl, qlp, dk, dq⟩ := dp_two dld
    refine ⟨_, rfl, _, rfl, pl, xs, _, _, rfl, rfl, same_seqT (off_sub a H1) ql1, hat, lp, _, rfl, same_seqT (off_sub a H1) qlp, rfl, _, _, rfl, _, _, rfl, rfl, ?_⟩
    -- bads
    refine ⟨_, rfl, (by show 1 ≤ sizeLine; decide), fun p1 np1 => ?_⟩
    have hA1 : ∃ o, H1 a = some o := by
      obtain ⟨_, _, _, _, _, h1, _⟩ := S1.ex
      exact ⟨_, h1⟩
    obtain ⟨oA, hA1⟩ := hA1
    have dp1 := new_tup (K := K) hA1 np1 (.cons (.int 1) .nil)
    have s1 := same_new (o := .tup [.int 1]) np1
    refine ⟨_, _, rfl, rfl, ⟨by decide, by decide, by decide⟩, _, _, rfl, rfl, (by show 7 ≤ sizeLine; decide), fun bl nbl => ?_⟩
    have bla : bl ≠ a := (ne_of_none (s1 _ _ hA1) nbl).symm
    have s2 := s1.trans (same_new (o := .lst [.int 0, .int (-1), .bl true, .str ("1" : Str), .bl false, .ref p1, .int (0 - 10 ^ Int.toNat 30)]) nbl)
    have dp2 := dp_up (K := K) (same_new (o := .lst [.int 0, .int (-1), .bl true, .str ("1" : Str), .bl false, .ref p1, .int (0 - 10 ^ Int.toNat 30)]) nbl) dp1
    -- bad, way
    refine ⟨_, rfl, _, rfl, a, sc, 7, n + 1, rfl, by decide, by decide, S1.same s2, by omega, fun r2 H2 r20 r27 S2 K2 => ?_⟩
    obtain ⟨bv, hbv, mbv⟩ := atI_mem (xs := [.int 0, .int (-1), .bl true, .str ("1" : Str), .bl false, .ref p1, .int (0 - 10 ^ Int.toNat 30)]) r20 r27
    obtain ⟨bd, dbv⟩ : ∃ bd, Dp K (Off a H2) bv bd := by
      simp only [List.mem_cons, List.not_mem_nil, or_false] at mbv
      rcases mbv with rfl | rfl | rfl | rfl | rfl | rfl | rfl
      · exact ⟨_, .int _⟩
      · exact ⟨_, .int _⟩
      · exact ⟨_, .bl _⟩
      · exact ⟨_, .str _⟩
      · exact ⟨_, .bl _⟩
      · exact ⟨_, dp_same K2 dp2⟩
      · exact ⟨_, .int _⟩
    refine ⟨bl, _, _, bv, rfl, rfl, SqL.of (K2.at upd_same bla), hbv, ?_⟩
    refine ⟨_, rfl, a, sc, 8, n + 1 + 1, rfl, by decide, by decide, S2, by omega, fun way H3 w0 w8 S3 K3 => ?_⟩
    have K03 : Kept a H H3 := (K1.trans (kept_same s2)).trans (K2.trans K3)
    have K13 : Kept a H1 H3 := (kept_same s2).trans (K2.trans K3)
    have rl3 := dps_same K03 rl
    have hx3 := dp_same K03 hx
    have hb3 := dp_same K03 hb
    have ql3 : SqT K (Off a H3) pl xs := same_seqT K03 ql
    have dk3 := dp_same K13 dk
    have dq3 := dp_same K13 dq
    have db3 := dp_same K3 dbv
    obtain ⟨oA3, hA⟩ : ∃ o, H3 a = some o := by
      obtain ⟨_, _, _, _, _, h1, _⟩ := S3.ex
      exact ⟨_, h1⟩
    have g0 : Same H3 H3 := Same.refl H3
    refine ⟨_, rfl, _, _, rfl, rfl, _, rfl, ?_⟩
    refine ite2 (fun _ => ?_) (fun _ => ?_)
    · -- a level with something else
      refine ⟨_, rfl, _, rfl, (by show 2 ≤ sizeLine; decide), fun t1 mt1 => ?_⟩
      have dt1 := new_tup (K := K) (g0 _ _ hA) mt1 (.cons (dp_up g0 dk3) (.cons (dp_up g0 db3) .nil))
      have gt1 := g0.trans (same_new (o := (.tup [kv, bv])) mt1)
      refine ⟨_, rfl, (by show 2 ≤ sizeLine; decide), fun t2 mt2 => ?_⟩
      have dt2 := new_tup (K := K) (gt1 _ _ hA) mt2 (.cons (.str ("heap" : Str)) (.cons (dp_up gt1 dq3) .nil))
      have gt2 := gt1.trans (same_new (o := (.tup [V.str ("heap" : Str), qv])) mt2)
      refine ⟨_, rfl, (by show 1 ≤ sizeLine; decide), fun t3 mt3 => ?_⟩
      have dt3 := new_tup (K := K) (gt2 _ _ hA) mt3 (.cons (dp_up gt2 dk3) .nil)
      have gt3 := gt2.trans (same_new (o := (.tup [kv])) mt3)
      refine ⟨_, rfl, _, rfl, (by show 3 ≤ sizeLine; decide), fun t4 mt4 => ?_⟩
      have dt4 := new_tup (K := K) (gt3 _ _ hA) mt4 (.cons (dp_up gt3 dk3) (.cons (dp_up gt3 dq3) (.cons (.int 1) .nil)))
      have gt4 := gt3.trans (same_new (o := (.tup [kv, qv, V.int 1])) mt4)
      refine ⟨_, rfl, _, rfl, (by show 2 ≤ sizeLine; decide), fun t5 mt5 => ?_⟩
      have dt5 := new_lst (K := K) (gt4 _ _ hA) mt5 (.cons (dp_up gt4 dk3) (.cons (dp_up gt4 dq3) .nil))
      have gt5 := gt4.trans (same_new (o := (.lst [kv, qv])) mt5)
      refine ⟨_, rfl, (by show 2 ≤ sizeLine; decide), fun t6 mt6 => ?_⟩
      have dt6 := new_tup (K := K) (gt5 _ _ hA) mt6 (.cons (.int 1) (.cons (dp_up gt5 dk3) .nil))
      have gt6 := gt5.trans (same_new (o := (.tup [V.int 1, kv])) mt6)
      refine ⟨(by show 7 ≤ sizeLine; decide), fun t7 mt7 => ?_⟩
      have gt7 := gt6.trans (same_new (o := .lst [V.ref t1, V.ref t2, V.ref t3, V.ref t4, V.ref t5, V.non, V.ref t6]) mt7)
      refine ⟨_, rfl, _, rfl, (by show 0 ≤ sizeLine; decide), fun t8 mt8 => ?_⟩
      have dt8 := new_tup (K := K) (gt7 _ _ hA) mt8 DpAll.nil
      have gt8 := gt7.trans (same_new (o := .tup []) mt8)
      refine ⟨(by show 2 ≤ sizeLine; decide), fun t9 mt9 => ?_⟩
      have u9 := same_new (o := .lst [kv, V.ref t8]) mt9
      have gt9 := gt8.trans u9
      refine ⟨t7, t9, _, _, rfl, rfl, u9 _ _ (same_new mt8 _ _ upd_same), upd_same, (by show 7 + 2 ≤ sizeLine; decide), fun t10 mt10 => ?_⟩
      have gt10 := gt9.trans (same_new (o := .lst ([V.ref t1, V.ref t2, V.ref t3, V.ref t4, V.ref t5, V.non, V.ref t6] ++ [kv, V.ref t8])) mt10)
      have t10a : t10 ≠ a := (ne_of_none (gt9 _ _ hA) mt10).symm
      refine ⟨_, rfl, a, sc, 9, n + 1 + 1 + 1, rfl, by decide, by decide, S3.same gt10, by omega, fun r4 H4 r40 r49 S4 K4 => ?_⟩
      obtain ⟨lev, hlev, mlev⟩ := atI_mem (xs := [V.ref t1, V.ref t2, V.ref t3, V.ref t4, V.ref t5, V.non, V.ref t6, kv, V.ref t8]) r40 r49
      obtain ⟨de, dlev, hlev2⟩ : ∃ de, Dp K (Off a H4) lev de ∧ headD de = true := by
        simp only [List.mem_cons, List.not_mem_nil, or_false] at mlev
        rcases mlev with rfl | rfl | rfl | rfl | rfl | rfl | rfl | rfl | rfl
        · exact ⟨_, dp_same ((kept_same (((((((((same_new mt2).trans (same_new mt3)).trans (same_new mt4)).trans (same_new mt5)).trans (same_new mt6)).trans (same_new mt7)).trans (same_new mt8)).trans (same_new mt9)).trans (same_new mt10))).trans K4) dt1, rfl⟩
        · exact ⟨_, dp_same ((kept_same ((((((((same_new mt3).trans (same_new mt4)).trans (same_new mt5)).trans (same_new mt6)).trans (same_new mt7)).trans (same_new mt8)).trans (same_new mt9)).trans (same_new mt10))).trans K4) dt2, rfl⟩
        · exact ⟨_, dp_same ((kept_same (((((((same_new mt4).trans (same_new mt5)).trans (same_new mt6)).trans (same_new mt7)).trans (same_new mt8)).trans (same_new mt9)).trans (same_new mt10))).trans K4) dt3, rfl⟩
        · exact ⟨_, dp_same ((kept_same ((((((same_new mt5).trans (same_new mt6)).trans (same_new mt7)).trans (same_new mt8)).trans (same_new mt9)).trans (same_new mt10))).trans K4) dt4, rfl⟩
        · exact ⟨_, dp_same ((kept_same (((((same_new mt6).trans (same_new mt7)).trans (same_new mt8)).trans (same_new mt9)).trans (same_new mt10))).trans K4) dt5, rfl⟩
        · exact ⟨_, .non, rfl⟩
        · exact ⟨_, dp_same ((kept_same ((((same_new mt7).trans (same_new mt8)).trans (same_new mt9)).trans (same_new mt10))).trans K4) dt6, rfl⟩
        · exact ⟨_, dp_same ((kept_same gt10).trans K4) dk3, rfl⟩
        · exact ⟨_, dp_same ((kept_same ((same_new mt9).trans (same_new mt10))).trans K4) dt8, rfl⟩
      refine ⟨t10, _, _, lev, rfl, rfl, SqL.of (K4.at upd_same t10a), hlev, ?_⟩
      have K34 : Kept a H3 H4 := (kept_same gt10).trans K4
      have hx4 := dp_same K34 hx3
      have hb4 := dp_same K34 hb3
      obtain ⟨oA4, hA4⟩ : ∃ o, H4 a = some o := by
        obtain ⟨_, _, _, _, _, h1, _⟩ := S4.ex
        exact ⟨_, h1⟩
      -- levels[:at] + (level,) + levels[at + 1:]
      refine ⟨_, rfl, _, rfl, _, rfl, slice_go hA4 hx4 (fun z1 H5 s5 d5 => ?_)⟩
      refine ⟨_, rfl, (by show 1 ≤ sizeLine; decide), fun t11 m11 => ?_⟩
      have d11 := new_tup (K := K) (s5 _ _ hA4) m11 (.cons (dp_up s5 dlev) .nil)
      have s6 := s5.trans (same_new (o := .tup [lev]) m11)
      refine cat_go (s6 _ _ hA4) (dp_up (same_new m11) d5) d11 ?_ (fun z2 H6 s7 d6 => ?_)
      · simp only [List.length_take, List.length_drop, List.length_cons, List.length_nil]
        omega
      refine ⟨_, rfl, _, rfl, _, _, rfl, rfl, _, rfl, ?_⟩
      dsimp only [tNoPart]
      refine slice_go (s7 _ _ (s6 _ _ hA4)) (dp_up (s6.trans s7) hx4) (fun z3 H7 s8 d7 => ?_)
      refine cat_go (s8 _ _ (s7 _ _ (s6 _ _ hA4))) (dp_up s8 d6) d7 ?_ (fun z4 H8 s9 d8 => ?_)
      · simp only [List.length_append, List.length_take, List.length_drop, List.length_cons, List.length_nil]
        omega
      have s10 := (s6.trans s7).trans (s8.trans s9)
      refine ⟨_, rfl, (by show 2 ≤ sizeLine; decide), fun t12 m12 => ?_⟩
      have d12 := new_tup (K := K) (s10 _ _ hA4) m12 (.cons d8 (.cons (dp_up s10 hb4) .nil))
      have s11 := s10.trans (same_new (o := .tup [z4, y]) m12)
      have hh := heads_of okl
      refine k _ _ _ ((S4.same s11).more (by omega)) ((K03.trans K34).trans (kept_same s11)) d12 ?_ ?_
      · have z : ∀ i j, ((ls.drop i).take j).all headD = true := fun i j => by
          rw [List.all_eq_true] at hh ⊢
          exact fun x hx => hh x (List.mem_of_mem_drop (List.mem_of_mem_take hx))
        simp only [goodHeads, List.all_append, List.all_cons, List.all_nil, z, hlev2, Bool.and_true]
      · intro ls' b' e
        cases e
        simp only [List.length_append, List.length_take, List.length_drop, List.length_cons, List.length_nil]
        omega
    refine ⟨_, rfl, _, _, rfl, rfl, _, rfl, ?_⟩
    refine ite2 (fun _ => ?_) (fun _ => ?_)
    · refine ⟨_, rfl, _, rfl, (by show 2 ≤ sizeLine; decide), fun t1 mt1 => ?_⟩
      have d1 := new_tup (K := K) hA mt1 (.cons hx3 (.cons db3 .nil))
      refine k _ _ _ ((S3.same (same_new mt1)).more (by omega)) (K03.trans (kept_same (same_new mt1))) d1 (heads_of okl) ?_
      intro ls' b' e
      cases e
      omega
    have pl1 : 1 ≤ xs.length := by omega
    refine ⟨(by show 0 ≤ sizeLine; decide), fun u1 mu1 => ?_⟩
    have du1 := new_tup (K := K) (g0 _ _ hA) mu1 DpAll.nil
    have gu1 := g0.trans (same_new (o := (.tup [])) mu1)
    refine ⟨_, rfl, (by show 2 ≤ sizeLine; decide), fun u2 mu2 => ?_⟩
    have du2 := new_tup (K := K) (gu1 _ _ hA) mu2 (.cons du1 (.cons (dp_up gu1 hb3) .nil))
    have gu2 := gu1.trans (same_new (o := (.tup [V.ref u1, y])) mu2)
    refine ⟨_, rfl, pl, 7, xs, rfl, rfl, same_seqT (gu2.trans (Same.refl _)) (same_seqT (off_sub a H3) ql3), (fun e => by rw [e] at pl1; cases pl1), by decide, by decide, by omega, fun u3 mu3 => ?_⟩
    have du3 := new_tup (K := K) (gu2 _ _ hA) mu3 (dps_rep (dps_up gu2 rl3) 7)
    have gu3 := gu2.trans (same_new (o := .tup (List.replicate (Int.toNat 7) xs).flatten) mu3)
    refine ⟨_, rfl, (by show 2 ≤ sizeLine; decide), fun u4 mu4 => ?_⟩
    have du4 := new_tup (K := K) (gu3 _ _ hA) mu4 (.cons du3 (.cons (dp_up gu3 hb3) .nil))
    have gu4 := gu3.trans (same_new (o := .tup [V.ref u3, y]) mu4)
    refine ⟨_, rfl, pl, xs, rfl, .inr (same_seqT gu4 (same_seqT (off_sub a H3) ql3)), fun u5 mu5 => ?_⟩
    have du5 := new_lst (K := K) (gu4 _ _ hA) mu5 (dps_up gu4 rl3)
    have gu5 := gu4.trans (same_new (o := .lst xs) mu5)
    refine ⟨_, rfl, (by show 2 ≤ sizeLine; decide), fun u6 mu6 => ?_⟩
    have du6 := new_tup (K := K) (gu5 _ _ hA) mu6 (.cons du5 (.cons (dp_up gu5 hb3) .nil))
    have gu6 := gu5.trans (same_new (o := .tup [V.ref u5, y]) mu6)
    refine ⟨_, rfl, (by show 1 ≤ sizeLine; decide), fun u7 mu7 => ?_⟩
    have du7 := new_tup (K := K) (gu6 _ _ hA) mu7 (.cons (dp_up gu6 hx3) .nil)
    have gu7 := gu6.trans (same_new (o := .tup [V.ref pl]) mu7)
    refine ⟨_, rfl, _, rfl, (by show 3 ≤ sizeLine; decide), fun u8 mu8 => ?_⟩
    have du8 := new_tup (K := K) (gu7 _ _ hA) mu8 (.cons (dp_up gu7 hx3) (.cons (dp_up gu7 hb3) (.cons (.int 1) .nil)))
    have gu8 := gu7.trans (same_new (o := .tup [V.ref pl, y, V.int 1]) mu8)
    refine ⟨_, rfl, _, rfl, (by show 2 ≤ sizeLine; decide), fun u9 mu9 => ?_⟩
    have du9 := new_lst (K := K) (gu8 _ _ hA) mu9 (.cons (dp_up gu8 hx3) (.cons (dp_up gu8 hb3) .nil))
    have gu9 := gu8.trans (same_new (o := .lst [V.ref pl, y]) mu9)
    refine ⟨(by show 6 ≤ sizeLine; decide), fun u10 mu10 => ?_⟩
    have gu10 := gu9.trans (same_new (o := .lst [V.ref u2, V.ref u4, V.ref u6, V.ref u7, V.ref u8, V.ref u9]) mu10)
    refine ⟨_, rfl, _, rfl, _, rfl, (by show 2 ≤ sizeLine; decide), fun u11 mu11 => ?_⟩
    have du11 := new_tup (K := K) (gu10 _ _ hA) mu11 (.cons .non (.cons (dp_up gu10 hb3) .nil))
    have gu11 := gu10.trans (same_new (o := .tup [V.non, y]) mu11)
    refine ⟨_, rfl, (by show 2 ≤ sizeLine; decide), fun u12 mu12 => ?_⟩
    have du12 := new_tup (K := K) (gu11 _ _ hA) mu12 (.cons (.str ("queue" : Str)) (.cons (dp_up gu11 hb3) .nil))
    have gu12 := gu11.trans (same_new (o := .tup [V.str ("queue" : Str), y]) mu12)
    refine ⟨(by show 4 ≤ sizeLine; decide), fun u13 mu13 => ?_⟩
    have gu13 := gu12.trans (same_new (o := .lst [V.ref pl, V.non, V.ref u11, V.ref u12]) mu13)
    refine ⟨u10, u13, _, _, rfl, rfl, same_new mu13 _ _ (same_new mu12 _ _ (same_new mu11 _ _ upd_same)), upd_same, (by show 6 + 4 ≤ sizeLine; decide), fun u14 mu14 => ?_⟩
    have gu14 := gu13.trans (same_new (o := .lst ([V.ref u2, V.ref u4, V.ref u6, V.ref u7, V.ref u8, V.ref u9] ++ [V.ref pl, V.non, V.ref u11, V.ref u12])) mu14)
    have u14a : u14 ≠ a := (ne_of_none (gu13 _ _ hA) mu14).symm
    refine ⟨_, rfl, a, sc, 10, n + 1 + 1 + 1, rfl, by decide, by decide, S3.same gu14, by omega, fun r4 H4 r40 r49 S4 K4 => ?_⟩
    obtain ⟨res, hres, mres⟩ := atI_mem (xs := [V.ref u2, V.ref u4, V.ref u6, V.ref u7, V.ref u8, V.ref u9, V.ref pl, V.non, V.ref u11, V.ref u12]) r40 r49
    refine ⟨u14, _, _, res, rfl, rfl, SqL.of (K4.at upd_same u14a), hres, ?_⟩
    have K34 : Kept a H3 H4 := (kept_same gu14).trans K4
    have fin : ∀ d', Dp K (Off a H4) res d' → goodHeads d' = true → levMost (7 * ls.length) d' → Q res H4 := fun d' h1 h2 h3 => k _ _ _ (S4.more (by omega)) (K03.trans K34) h1 h2 h3
    have hh := heads_of okl
    simp only [List.mem_cons, List.not_mem_nil, or_false] at mres
    rcases mres with rfl | rfl | rfl | rfl | rfl | rfl | rfl | rfl | rfl | rfl
    · refine fin _ (dp_same ((kept_same ((((((((((((same_new mu3).trans (same_new mu4)).trans (same_new mu5)).trans (same_new mu6)).trans (same_new mu7)).trans (same_new mu8)).trans (same_new mu9)).trans (same_new mu10)).trans (same_new mu11)).trans (same_new mu12)).trans (same_new mu13)).trans (same_new mu14))).trans K4) du2) ?_ ?_
      · rfl
      · intro ls' b' e; cases e; exact Nat.zero_le _
    · refine fin _ (dp_same ((kept_same ((((((((((same_new mu5).trans (same_new mu6)).trans (same_new mu7)).trans (same_new mu8)).trans (same_new mu9)).trans (same_new mu10)).trans (same_new mu11)).trans (same_new mu12)).trans (same_new mu13)).trans (same_new mu14))).trans K4) du4) ?_ ?_
      · (simp only [goodHeads]; rw [List.all_eq_true] at hh ⊢; intro x hx; obtain ⟨l2, h1, h2⟩ := List.mem_flatten.mp hx; rw [List.eq_of_mem_replicate h1] at h2; exact hh x h2)
      · intro ls' b' e; cases e; rw [PyProof.Rows.lm_len_rep_flat]; omega
    · refine fin _ (dp_same ((kept_same ((((((((same_new mu7).trans (same_new mu8)).trans (same_new mu9)).trans (same_new mu10)).trans (same_new mu11)).trans (same_new mu12)).trans (same_new mu13)).trans (same_new mu14))).trans K4) du6) ?_ ?_
      · rfl
      · intro ls' b' e; cases e
    · refine fin _ (dp_same ((kept_same (((((((same_new mu8).trans (same_new mu9)).trans (same_new mu10)).trans (same_new mu11)).trans (same_new mu12)).trans (same_new mu13)).trans (same_new mu14))).trans K4) du7) ?_ ?_
      · rfl
      · intro ls' b' e; cases e
    · refine fin _ (dp_same ((kept_same ((((((same_new mu9).trans (same_new mu10)).trans (same_new mu11)).trans (same_new mu12)).trans (same_new mu13)).trans (same_new mu14))).trans K4) du8) ?_ ?_
      · rfl
      · intro ls' b' e; cases e
    · refine fin _ (dp_same ((kept_same (((((same_new mu10).trans (same_new mu11)).trans (same_new mu12)).trans (same_new mu13)).trans (same_new mu14))).trans K4) du9) ?_ ?_
      · rfl
      · intro ls' b' e; cases e
    · exact fin _ (dp_same K34 hx3) (heads_self okl).1 (heads_self okl).2
    · exact fin _ .non rfl (by intro ls' b' e; cases e)
    · refine fin _ (dp_same ((kept_same (((same_new mu12).trans (same_new mu13)).trans (same_new mu14))).trans K4) du11) ?_ ?_
      · rfl
      · intro ls' b' e; cases e
    · refine fin _ (dp_same ((kept_same ((same_new mu13).trans (same_new mu14))).trans K4) du12) ?_ ?_
      · rfl
      · intro ls' b' e; cases e
end
end Vk
/-! xs == [], t != () -/
namespace Vk
open PySem PySem.Spec PyProof.Rows L2
def rEqNilL (K : PySem.W.Frag) : R2 := fun x y H Q => ∃ p q xs, x = .ref p ∧ y = .ref q ∧ SqL K H p xs ∧ SqL K H q [] ∧ Q (.bl xs.isEmpty) H
def rNeNilT (K : PySem.W.Frag) : R2 := fun x y H Q => ∃ p q xs, x = .ref p ∧ y = .ref q ∧ SqT K H p xs ∧ SqT K H q [] ∧ Q (.bl (!xs.isEmpty)) H
section
variable {X : Cx}
theorem op_eqNilL (hu : X.A.units < cLine) : OpR X (compareOp .Eq) (rEqNilL X.K) := by
  intro pins s σ H x y v u Q I rx ry h
  obtain ⟨p, q, xs, rfl, rfl, hp, hq, k⟩ := h
  cases rx
  cases ry
  obtain ⟨is1, r1, p1, _⟩ := I.list hp
  obtain ⟨is2, r2, p2, _⟩ := I.list hq
  cases r2
  have l1 := r1.length
  cases xs with
  | nil =>
    cases r1
    exact SeqAt.eq_listAt (e := fun _ => true) p1.isList p2.isList rfl hu (fun j h1 _ => absurd h1 (Nat.not_lt_zero _)) ⟨.bl true, H, I, rfl, k⟩
  | cons x r =>
    cases r1
    exact SeqAt.eq_list_lengthsAt p1.isList p2.isList (by simp) hu ⟨.bl false, H, I, rfl, k⟩
theorem op_neNilT (hu : X.A.units < cLine) : OpR X (compareOp .NotEq) (rNeNilT X.K) := by
  intro pins s σ H x y v u Q I rx ry h
  obtain ⟨p, q, xs, rfl, rfl, hp, hq, k⟩ := h
  cases rx
  cases ry
  obtain ⟨is1, r1, p1, _⟩ := I.tuple hp
  obtain ⟨is2, r2, p2, _⟩ := I.tuple hq
  cases r2
  have l1 := r1.length
  have z : (!((List.range (min is1.toArray.size ([] : List Value).toArray.size)).all (fun _ => true) && is1.toArray.size == ([] : List Value).toArray.size)) = !xs.isEmpty := by
    cases xs with
    | nil =>
      cases r1
      rfl
    | cons x r =>
      cases r1
      simp
  refine SeqAt.RcNeAt.tuples (e := fun _ => true) p1 p2 hu (fun j _ h2 => absurd h2 (Nat.not_lt_zero _)) _ _ _ _ ?_
  rw [z]
  exact ⟨.bl (!xs.isEmpty), H, I, rfl, k⟩
end
end Vk
namespace Vk
open PySem PySem.Spec PyProof.Rows L2
def ruleD (k : Str) (q : PyData) : PyData := .tuple [.tuple [.tuple [.str k, q]], .none]
structure Rul (K : PySem.W.Frag) (mg : Str → Option Value) (x : Str) (d : PyData) : Prop where
  ex : ∃ v u, mg x = some u ∧ RelV v u ∧ ∀ H, Dp K H v d
theorem nt0 {K : PySem.W.Frag} {p : Addr} {G : Hp} {vs : List V} {ds : List PyData} (np : G p = none) (h : DpAll K G vs ds) : Dp K (upd G p (.tup vs)) (.ref p) (.tuple ds) := .tup (SqT.of upd_same) (dps_same (same_new np) h)
section
variable {P : Program} {w : World} {K : PySem.W.Frag} {mg : Str → Option Value} {base : Heap}
def spLaw (K : PySem.W.Frag) : Sp := fun vs H Q _ => ∃ (a : Addr) (ns : List Int), vs = [.ref a] ∧ SqL K H a (ns.map V.int) ∧ ns.length ≤ 63 ∧ ∀ H', Q (.bl true) H'
theorem scLaw : FnScope ["script", "store", "turn", "good", "k", "bad", "is_whole", "first", "late", "level"] ["script"] (defScope sLaw) := ⟨rfl, rfl, rfl, by decide +kernel, rfl, by decide +kernel, by decide +kernel⟩
theorem ok_law {f : Addr} {fd : FuncData} (F : Fun K "law" "law" sLaw f fd) (B : Blt mg) (ST : Cl P w K mg base CX0 1 "_law_store" ["script"] (spStore K)) (GO : Cl P w K mg base CX0 3 "_law_good" ["store"] (spGood K)) (SP : Cl P w K mg base CX0 3 "_law_spoilt" ["store", "value"] (spSpoilt K))
    (RT : Cl P w K mg base CX0 5 "_law_right" ["value"] (spRight K)) (L : Cl P w K mg base CX0 2 "_law_is_level" ["level"] (spLevel K)) (f1 : Rul K mg "FIRST_COME" (ruleD "queue" .none)) (f2 : Rul K mg "LAST_COME" (ruleD "stack" .none)) (f3 : Rul K mg "ROUND_ROBIN" (ruleD "queue" (.int 1))) :
    FnOk P w K mg base CX0 6 f fd ["script"] (spLaw K) := by
  refine F.ok scLaw (fun vs H Q E h => ?_) (fun cdv A outer s H vs Q E hr h => ?_)
  · obtain ⟨a, ns, rfl, _⟩ := h
    rfl
  · obtain ⟨a, ns, rfl, hS, hlen, k⟩ := h
    obtain ⟨v1, u1, m1, r1, g1⟩ := f1.ex
    obtain ⟨v2, u2, m2, r2, g2⟩ := f2.ex
    obtain ⟨v3, u3, m3, r3, g3⟩ := f3.ex
    have hu : ∀ X : Cx, X.A.units + 1 < cLine → X.A.units < cLine := fun X h => Nat.lt_of_succ_lt h
    refine ⟨_, pss_cons (ps_set (i := 1) scLaw.nd rfl (Or.inl rfl) (pc ST hr (by decide) (pa_cons (pv 0) pa_nil)))
      (pss_cons (ps_for PassesOwn.never rfl (pi_range1 rfl B.range (pa_cons pe_int pa_nil)) (pg_name (i := 2) scLaw.nd rfl (Or.inl rfl))
        (pss_cons (ps_set (i := 3) scLaw.nd rfl (Or.inl rfl) (pc GO hr (by decide) (pa_cons (pv 1) pa_nil)))
        (pss_cons (ps_if (pt_not (pt_val (pc RT hr (by decide) (pa_cons (pv 3) pa_nil)))) (pss_one (ps_ret pe_bl)) pss_nil)
        (pss_one (ps_for PassesOwn.never rfl (pi_range1 rfl B.range (pa_cons pe_int pa_nil)) (pg_name (i := 4) scLaw.nd rfl (Or.inl rfl))
          (pss_cons (ps_set (i := 5) scLaw.nd rfl (Or.inl rfl) (pc SP hr (by decide) (pa_cons (pv 1) (pa_cons (pv 3) pa_nil))))
          (pss_cons (ps_if (PW.pt (pw_or (pt_not (pt_val (pc RT hr (by decide) (pa_cons (pv 5) pa_nil)))) (pw_or1 (pt_not (pt_val (pc RT hr (by decide) (pa_cons (pv 3) pa_nil))))))) (pss_one (ps_ret pe_bl)) pss_nil)
          (pss_cons (ps_set (i := 6) scLaw.nd rfl (Or.inl rfl) (pe_and (pe_callB call_isi (by rfl) B.isi (by decide +kernel) (pa_cons (pv 5) (pa_cons (pe_bltn (v := .ty "tuple") (u := .type "tuple") (by rfl) B.tuple (by decide +kernel) rfl) pa_nil))) (pe_and (pe_cmpR op_eq (pe_callB call_len_seq (by rfl) B.len PySem.boot_len (pa_cons (pv 5) pa_nil)) pe_int (nomark _)) (pe_one (pe_callB call_isi (by rfl) B.isi (by decide +kernel) (pa_cons (pe_ix ix_tup (pv 5) pe_int (fun _ _ => rfl)) (pa_cons (pe_bltn (v := .ty "tuple") (u := .type "tuple") (by rfl) B.tuple (by decide +kernel) rfl) pa_nil)))))))
          (pss_one (ps_if (PW.pt (pw_and (pt_val (pv 6)) (pw_and (pt_cmpR (op_neNilT (Nat.lt_of_succ_lt (hu_of hr))) (pe_ix ix_tup (pv 5) pe_int (fun _ _ => rfl)) (pe_tup pa_nil) (nomark _))
              (pw_and1 (pt_cmpR (op_eqNilL (Nat.lt_of_succ_lt (hu_of hr))) (pe_lc (own := [("level", 9)]) (g := gName 9) (by rfl) scLaw.nd (pi_tup (pe_ix ix_tup (pv 5) pe_int (fun _ _ => rfl))) (blkOk_by (own := [("level", 9)]) (N := ["script", "store", "turn", "good", "k", "bad", "is_whole", "first", "late", "level"]) (sc := defScope sLaw) (by decide +kernel)) (fun _ _ _ _ _ => pg_name (i := 9) scLaw.nd rfl (Or.inl rfl))
                (fun _ _ _ _ _ => pts_one (pt_not (pt_val (pc L hr (by decide) (pa_cons (pv 9) pa_nil))))) (fun _ _ _ _ _ => pv 9)) (pe_lst pa_nil) (nomark _))))))
            (pss_one (ps_if (pt_not (pt_val (pc RT hr (by decide) (pa_cons (pc SP hr (by decide) (pa_cons (pv 1) (pa_cons (pv 5) pa_nil))) pa_nil)))) (pss_one (ps_ret pe_bl)) pss_nil)) pss_nil))))))))))
      (pss_cons (ps_asg (pe_tup (pa_cons (pe_tup (pa_cons (pe_tup (pa_cons (pe_tup (pa_cons pe_str (pa_cons pe_non pa_nil))) pa_nil)) (pa_cons pe_non pa_nil))) (pa_cons (pe_tup (pa_cons (pe_tup (pa_cons (pe_tup (pa_cons pe_str (pa_cons pe_non pa_nil))) pa_nil)) (pa_cons pe_non pa_nil))) pa_nil))) (pg_tup rfl (pgs_cons (pg_name (i := 7) scLaw.nd rfl (.inl rfl)) (pgs_cons (pg_name (i := 8) scLaw.nd rfl (.inl rfl)) pgs_nil))))
      (pss_one (ps_ret (pe_and (pe_cmpR (op_eqD hr.units) (pe_glob rfl m1 r1) (pv 7) (nomark _)) (pe_and (pe_cmpR (op_eqD hr.units) (pe_glob rfl m2 r2) (pv 8) (nomark _))
        (pe_one (pe_cmpR (op_eqD hr.units) (pe_glob rfl m3 r3) (pe_tup (pa_cons (pe_tup (pa_cons (pe_tup (pa_cons pe_str (pa_cons pe_int pa_nil))) pa_nil)) (pa_cons pe_non pa_nil))) (nomark _))))))))), ?_⟩
    refine ⟨_, rfl, a, ns, rfl, hS, hlen, fun st sc H1 s1 nst S1 => ?_⟩
    refine ⟨4, rfl, by decide, by decide, ?_⟩
    refine for_range (lo := 0) (n := 4) (fun i σ H' => ∃ (u2 u3 u4 u5 u6 : Option V), σ = [some (.ref a), some (.ref st), u2, u3, u4, u5, u6, none, none, none] ∧ Sto sc st (200 * i) H')
      ⟨none, none, none, none, none, rfl, S1.more (by omega)⟩ ?_ ?_
    · rintro i σ G hi ⟨u2, u3, u4, u5, u6, rfl, SG⟩
      -- good
      refine ⟨_, rfl, st, sc, 200 * i, rfl, SG, by omega, fun v ls b G1 SG1 KG1 dv len1 len6 okl okb => ?_⟩
      have gh : goodHeads (.tuple [.tuple ls, b]) = true := heads_of okl
      refine ⟨_, rfl, v, _, rfl, dp_on dv, gh, fun G2 s2 => ⟨_, rfl, iteF ?_⟩⟩
      have dv2 := dp_up s2 dv
      have SG2 := SG1.same s2
      refine ⟨5, rfl, by decide, by decide, ?_⟩
      refine for_range (lo := 0) (n := 5) (fun j σ H' => ∃ (u4 u5 u6 : Option V), σ = [some (.ref a), some (.ref st), some (.int (0 + i)), some v, u4, u5, u6, none, none, none] ∧ Sto sc st (200 * i + 20 + 16 * j) H' ∧ Dp K (Off st H') v (.tuple [.tuple ls, b]))
        ⟨_, _, _, rfl, SG2.more (by omega), dv2⟩ ?_ ?_
      · rintro j σ J hj ⟨w4, w5, w6, rfl, SJ, dJ⟩
        -- bad
        refine ⟨_, rfl, _, rfl, st, sc, 200 * i + 20 + 16 * j, v, ls, b, rfl, SJ, by omega, dJ, len1, by omega, okl, fun v' d' J1 SJ1 KJ1 dv' gh' lm => ?_⟩
        have dJ1 := dp_same KJ1 dJ
        refine ⟨_, rfl, v', d', rfl, dp_on dv', gh', fun J2 t2 => ⟨_, rfl, iteF ?_⟩⟩
        refine ⟨_, rfl, v, _, rfl, dp_on (dp_up t2 dJ1), gh, fun J3 t3 => ⟨_, rfl, iteF ?_⟩⟩
        have t23 := t2.trans t3
        have dJ3 := dp_up t23 dJ1
        have dv3 := dp_up t23 dv'
        have SJ3 := SJ1.same t23
        have next : ∀ (J4 : Hp) (x6 : Option V), Same J3 J4 → ∃ (w4 w5 w6 : Option V), [some (V.ref a), some (.ref st), some (.int (0 + i)), some v, some (.int (0 + j)), some v', x6, none, none, none] = [some (.ref a), some (.ref st), some (.int (0 + i)), some v, w4, w5, w6, none, none, none] ∧
            Sto sc st (200 * i + 20 + 16 * ((j + 1 : Nat) : Int)) J4 ∧ Dp K (Off st J4) v (.tuple [.tuple ls, b]) := fun J4 x6 t4 => ⟨_, _, _, rfl, (SJ3.same t4).more (by omega), dp_up t4 dJ3⟩
        -- is_whole
        refine ⟨_, rfl, v', _, _, _, _, rfl, .ty "tuple", dp_ty (dp_on dv3), kit_tup (dp_on dv3), _, rfl, ?_⟩
        cases htup : isTupD d' with
        | false =>
          refine iteF ?_
          exact ⟨_, rfl, _, rfl, iteF (next J3 _ (Same.refl J3))⟩
        | true =>
          obtain ⟨ds, rfl⟩ : ∃ ds, d' = .tuple ds := by
            cases d' with
            | tuple ls => exact ⟨ls, rfl⟩
            | _ => cases htup
          refine iteT ?_
          cases ht : tupleND 2 (.tuple ds) with
          | false =>
            obtain ⟨p, xs0, rfl, q0, r0⟩ := dp_tuple dv3
            have z : ¬ (ds.length : Int) = 2 := of_decide_eq_false ht
            refine ⟨_, rfl, p, xs0, rfl, .inr (same_seqT (off_sub st J3) q0), rfl, _, rfl, ?_⟩
            rw [decide_eq_false (fun y => z (by rw [← dps_len r0]; exact V.int.inj y))]
            refine iteF ?_
            exact ⟨_, rfl, _, rfl, iteF (next J3 _ (Same.refl J3))⟩
          | true =>
            obtain ⟨d0, d1, e4⟩ := level_two ht
            cases e4
            obtain ⟨p, x, y, rfl, q, hx, hy⟩ := dp_two dv3
            have qJ := same_seqT (off_sub st J3) q
            refine ⟨_, rfl, p, _, rfl, .inr qJ, rfl, _, rfl, iteT ?_⟩
            refine ⟨_, rfl, p, _, _, _, rfl, rfl, qJ, rfl, _, _, _, _, _, rfl, .ty "tuple", dp_ty (dp_on hx), kit_tup (dp_on hx), ?_⟩
            cases hta : isTupD d0 with
            | false => exact ⟨_, rfl, _, rfl, iteF (next J3 _ (Same.refl J3))⟩
            | true =>
              obtain ⟨ls2, rfl⟩ : ∃ ls2, d0 = .tuple ls2 := by
                cases d0 with
                | tuple ls => exact ⟨ls, rfl⟩
                | _ => cases hta
              obtain ⟨px, xs, rfl, qx, rx⟩ := dp_tuple hx
              have qxJ := same_seqT (off_sub st J3) qx
              have lm2 := lm ls2 d1 rfl
              refine ⟨_, rfl, _, rfl, iteT ?_⟩
              -- bad[0] != ()
              refine ⟨_, rfl, p, _, _, _, rfl, rfl, qJ, rfl, (by show 0 ≤ sizeLine; decide), fun e0 ne0 => ?_⟩
              have t4 := same_new (o := .tup []) ne0
              refine ⟨px, e0, xs, rfl, rfl, same_seqT t4 qxJ, SqT.of upd_same, _, rfl, ?_⟩
              cases xs with
              | nil => exact iteF (next _ _ t4)
              | cons x0 xr =>
                refine iteT ?_
                -- the comprehension
                refine ⟨_, rfl, p, _, _, _, rfl, rfl, same_seqT t4 qJ, rfl, px, rfl, ⟨_, same_seqT t4 qxJ⟩, fun D0 nD => ?_⟩
                have xl := dps_len rx
                refine lc_it (walk_tup (K := K) (a := px) (xs := x0 :: xr)) (fun m Hc => ∃ acc, Same (upd J3 e0 (.tup [])) Hc ∧ Hc D0 = some (.lst acc) ∧ acc.length ≤ m ∧ (acc = [] ↔ ∀ n < m, ∀ e, ls2[n]? = some e → levelD e = true))
                  ⟨[], same_new nD, upd_same, Nat.le_refl _, Iff.intro (fun _ n hn => absurd hn (Nat.not_lt_zero _)) (fun _ => rfl)⟩ (fun m Hc _ ⟨acc, tc, _⟩ => same_seqT tc (same_seqT t4 qxJ)) ?_ ?_
                · rintro m y1 Hc Hc2 hm ⟨acc, tc, hD, hacc, iff⟩ ⟨rfl, hy1⟩
                  obtain ⟨e1, he1, de1⟩ := dps_getV rx hy1
                  have hh1 : headD e1 = true := List.all_eq_true.mp gh' e1 (List.mem_of_getElem? he1)
                  refine ⟨rfl, _, rfl, y1, e1, rfl, dp_same tc (dp_same t4 (dp_on de1)), hh1, fun Hc3 tc3 => ⟨_, rfl, ?_⟩⟩
                  cases hl1 : levelD e1 with
                  | true =>
                    refine iteF ⟨acc, tc.trans tc3, tc3 _ _ hD, by omega, ?_⟩
                    rw [iff]
                    refine Iff.intro (fun h n hn e he => ?_) (fun h n hn e he => h n (by omega) e he)
                    by_cases z : n = m
                    · subst z
                      rw [he1] at he
                      cases he
                      exact hl1
                    · exact h n (by omega) e he
                  | false =>
                    have nD3 : ∀ o, (upd J3 e0 (.tup [])) D0 = some o → False := fun o q => by rw [nD] at q; cases q
                    refine iteT ⟨_, rfl, acc, tc3 _ _ hD, Nat.lt_of_le_of_lt hacc (Nat.lt_of_lt_of_le hm (by rw [xl]; exact Nat.le_trans lm2 (Nat.le_trans (show 7 * ls.length ≤ 1000 by omega) (by decide)))), acc ++ [y1], ?_, upd_same, by rw [List.length_append, List.length_singleton]; omega, ?_⟩
                    · intro b1 o1 q1
                      have nb : b1 ≠ D0 := fun z => by
                        rw [z] at q1
                        exact nD3 _ q1
                      rw [upd_ne nb]
                      exact (tc.trans tc3) _ _ q1
                    · refine Iff.intro (fun h => absurd h (by simp)) (fun h => ?_)
                      have z := h m (by omega) e1 he1
                      rw [hl1] at z
                      cases z
                · rintro Hc ⟨acc, tc, hD, hacc, iff⟩
                  refine ⟨(by show 0 ≤ sizeLine; decide), fun e9 ne9 => ?_⟩
                  have t9 := same_new (o := .lst []) ne9
                  refine ⟨D0, e9, acc, rfl, rfl, SqL.of (t9 _ _ hD), SqL.of upd_same, _, rfl, ?_⟩
                  have tt := (t4.trans tc).trans t9
                  cases acc with
                  | cons q1 q2 => exact iteF (next _ _ tt)
                  | nil =>
                    refine iteT ?_
                    have all : ls2.all levelD = true := by
                      rw [List.all_eq_true]
                      intro x hx
                      obtain ⟨n, hn, e⟩ := List.getElem_of_mem hx
                      exact iff.mp rfl n (by rw [xl]; exact hn) x (by rw [List.getElem?_eq_getElem hn, e])
                    have ne1 : 1 ≤ ls2.length := by
                      rw [← xl]
                      simp
                    refine ⟨_, rfl, _, rfl, st, sc, 200 * i + 20 + 16 * j + 8, .ref p, ls2, d1, rfl, SJ3.same tt, by omega, dp_up tt dv3, ne1, by omega, all, fun v9 d9 J9 SJ9 KJ9 dv9 gh9 _ => ?_⟩
                    refine ⟨v9, d9, rfl, dp_on dv9, gh9, fun J10 t10 => ⟨_, rfl, iteF ?_⟩⟩
                    exact ⟨_, _, _, rfl, (SJ9.same t10).more (by omega), dp_up t10 (dp_same KJ9 (dp_up tt dJ3))⟩
      · rintro σ J ⟨w4, w5, w6, rfl, SJ, dJ⟩
        exact ⟨_, _, _, _, _, rfl, SJ.more (by omega)⟩
    · rintro σ G ⟨u2, u3, u4, u5, u6, rfl, SG⟩
      refine ⟨(by show 2 ≤ sizeLine; decide), fun p1 n1 => ?_⟩
      have e1 := nt0 (K := K) n1 (.cons (.str ("queue" : Str)) (.cons .non .nil))
      refine ⟨(by show 1 ≤ sizeLine; decide), fun p2 n2 => ?_⟩
      have e2 := nt0 (K := K) n2 (.cons e1 .nil)
      refine ⟨(by show 2 ≤ sizeLine; decide), fun p3 n3 => ?_⟩
      have e3 := nt0 (K := K) n3 (.cons e2 (.cons .non .nil))
      refine ⟨(by show 2 ≤ sizeLine; decide), fun p4 n4 => ?_⟩
      have e4 := nt0 (K := K) n4 (.cons (.str ("stack" : Str)) (.cons .non .nil))
      refine ⟨(by show 1 ≤ sizeLine; decide), fun p5 n5 => ?_⟩
      have e5 := nt0 (K := K) n5 (.cons e4 .nil)
      refine ⟨(by show 2 ≤ sizeLine; decide), fun p6 n6 => ?_⟩
      have e6 := nt0 (K := K) n6 (.cons e5 (.cons .non .nil))
      refine ⟨(by show 2 ≤ sizeLine; decide), fun p7 n7 => ?_⟩
      refine ⟨p7, _, rfl, SqT.of upd_same, rfl, _, _, rfl, _, _, rfl, rfl, ?_⟩
      have a1 := dp_same (((same_new n4).trans (same_new n5)).trans ((same_new n6).trans (same_new (o := .tup [.ref p3, .ref p6]) n7))) e3
      have a2 := dp_same (same_new (o := .tup [.ref p3, .ref p6]) n7) e6
      have h1 : SeqAt.shaped (ruleD "queue" .none) = true := by decide +kernel
      have h2 : SeqAt.shaped (ruleD "stack" .none) = true := by decide +kernel
      have h3 : SeqAt.shaped (ruleD "queue" (.int 1)) = true := by decide +kernel
      have q1 := SeqAt.eqv_refl _ (SeqAt.canLay_of_shaped h1)
      have q2 := SeqAt.eqv_refl _ (SeqAt.canLay_of_shaped h2)
      have q3 := SeqAt.eqv_refl _ (SeqAt.canLay_of_shaped h3)
      refine ⟨_, rfl, _, _, g1 _, a1, h1, h1, _, rfl, ?_⟩
      show if PyData.eqv (ruleD "queue" .none) (ruleD "queue" .none) = true then _ else _
      rw [q1]
      refine iteT ⟨_, rfl, _, _, g2 _, a2, h2, h2, _, rfl, ?_⟩
      show if PyData.eqv (ruleD "stack" .none) (ruleD "stack" .none) = true then _ else _
      rw [q2]
      refine iteT ⟨(by show 2 ≤ sizeLine; decide), fun p8 n8 => ?_⟩
      have e8 := nt0 (K := K) n8 (.cons (.str ("queue" : Str)) (.cons (.int 1) .nil))
      refine ⟨(by show 1 ≤ sizeLine; decide), fun p9 n9 => ?_⟩
      have e9 := nt0 (K := K) n9 (.cons e8 .nil)
      refine ⟨(by show 2 ≤ sizeLine; decide), fun p10 n10 => ?_⟩
      have e10 := nt0 (K := K) n10 (.cons e9 (.cons .non .nil))
      refine ⟨_, _, g3 _, e10, h3, h3, ?_⟩
      show Q (.bl (PyData.eqv (ruleD "queue" (.int 1)) (ruleD "queue" (.int 1)))) _
      rw [q3]
      exact k _
end
end Vk
namespace Vk
open PySem PySem.Spec PyProof.Rows L2
theorem kit_same {K : PySem.W.Frag} {t : Value} : PySem.W.kitOne K t t = some true := by
  unfold PySem.W.kitOne
  rw [if_pos (beq_self_eq_true t)]
theorem kit_sub {K : PySem.W.Frag} {C D : Addr} (h1 : PySem.W.isClsIn K D = true) (h2 : PySem.W.typeIn K (.ref D) = some (.type "type")) (h3 : PySem.W.subIn K (.ref C) (.ref D) = some true) : PySem.W.kitOne K (.ref C) (.ref D) = some true := by
  unfold PySem.W.kitOne
  have e : ((PySem.W.clsIn K D).isSome && PySem.W.typeIn K (.ref D) == some (.type "type")) = true := by
    have h1' : (PySem.W.clsIn K D).isSome = true := h1
    rw [h1', h2]
    rfl
  by_cases z : (Value.ref C == Value.ref D) = true
  · rw [if_pos z]
  · rw [if_neg z]
    show (if ((PySem.W.clsIn K D).isSome && PySem.W.typeIn K (.ref D) == some (.type "type")) = true then PySem.W.subIn K (.ref C) (.ref D) else none) = _
    rw [if_pos e, h3]
theorem kit_ref {K : PySem.W.Frag} {C D : Addr} {b : Bool} (z : (Value.ref C == Value.ref D) = false) (h1 : PySem.W.isClsIn K D = true) (h2 : PySem.W.typeIn K (.ref D) = some (.type "type")) (h3 : PySem.W.subIn K (.ref C) (.ref D) = some b) : PySem.W.kitOne K (.ref C) (.ref D) = some b := by
  unfold PySem.W.kitOne
  have e : ((PySem.W.clsIn K D).isSome && PySem.W.typeIn K (.ref D) == some (.type "type")) = true := by
    have h1' : (PySem.W.clsIn K D).isSome = true := h1
    rw [h1', h2]
    rfl
  rw [if_neg (by rw [z]; exact Bool.false_ne_true)]
  show (if ((PySem.W.clsIn K D).isSome && PySem.W.typeIn K (.ref D) == some (.type "type")) = true then PySem.W.subIn K (.ref C) (.ref D) else none) = _
  rw [if_pos e, h3]
theorem kit_ve {K : PySem.W.Frag} {C : Addr} (h3 : PySem.W.subIn K (.ref C) (.type "ValueError") = some true) : PySem.W.kitOne K (.ref C) (.type "ValueError") = some true := by
  unfold PySem.W.kitOne
  have e : PySem.W.kitMeta "ValueError" = true := by decide +kernel
  rw [if_neg (by intro z; cases z)]
  show (if PySem.W.kitMeta "ValueError" = true then PySem.W.subIn K (.ref C) (.type "ValueError") else none) = _
  rw [if_pos e, h3]
end Vk
namespace Vk
open PySem PySem.Spec PyProof.Rows L2

theorem all_mk {l : PySem.W.OpenLaw} {w : World} {K : PySem.W.Frag} {h : Heap} {mg : Str → Option Value} {fa : Addr} (X : K.In h) (G : h.Ns mainGlobals mg) (hfa : mg "law" = some (.ref fa))
    {f0 : Addr} {oc0 kV0 dc0 pm0 cd0 ct0 : Value} {od0 an0 : Option Addr} {sl0 : Array (Option Value)}
    {f1 : Addr} {oc1 kV1 dc1 pm1 cd1 ct1 : Value} {od1 an1 : Option Addr} {sl1 : Array (Option Value)}
    {f2 : Addr} {oc2 kV2 dc2 pm2 cd2 ct2 : Value} {od2 an2 : Option Addr} {sl2 : Array (Option Value)}
    {f3 : Addr} {oc3 kV3 dc3 pm3 cd3 ct3 : Value} {od3 an3 : Option Addr} {sl3 : Array (Option Value)}
    {f4 : Addr} {oc4 kV4 dc4 pm4 cd4 ct4 : Value} {od4 an4 : Option Addr} {sl4 : Array (Option Value)}
    {f5 : Addr} {oc5 kV5 dc5 pm5 cd5 ct5 : Value} {od5 an5 : Option Addr} {sl5 : Array (Option Value)}
    {f6 : Addr} {oc6 kV6 dc6 pm6 cd6 ct6 : Value} {od6 an6 : Option Addr} {sl6 : Array (Option Value)}
    {f7 : Addr} {oc7 kV7 dc7 pm7 cd7 ct7 : Value} {od7 an7 : Option Addr} {sl7 : Array (Option Value)}
    {f8 : Addr} {oc8 kV8 dc8 pm8 cd8 ct8 : Value} {od8 an8 : Option Addr} {sl8 : Array (Option Value)}
    {f9 : Addr} {oc9 kV9 dc9 pm9 cd9 ct9 : Value} {od9 an9 : Option Addr} {sl9 : Array (Option Value)}
    {f10 : Addr} {oc10 kV10 dc10 pm10 cd10 ct10 : Value} {od10 an10 : Option Addr} {sl10 : Array (Option Value)}
    {f11 : Addr} {oc11 kV11 dc11 pm11 cd11 ct11 : Value} {od11 an11 : Option Addr} {sl11 : Array (Option Value)}
    {f12 : Addr} {oc12 kV12 dc12 pm12 cd12 ct12 : Value} {od12 an12 : Option Addr} {sl12 : Array (Option Value)}
    {f13 : Addr} {oc13 kV13 dc13 pm13 cd13 ct13 : Value} {od13 an13 : Option Addr} {sl13 : Array (Option Value)}
    {f14 : Addr} {oc14 kV14 dc14 pm14 cd14 ct14 : Value} {od14 an14 : Option Addr} {sl14 : Array (Option Value)}
    {f15 : Addr} {oc15 kV15 dc15 pm15 cd15 ct15 : Value} {od15 an15 : Option Addr} {sl15 : Array (Option Value)}
    {S : Addr}
    {E0 : Addr}
    {E1 : Addr}
    {E2 : Addr}
    {E3 : Addr}
    {E4 : Addr}
    {E5 : Addr}
    {E6 : Addr}
    {E7 : Addr}
    {E8 : Addr}
    {E9 : Addr}
    {E10 : Addr}
    {E11 : Addr}
    {fI1 : Addr} {nm1 q1 : Str} {N1 : Addr} {bs1 sb1 : List Value} {sn1 : List Str} {ab1 : Bool} {col1 : Option Bool} {dd1 : Option Addr} {m01 m11 m21 m31 m51 : Option Value} {ocI1 kVI1 dcI1 pmI1 cdI1 ctI1 : Value} {odI1 anI1 : Option Addr} {slI1 : Array (Option Value)}
    {tM : Tok}
    {R0 G0 H0 : Addr} {dR0 dG0 dH0 : Option Addr} {nR0 nG0 nH0 : Nat} {slR0 slG0 slH0 : Array (Option Value)} {tR0 : Tok}
    {R1 G1 H1 : Addr} {dR1 dG1 dH1 : Option Addr} {nR1 nG1 nH1 : Nat} {slR1 slG1 slH1 : Array (Option Value)} {tR1 : Tok}
    {R2 G2 H2 : Addr} {dR2 dG2 dH2 : Option Addr} {nR2 nG2 nH2 : Nat} {slR2 slG2 slH2 : Array (Option Value)} {tR2 uR2 : Tok}
    (a0 : PySem.W.nsIn K mainGlobals "is_integer" = some (some (.ref f0)))
    (l0 : K.lookup f0 = some ⟨oc0, od0, .func (PySem.W.fnOf "is_integer" "is_integer" (defArgs sInteger) (defBody sInteger) (defScope sInteger) .none kV0 dc0 pm0 an0 cd0 ct0), sl0⟩)
    (c0 : PySem.W.codeIn K cd0 "is_integer" = true)
    (k0 : PySem.W.keepIn K (.ref f0) = true)
    (a1 : PySem.W.nsIn K mainGlobals "is_tuple_of" = some (some (.ref f1)))
    (l1 : K.lookup f1 = some ⟨oc1, od1, .func (PySem.W.fnOf "is_tuple_of" "is_tuple_of" (defArgs sTupleOf) (defBody sTupleOf) (defScope sTupleOf) .none kV1 dc1 pm1 an1 cd1 ct1), sl1⟩)
    (c1 : PySem.W.codeIn K cd1 "is_tuple_of" = true)
    (k1 : PySem.W.keepIn K (.ref f1) = true)
    (a2 : PySem.W.nsIn K mainGlobals "check_rule" = some (some (.ref f2)))
    (l2 : K.lookup f2 = some ⟨oc2, od2, .func (PySem.W.fnOf "check_rule" "check_rule" (defArgs sCheck) (defBody sCheck) (defScope sCheck) .none kV2 dc2 pm2 an2 cd2 ct2), sl2⟩)
    (c2 : PySem.W.codeIn K cd2 "check_rule" = true)
    (k2 : PySem.W.keepIn K (.ref f2) = true)
    (a3 : PySem.W.nsIn K mainGlobals "is_level" = some (some (.ref f3)))
    (l3 : K.lookup f3 = some ⟨oc3, od3, .func (PySem.W.fnOf "is_level" "is_level" (defArgs sLevel) (defBody sLevel) (defScope sLevel) .none kV3 dc3 pm3 an3 cd3 ct3), sl3⟩)
    (c3 : PySem.W.codeIn K cd3 "is_level" = true)
    (k3 : PySem.W.keepIn K (.ref f3) = true)
    (a4 : PySem.W.nsIn K mainGlobals "is_count" = some (some (.ref f4)))
    (l4 : K.lookup f4 = some ⟨oc4, od4, .func (PySem.W.fnOf "is_count" "is_count" (defArgs sCount) (defBody sCount) (defScope sCount) .none kV4 dc4 pm4 an4 cd4 ct4), sl4⟩)
    (c4 : PySem.W.codeIn K cd4 "is_count" = true)
    (k4 : PySem.W.keepIn K (.ref f4) = true)
    (a5 : PySem.W.nsIn K mainGlobals "_law_mix" = some (some (.ref f5)))
    (l5 : K.lookup f5 = some ⟨oc5, od5, .func (PySem.W.fnOf "_law_mix" "_law_mix" (defArgs sMix) (defBody sMix) (defScope sMix) .none kV5 dc5 pm5 an5 cd5 ct5), sl5⟩)
    (c5 : PySem.W.codeIn K cd5 "_law_mix" = true)
    (k5 : PySem.W.keepIn K (.ref f5) = true)
    (a6 : PySem.W.nsIn K mainGlobals "_law_store" = some (some (.ref f6)))
    (l6 : K.lookup f6 = some ⟨oc6, od6, .func (PySem.W.fnOf "_law_store" "_law_store" (defArgs sStore) (defBody sStore) (defScope sStore) .none kV6 dc6 pm6 an6 cd6 ct6), sl6⟩)
    (c6 : PySem.W.codeIn K cd6 "_law_store" = true)
    (k6 : PySem.W.keepIn K (.ref f6) = true)
    (a7 : PySem.W.nsIn K mainGlobals "_law_pick" = some (some (.ref f7)))
    (l7 : K.lookup f7 = some ⟨oc7, od7, .func (PySem.W.fnOf "_law_pick" "_law_pick" (defArgs sPick) (defBody sPick) (defScope sPick) .none kV7 dc7 pm7 an7 cd7 ct7), sl7⟩)
    (c7 : PySem.W.codeIn K cd7 "_law_pick" = true)
    (k7 : PySem.W.keepIn K (.ref f7) = true)
    (a8 : PySem.W.nsIn K mainGlobals "_law_is_int" = some (some (.ref f8)))
    (l8 : K.lookup f8 = some ⟨oc8, od8, .func (PySem.W.fnOf "_law_is_int" "_law_is_int" (defArgs sInt) (defBody sInt) (defScope sInt) .none kV8 dc8 pm8 an8 cd8 ct8), sl8⟩)
    (c8 : PySem.W.codeIn K cd8 "_law_is_int" = true)
    (k8 : PySem.W.keepIn K (.ref f8) = true)
    (a9 : PySem.W.nsIn K mainGlobals "_law_kind" = some (some (.ref f9)))
    (l9 : K.lookup f9 = some ⟨oc9, od9, .func (PySem.W.fnOf "_law_kind" "_law_kind" (defArgs sKind) (defBody sKind) (defScope sKind) .none kV9 dc9 pm9 an9 cd9 ct9), sl9⟩)
    (c9 : PySem.W.codeIn K cd9 "_law_kind" = true)
    (k9 : PySem.W.keepIn K (.ref f9) = true)
    (a10 : PySem.W.nsIn K mainGlobals "_law_is_level" = some (some (.ref f10)))
    (l10 : K.lookup f10 = some ⟨oc10, od10, .func (PySem.W.fnOf "_law_is_level" "_law_is_level" (defArgs sIsLevel) (defBody sIsLevel) (defScope sIsLevel) .none kV10 dc10 pm10 an10 cd10 ct10), sl10⟩)
    (c10 : PySem.W.codeIn K cd10 "_law_is_level" = true)
    (k10 : PySem.W.keepIn K (.ref f10) = true)
    (a11 : PySem.W.nsIn K mainGlobals "_law_fault" = some (some (.ref f11)))
    (l11 : K.lookup f11 = some ⟨oc11, od11, .func (PySem.W.fnOf "_law_fault" "_law_fault" (defArgs sFault) (defBody sFault) (defScope sFault) .none kV11 dc11 pm11 an11 cd11 ct11), sl11⟩)
    (c11 : PySem.W.codeIn K cd11 "_law_fault" = true)
    (k11 : PySem.W.keepIn K (.ref f11) = true)
    (a12 : PySem.W.nsIn K mainGlobals "_law_good" = some (some (.ref f12)))
    (l12 : K.lookup f12 = some ⟨oc12, od12, .func (PySem.W.fnOf "_law_good" "_law_good" (defArgs sGood) (defBody sGood) (defScope sGood) .none kV12 dc12 pm12 an12 cd12 ct12), sl12⟩)
    (c12 : PySem.W.codeIn K cd12 "_law_good" = true)
    (k12 : PySem.W.keepIn K (.ref f12) = true)
    (a13 : PySem.W.nsIn K mainGlobals "_law_spoilt" = some (some (.ref f13)))
    (l13 : K.lookup f13 = some ⟨oc13, od13, .func (PySem.W.fnOf "_law_spoilt" "_law_spoilt" (defArgs sSpoilt) (defBody sSpoilt) (defScope sSpoilt) .none kV13 dc13 pm13 an13 cd13 ct13), sl13⟩)
    (c13 : PySem.W.codeIn K cd13 "_law_spoilt" = true)
    (k13 : PySem.W.keepIn K (.ref f13) = true)
    (a14 : PySem.W.nsIn K mainGlobals "_law_right" = some (some (.ref f14)))
    (l14 : K.lookup f14 = some ⟨oc14, od14, .func (PySem.W.fnOf "_law_right" "_law_right" (defArgs sRight) (defBody sRight) (defScope sRight) .none kV14 dc14 pm14 an14 cd14 ct14), sl14⟩)
    (c14 : PySem.W.codeIn K cd14 "_law_right" = true)
    (k14 : PySem.W.keepIn K (.ref f14) = true)
    (a15 : PySem.W.nsIn K mainGlobals "law" = some (some (.ref f15)))
    (l15 : K.lookup f15 = some ⟨oc15, od15, .func (PySem.W.fnOf "law" "law" (defArgs sLaw) (defBody sLaw) (defScope sLaw) .none kV15 dc15 pm15 an15 cd15 ct15), sl15⟩)
    (c15 : PySem.W.codeIn K cd15 "law" = true)
    (k15 : PySem.W.keepIn K (.ref f15) = true)
    (z_len : PySem.W.nsIn K mainGlobals "len" = some none)
    (z_isinstance : PySem.W.nsIn K mainGlobals "isinstance" = some none)
    (z_int : PySem.W.nsIn K mainGlobals "int" = some none)
    (z_bool : PySem.W.nsIn K mainGlobals "bool" = some none)
    (z_tuple : PySem.W.nsIn K mainGlobals "tuple" = some none)
    (z_str : PySem.W.nsIn K mainGlobals "str" = some none)
    (z_range : PySem.W.nsIn K mainGlobals "range" = some none)
    (z_enumerate : PySem.W.nsIn K mainGlobals "enumerate" = some none)
    (z_list : PySem.W.nsIn K mainGlobals "list" = some none)
    (aS : PySem.W.nsIn K mainGlobals "SlotError" = some (some (.ref S)))
    (iS : PySem.W.isClsIn K S = true)
    (hS : PySem.W.hasDictIn K S = true)
    (tS : PySem.W.typeIn K (.ref S) = some (.type "type"))
    (eS : PySem.W.subIn K (.ref S) (.type "BaseException") = some true)
    (spG : PySem.W.specialIn K (.builtin "object.__class__") "__get__" = some (some (.builtin "getset_descriptor.__get__")))
    (tkG : PySem.W.takesIn K (.builtin "object.__class__") = some true)
    (zVE : PySem.W.nsIn K mainGlobals "ValueError" = some none)
    (aE0 : PySem.W.nsIn K mainGlobals "NoJobs" = some (some (.ref E0)))
    (iE0 : PySem.W.isClsIn K E0 = true)
    (tE0 : PySem.W.typeIn K (.ref E0) = some (.type "type"))
    (aE1 : PySem.W.nsIn K mainGlobals "NoRule" = some (some (.ref E1)))
    (iE1 : PySem.W.isClsIn K E1 = true)
    (tE1 : PySem.W.typeIn K (.ref E1) = some (.type "type"))
    (aE2 : PySem.W.nsIn K mainGlobals "NoLengths" = some (some (.ref E2)))
    (iE2 : PySem.W.isClsIn K E2 = true)
    (tE2 : PySem.W.typeIn K (.ref E2) = some (.type "type"))
    (aE3 : PySem.W.nsIn K mainGlobals "NoLog" = some (some (.ref E3)))
    (iE3 : PySem.W.isClsIn K E3 = true)
    (tE3 : PySem.W.typeIn K (.ref E3) = some (.type "type"))
    (aE4 : PySem.W.nsIn K mainGlobals "NoMarks" = some (some (.ref E4)))
    (iE4 : PySem.W.isClsIn K E4 = true)
    (tE4 : PySem.W.typeIn K (.ref E4) = some (.type "type"))
    (aE5 : PySem.W.nsIn K mainGlobals "NoNamed" = some (some (.ref E5)))
    (iE5 : PySem.W.isClsIn K E5 = true)
    (tE5 : PySem.W.typeIn K (.ref E5) = some (.type "type"))
    (aE6 : PySem.W.nsIn K mainGlobals "NoOrder" = some (some (.ref E6)))
    (iE6 : PySem.W.isClsIn K E6 = true)
    (tE6 : PySem.W.typeIn K (.ref E6) = some (.type "type"))
    (aE7 : PySem.W.nsIn K mainGlobals "NoText" = some (some (.ref E7)))
    (iE7 : PySem.W.isClsIn K E7 = true)
    (tE7 : PySem.W.typeIn K (.ref E7) = some (.type "type"))
    (aE8 : PySem.W.nsIn K mainGlobals "NoNumber" = some (some (.ref E8)))
    (iE8 : PySem.W.isClsIn K E8 = true)
    (tE8 : PySem.W.typeIn K (.ref E8) = some (.type "type"))
    (aE9 : PySem.W.nsIn K mainGlobals "NoName" = some (some (.ref E9)))
    (iE9 : PySem.W.isClsIn K E9 = true)
    (tE9 : PySem.W.typeIn K (.ref E9) = some (.type "type"))
    (aE10 : PySem.W.nsIn K mainGlobals "NoUndo" = some (some (.ref E10)))
    (iE10 : PySem.W.isClsIn K E10 = true)
    (tE10 : PySem.W.typeIn K (.ref E10) = some (.type "type"))
    (aE11 : PySem.W.nsIn K mainGlobals "NoLine" = some (some (.ref E11)))
    (iE11 : PySem.W.isClsIn K E11 = true)
    (tE11 : PySem.W.typeIn K (.ref E11) = some (.type "type"))
    (x1_ : K.lookup E1 = some (excClassObj nm1 q1 E1 N1 bs1 [.ref S, .type "ValueError", .type "Exception", .type "BaseException", .type "object"] true sn1 sb1 ab1 col1 dd1 m01 m11 m21 m31 m51 "ValueError.__new__"))
    (sa1 : PySem.W.findIn K (.ref E1) "__setattr__" = some (some (.builtin "object.__setattr__")))
    (ga1 : PySem.W.findIn K (.ref E1) "__getattribute__" = some (some (.builtin "BaseException.__getattribute__")))
    (gg1 : PySem.W.findIn K (.ref E1) "__getattr__" = some none)
    (np1 : PySem.W.findIn K (.ref E1) "place" = some none)
    (in1 : PySem.W.findIn K (.ref E1) "__init__" = some (some (.ref fI1)))
    (ti1 : PySem.W.typeIn K (.ref fI1) = some (.type "function"))
    (li1 : K.lookup fI1 = some ⟨ocI1, odI1, .func (PySem.W.fnOf "__init__" "NoRule.__init__" (defArgs sRuleInit) (defBody sRuleInit) (defScope sRuleInit) .none kVI1 dcI1 pmI1 anI1 cdI1 ctI1), slI1⟩)
    (ci1 : PySem.W.codeIn K cdI1 "NoRule.__init__" = true)
    (ki1 : PySem.W.keepIn K (.ref fI1) = true)
    (kc1 : PySem.W.keepIn K (.ref E1) = true)
    (ec1 : PySem.W.subIn K (.ref E1) (.type "BaseException") = some true)
    (hc1 : PySem.W.hasDictIn K E1 = true)
    (cc1 : PySem.W.findIn K (.ref E1) "__class__" = some (some (.builtin "object.__class__")))
    (mc1 : PySem.W.mroIn K E1 (.type "object") = some true)
    (vc1 : PySem.W.subIn K (.ref E1) (.type "ValueError") = some true)
    (sc1 : PySem.W.subIn K (.ref E1) (.ref S) = some true)
    (s1_0 : PySem.W.subIn K (.ref E1) (.ref E0) = some false)
    (n1_0 : (Value.ref E1 == Value.ref E0) = false)
    (s1_2 : PySem.W.subIn K (.ref E1) (.ref E2) = some false)
    (n1_2 : (Value.ref E1 == Value.ref E2) = false)
    (s1_3 : PySem.W.subIn K (.ref E1) (.ref E3) = some false)
    (n1_3 : (Value.ref E1 == Value.ref E3) = false)
    (s1_4 : PySem.W.subIn K (.ref E1) (.ref E4) = some false)
    (n1_4 : (Value.ref E1 == Value.ref E4) = false)
    (s1_5 : PySem.W.subIn K (.ref E1) (.ref E5) = some false)
    (n1_5 : (Value.ref E1 == Value.ref E5) = false)
    (s1_6 : PySem.W.subIn K (.ref E1) (.ref E6) = some false)
    (n1_6 : (Value.ref E1 == Value.ref E6) = false)
    (s1_7 : PySem.W.subIn K (.ref E1) (.ref E7) = some false)
    (n1_7 : (Value.ref E1 == Value.ref E7) = false)
    (s1_8 : PySem.W.subIn K (.ref E1) (.ref E8) = some false)
    (n1_8 : (Value.ref E1 == Value.ref E8) = false)
    (s1_9 : PySem.W.subIn K (.ref E1) (.ref E9) = some false)
    (n1_9 : (Value.ref E1 == Value.ref E9) = false)
    (s1_10 : PySem.W.subIn K (.ref E1) (.ref E10) = some false)
    (n1_10 : (Value.ref E1 == Value.ref E10) = false)
    (s1_11 : PySem.W.subIn K (.ref E1) (.ref E11) = some false)
    (n1_11 : (Value.ref E1 == Value.ref E11) = false)
    (aM : PySem.W.nsIn K mainGlobals "MOST_LEVELS" = some (some (.int 6 tM)))
    (aR0 : PySem.W.nsIn K mainGlobals "FIRST_COME" = some (some (.ref R0)))
    (lR0 : K.lookup R0 = some ⟨.type "tuple", dR0, .seq #[.ref G0, .none] nR0, slR0⟩)
    (lG0 : K.lookup G0 = some ⟨.type "tuple", dG0, .seq #[.ref H0] nG0, slG0⟩)
    (lH0 : K.lookup H0 = some ⟨.type "tuple", dH0, .seq #[.str ("queue" : Str) tR0, .none] nH0, slH0⟩)
    (aR1 : PySem.W.nsIn K mainGlobals "LAST_COME" = some (some (.ref R1)))
    (lR1 : K.lookup R1 = some ⟨.type "tuple", dR1, .seq #[.ref G1, .none] nR1, slR1⟩)
    (lG1 : K.lookup G1 = some ⟨.type "tuple", dG1, .seq #[.ref H1] nG1, slG1⟩)
    (lH1 : K.lookup H1 = some ⟨.type "tuple", dH1, .seq #[.str ("stack" : Str) tR1, .none] nH1, slH1⟩)
    (aR2 : PySem.W.nsIn K mainGlobals "ROUND_ROBIN" = some (some (.ref R2)))
    (lR2 : K.lookup R2 = some ⟨.type "tuple", dR2, .seq #[.ref G2, .none] nR2, slR2⟩)
    (lG2 : K.lookup G2 = some ⟨.type "tuple", dG2, .seq #[.ref H2] nG2, slG2⟩)
    (lH2 : K.lookup H2 = some ⟨.type "tuple", dH2, .seq #[.str ("queue" : Str) tR2, .int 1 uR2] nH2, slH2⟩)
    : ∃ fd : FuncData, (∀ (s : Shared) (v : Value), BindsTo s fd ⟨[v], []⟩ [("script", v)]) ∧ ∀ base : Heap, K.In base → base.Ns mainGlobals mg → FnOk l.prog w K mg base CX0 6 fa fd ["script"] (spLaw K) := by
  have D0 : Df K mg "is_integer" sInteger ["value", "least"] := by
    have F := fun_mk (st := sInteger) l0 c0 k0
    exact ⟨_, _, PySem.W.mg_of X G a0, F, F.binds (ps := ["value", "least"]) fun _ _ _ _ _ _ us hl => match us, hl with | [_, _], _ => rfl⟩
  have D1 : Df K mg "is_tuple_of" sTupleOf ["value", "many"] := by
    have F := fun_mk (st := sTupleOf) l1 c1 k1
    exact ⟨_, _, PySem.W.mg_of X G a1, F, F.binds (ps := ["value", "many"]) fun _ _ _ _ _ _ us hl => match us, hl with | [_, _], _ => rfl⟩
  have D2 : Df K mg "check_rule" sCheck ["rule"] := by
    have F := fun_mk (st := sCheck) l2 c2 k2
    exact ⟨_, _, PySem.W.mg_of X G a2, F, F.binds (ps := ["rule"]) fun _ _ _ _ _ _ us hl => match us, hl with | [_], _ => rfl⟩
  have D3 : Df K mg "is_level" sLevel ["level"] := by
    have F := fun_mk (st := sLevel) l3 c3 k3
    exact ⟨_, _, PySem.W.mg_of X G a3, F, F.binds (ps := ["level"]) fun _ _ _ _ _ _ us hl => match us, hl with | [_], _ => rfl⟩
  have D4 : Df K mg "is_count" sCount ["value"] := by
    have F := fun_mk (st := sCount) l4 c4 k4
    exact ⟨_, _, PySem.W.mg_of X G a4, F, F.binds (ps := ["value"]) fun _ _ _ _ _ _ us hl => match us, hl with | [_], _ => rfl⟩
  have D5 : Df K mg "_law_mix" sMix ["number", "turn"] := by
    have F := fun_mk (st := sMix) l5 c5 k5
    exact ⟨_, _, PySem.W.mg_of X G a5, F, F.binds (ps := ["number", "turn"]) fun _ _ _ _ _ _ us hl => match us, hl with | [_, _], _ => rfl⟩
  have D6 : Df K mg "_law_store" sStore ["script"] := by
    have F := fun_mk (st := sStore) l6 c6 k6
    exact ⟨_, _, PySem.W.mg_of X G a6, F, F.binds (ps := ["script"]) fun _ _ _ _ _ _ us hl => match us, hl with | [_], _ => rfl⟩
  have D7 : Df K mg "_law_pick" sPick ["store", "count"] := by
    have F := fun_mk (st := sPick) l7 c7 k7
    exact ⟨_, _, PySem.W.mg_of X G a7, F, F.binds (ps := ["store", "count"]) fun _ _ _ _ _ _ us hl => match us, hl with | [_, _], _ => rfl⟩
  have D8 : Df K mg "_law_is_int" sInt ["value", "least"] := by
    have F := fun_mk (st := sInt) l8 c8 k8
    exact ⟨_, _, PySem.W.mg_of X G a8, F, F.binds (ps := ["value", "least"]) fun _ _ _ _ _ _ us hl => match us, hl with | [_, _], _ => rfl⟩
  have D9 : Df K mg "_law_kind" sKind ["caught"] := by
    have F := fun_mk (st := sKind) l9 c9 k9
    exact ⟨_, _, PySem.W.mg_of X G a9, F, F.binds (ps := ["caught"]) fun _ _ _ _ _ _ us hl => match us, hl with | [_], _ => rfl⟩
  have D10 : Df K mg "_law_is_level" sIsLevel ["level"] := by
    have F := fun_mk (st := sIsLevel) l10 c10 k10
    exact ⟨_, _, PySem.W.mg_of X G a10, F, F.binds (ps := ["level"]) fun _ _ _ _ _ _ us hl => match us, hl with | [_], _ => rfl⟩
  have D11 : Df K mg "_law_fault" sFault ["value"] := by
    have F := fun_mk (st := sFault) l11 c11 k11
    exact ⟨_, _, PySem.W.mg_of X G a11, F, F.binds (ps := ["value"]) fun _ _ _ _ _ _ us hl => match us, hl with | [_], _ => rfl⟩
  have D12 : Df K mg "_law_good" sGood ["store"] := by
    have F := fun_mk (st := sGood) l12 c12 k12
    exact ⟨_, _, PySem.W.mg_of X G a12, F, F.binds (ps := ["store"]) fun _ _ _ _ _ _ us hl => match us, hl with | [_], _ => rfl⟩
  have D13 : Df K mg "_law_spoilt" sSpoilt ["store", "value"] := by
    have F := fun_mk (st := sSpoilt) l13 c13 k13
    exact ⟨_, _, PySem.W.mg_of X G a13, F, F.binds (ps := ["store", "value"]) fun _ _ _ _ _ _ us hl => match us, hl with | [_, _], _ => rfl⟩
  have D14 : Df K mg "_law_right" sRight ["value"] := by
    have F := fun_mk (st := sRight) l14 c14 k14
    exact ⟨_, _, PySem.W.mg_of X G a14, F, F.binds (ps := ["value"]) fun _ _ _ _ _ _ us hl => match us, hl with | [_], _ => rfl⟩
  have D15 : Df K mg "law" sLaw ["script"] := by
    have F := fun_mk (st := sLaw) l15 c15 k15
    exact ⟨_, _, PySem.W.mg_of X G a15, F, F.binds (ps := ["script"]) fun _ _ _ _ _ _ us hl => match us, hl with | [_], _ => rfl⟩
  have oex1 : OexC K E1 := ⟨⟨_, _, _, _, _, _, _, _, _, _, _, _, _, _, _, x1_, rfl⟩, sa1, ec1, tE1, kc1⟩
  have exc1 : ExcC K E1 := ⟨ga1, gg1, ec1, hc1, cc1, spG, tkG, mc1⟩
  have xfc1 : XfC K E1 := ⟨ga1, gg1, ec1, hc1⟩
  have nit1 : Nit K "NoRule" "NoRule.__init__" "place" sRuleInit E1 := by
    have F : Fun K "__init__" "NoRule.__init__" sRuleInit fI1 _ := fun_mk (st := sRuleInit) li1 ci1 ki1
    exact ⟨_, _, in1, ti1, F, F.binds (ps := ["self", "place"]) fun _ _ _ _ _ _ us hl => match us, hl with | [_, _], _ => rfl⟩
  have kn1 : Kn K mg E1 1 := ⟨exc1, xfc1, np1, PySem.W.mg_none_of X G zVE, kit_ve vc1, ⟨S, PySem.W.mg_of X G aS, kit_sub iS tS sc1, PySem.W.exm_ref eS hS tS sc1⟩,
    ⟨_, PySem.W.mg_of X G aE0, by rw [kit_ref n1_0 iE0 tE0 s1_0]; rfl⟩,
    ⟨_, PySem.W.mg_of X G aE1, by rw [kit_same]; rfl⟩,
    ⟨_, PySem.W.mg_of X G aE2, by rw [kit_ref n1_2 iE2 tE2 s1_2]; rfl⟩,
    ⟨_, PySem.W.mg_of X G aE3, by rw [kit_ref n1_3 iE3 tE3 s1_3]; rfl⟩,
    ⟨_, PySem.W.mg_of X G aE4, by rw [kit_ref n1_4 iE4 tE4 s1_4]; rfl⟩,
    ⟨_, PySem.W.mg_of X G aE5, by rw [kit_ref n1_5 iE5 tE5 s1_5]; rfl⟩,
    ⟨_, PySem.W.mg_of X G aE6, by rw [kit_ref n1_6 iE6 tE6 s1_6]; rfl⟩,
    ⟨_, PySem.W.mg_of X G aE7, by rw [kit_ref n1_7 iE7 tE7 s1_7]; rfl⟩,
    ⟨_, PySem.W.mg_of X G aE8, by rw [kit_ref n1_8 iE8 tE8 s1_8]; rfl⟩,
    ⟨_, PySem.W.mg_of X G aE9, by rw [kit_ref n1_9 iE9 tE9 s1_9]; rfl⟩,
    ⟨_, PySem.W.mg_of X G aE10, by rw [kit_ref n1_10 iE10 tE10 s1_10]; rfl⟩,
    ⟨_, PySem.W.mg_of X G aE11, by rw [kit_ref n1_11 iE11 tE11 s1_11]; rfl⟩⟩
  have ru0 : Rul K mg "FIRST_COME" (ruleD "queue" .none) := ⟨.ref R0, .ref R0, PySem.W.mg_of X G aR0, rfl, fun H => .tup (.inr ⟨_, _, _, lR0, rfl, rfl, (by show 2 ≤ sizeLine; decide), .cons (a := V.ref G0) rfl (.cons (a := V.non) rfl .nil)⟩) (.cons (.tup (.inr ⟨_, _, _, lG0, rfl, rfl, (by show 1 ≤ sizeLine; decide), .cons (a := V.ref H0) rfl .nil⟩) (.cons (.tup (.inr ⟨_, _, _, lH0, rfl, rfl, (by show 2 ≤ sizeLine; decide), .cons (a := V.str ("queue" : Str)) ⟨tR0, rfl⟩ (.cons (a := V.non) rfl .nil)⟩) (.cons (.str _) (.cons .non .nil))) .nil)) (.cons .non .nil))⟩
  have ru1 : Rul K mg "LAST_COME" (ruleD "stack" .none) := ⟨.ref R1, .ref R1, PySem.W.mg_of X G aR1, rfl, fun H => .tup (.inr ⟨_, _, _, lR1, rfl, rfl, (by show 2 ≤ sizeLine; decide), .cons (a := V.ref G1) rfl (.cons (a := V.non) rfl .nil)⟩) (.cons (.tup (.inr ⟨_, _, _, lG1, rfl, rfl, (by show 1 ≤ sizeLine; decide), .cons (a := V.ref H1) rfl .nil⟩) (.cons (.tup (.inr ⟨_, _, _, lH1, rfl, rfl, (by show 2 ≤ sizeLine; decide), .cons (a := V.str ("stack" : Str)) ⟨tR1, rfl⟩ (.cons (a := V.non) rfl .nil)⟩) (.cons (.str _) (.cons .non .nil))) .nil)) (.cons .non .nil))⟩
  have ru2 : Rul K mg "ROUND_ROBIN" (ruleD "queue" (.int 1)) := ⟨.ref R2, .ref R2, PySem.W.mg_of X G aR2, rfl, fun H => .tup (.inr ⟨_, _, _, lR2, rfl, rfl, (by show 2 ≤ sizeLine; decide), .cons (a := V.ref G2) rfl (.cons (a := V.non) rfl .nil)⟩) (.cons (.tup (.inr ⟨_, _, _, lG2, rfl, rfl, (by show 1 ≤ sizeLine; decide), .cons (a := V.ref H2) rfl .nil⟩) (.cons (.tup (.inr ⟨_, _, _, lH2, rfl, rfl, (by show 2 ≤ sizeLine; decide), .cons (a := V.str ("queue" : Str)) ⟨tR2, rfl⟩ (.cons (a := V.int 1) ⟨uR2, rfl⟩ .nil)⟩) (.cons (.str _) (.cons (.int 1) .nil))) .nil)) (.cons .non .nil))⟩
  have B : Blt mg := ⟨PySem.W.mg_none_of X G z_len, PySem.W.mg_none_of X G z_isinstance, PySem.W.mg_none_of X G z_int, PySem.W.mg_none_of X G z_bool, PySem.W.mg_none_of X G z_tuple, PySem.W.mg_none_of X G z_str, PySem.W.mg_none_of X G z_range, PySem.W.mg_none_of X G z_enumerate, PySem.W.mg_none_of X G z_list⟩
  have M : ∃ u, mg "MOST_LEVELS" = some u ∧ RelV (.int 6) u := ⟨_, PySem.W.mg_of X G aM, ⟨tM, rfl⟩⟩
  have F := fun_mk (st := sLaw) l15 c15 k15
  have e := hfa.symm.trans (PySem.W.mg_of X G a15)
  cases e
  refine ⟨PySem.W.fnOf "law" "law" (defArgs sLaw) (defBody sLaw) (defScope sLaw) .none kV15 dc15 pm15 an15 cd15 ct15, fun s v => .of_eq rfl, fun base _ _ => ?_⟩
  have cI := ok_integer (P := l.prog) (w := w) (base := base) D0 B
  have cT := ok_tupleOf (P := l.prog) (w := w) (base := base) D1 B
  have cC := ok_count (P := l.prog) (w := w) (base := base) D4 cI
  have cL := ok_level (P := l.prog) (w := w) (base := base) D3 cT cC
  have er := erc_rule (P := l.prog) (w := w) (base := base) (PySem.W.mg_of X G aE1) oex1 np1 nit1
  have cK := ok_check (P := l.prog) (w := w) (base := base) D2 B M er cT cL cC
  have cM := ok_mix (P := l.prog) (w := w) (base := base) D5
  have cS := ok_store (P := l.prog) (w := w) (base := base) D6 B.len
  have cP := ok_pick (P := l.prog) (w := w) (base := base) D7 cM B.len
  have cJ := ok_int (P := l.prog) (w := w) (base := base) D8 B
  have cN := ok_kind (P := l.prog) (w := w) (base := base) (by decide) D9 B kn1
  have cV := ok_isLevel (P := l.prog) (w := w) (base := base) D10 B cJ
  have cF := ok_fault (P := l.prog) (w := w) (base := base) D11 B cV cJ
  have cG := ok_good (P := l.prog) (w := w) (base := base) D12 B cP
  have cQ := ok_spoilt (P := l.prog) (w := w) (base := base) D13 B cP
  have cR := ok_right (P := l.prog) (w := w) (base := base) D14 B kn1 cF cK cN
  exact ok_law F B cS cG cQ cR cV ru0 ru1 ru2
end Vk
namespace Vk
open PySem L2
theorem walk {l : PySem.W.OpenLaw} {q : Program} {loose : List Str} {XP : (Str → Option Value) → Heap → Prop} {YP : World → Heap → Prop} {d : DefRec} {K : Params → PySem.W.Frag} (hn : l.most = some 63) (hdf : d.params.defaults = [])
    (hY : ∀ (w : World) (h : Heap), YP w h → (K w.params).In h)
    (F : ∀ (w : World) (mg : Str → Option Value) (fa : Addr) (h : Heap), (K w.params).In h → h.Ns mainGlobals mg → mg d.name = some (.ref fa) →
      ∃ fd : FuncData, (∀ (s : Shared) (u : Value), BindsTo s fd ⟨[u], []⟩ [("script", u)]) ∧ ∀ base : Heap, (K w.params).In base → base.Ns mainGlobals mg → FnOk l.prog w (K w.params) mg base CX0 6 fa fd ["script"] (spLaw (K w.params))) :
    PySem.W.WalkO q loose XP YP l.row.toRowW d [] (fun f vs => PySem.call f vs) :=
  L2.walk_of (n := 63) (k := 6) (x := "script") (CX := fun _ => CX0) (sp := fun w => spLaw (K w.params)) hn (by decide) hdf ⟨rfl, by decide, by decide⟩ hY F (fun _ _ a ns hl _ hS => ⟨a, ns, rfl, hS, hl, fun _ => rfl⟩) fun _ _ _ _ _ z => z
end Vk
open PySem PySem.W PyProof.Rows in
set_option maxRecDepth 100000 in
set_option maxHeartbeats 0 in
theorem PySem.Challenge.cw_blindslots_k03_rules_checked_holds : PySem.Challenge.rw_blindslots_k03_rules_checked.Holds := by
  w_on; o_law; k_head; (case hw => w_witness2)
  k_fill
  refine Vk.walk (l := PySem.Challenge.rw_blindslots_k03_rules_checked) rfl rfl (fun w h Y => PySem.W.kIn_of Y) ?F
  case F =>
    intro w mg fa h KX G hmg
    refine' Vk.all_mk KX G hmg ?a0 ?l0 ?c0 ?k0 ?a1 ?l1 ?c1 ?k1 ?a2 ?l2 ?c2 ?k2 ?a3 ?l3 ?c3 ?k3 ?a4 ?l4 ?c4 ?k4 ?a5 ?l5 ?c5 ?k5 ?a6 ?l6 ?c6 ?k6 ?a7 ?l7 ?c7 ?k7 ?a8 ?l8 ?c8 ?k8 ?a9 ?l9 ?c9 ?k9 ?a10 ?l10 ?c10 ?k10 ?a11 ?l11 ?c11 ?k11 ?a12 ?l12 ?c12 ?k12 ?a13 ?l13 ?c13 ?k13 ?a14 ?l14 ?c14 ?k14 ?a15 ?l15 ?c15 ?k15 ?z_len ?z_isinstance ?z_int ?z_bool ?z_tuple ?z_str ?z_range ?z_enumerate ?z_list ?aS ?iS ?hS ?tS ?eS ?spG ?tkG ?zVE ?aE0 ?iE0 ?tE0 ?aE1 ?iE1 ?tE1 ?aE2 ?iE2 ?tE2 ?aE3 ?iE3 ?tE3 ?aE4 ?iE4 ?tE4 ?aE5 ?iE5 ?tE5 ?aE6 ?iE6 ?tE6 ?aE7 ?iE7 ?tE7 ?aE8 ?iE8 ?tE8 ?aE9 ?iE9 ?tE9 ?aE10 ?iE10 ?tE10 ?aE11 ?iE11 ?tE11 ?x1_ ?sa1 ?ga1 ?gg1 ?np1 ?in1 ?ti1 ?li1 ?ci1 ?ki1 ?kc1 ?ec1 ?hc1 ?cc1 ?mc1 ?vc1 ?sc1 ?s1_0 ?n1_0 ?s1_2 ?n1_2 ?s1_3 ?n1_3 ?s1_4 ?n1_4 ?s1_5 ?n1_5 ?s1_6 ?n1_6 ?s1_7 ?n1_7 ?s1_8 ?n1_8 ?s1_9 ?n1_9 ?s1_10 ?n1_10 ?s1_11 ?n1_11 ?aM ?aR0 ?lR0 ?lG0 ?lH0 ?aR1 ?lR1 ?lG1 ?lH1 ?aR2 ?lR2 ?lG2 ?lH2
    (case a0 => k_is)
    (case l0 => k_is)
    (case c0 => k_is)
    (case k0 => k_is)
    (case a1 => k_is)
    (case l1 => k_is)
    (case c1 => k_is)
    (case k1 => k_is)
    (case a2 => k_is)
    (case l2 => k_is)
    (case c2 => k_is)
    (case k2 => k_is)
    (case a3 => k_is)
    (case l3 => k_is)
    (case c3 => k_is)
    (case k3 => k_is)
    (case a4 => k_is)
    (case l4 => k_is)
    (case c4 => k_is)
    (case k4 => k_is)
    (case a5 => k_is)
    (case l5 => k_is)
    (case c5 => k_is)
    (case k5 => k_is)
    (case a6 => k_is)
    (case l6 => k_is)
    (case c6 => k_is)
    (case k6 => k_is)
    (case a7 => k_is)
    (case l7 => k_is)
    (case c7 => k_is)
    (case k7 => k_is)
    (case a8 => k_is)
    (case l8 => k_is)
    (case c8 => k_is)
    (case k8 => k_is)
    (case a9 => k_is)
    (case l9 => k_is)
    (case c9 => k_is)
    (case k9 => k_is)
    (case a10 => k_is)
    (case l10 => k_is)
    (case c10 => k_is)
    (case k10 => k_is)
    (case a11 => k_is)
    (case l11 => k_is)
    (case c11 => k_is)
    (case k11 => k_is)
    (case a12 => k_is)
    (case l12 => k_is)
    (case c12 => k_is)
    (case k12 => k_is)
    (case a13 => k_is)
    (case l13 => k_is)
    (case c13 => k_is)
    (case k13 => k_is)
    (case a14 => k_is)
    (case l14 => k_is)
    (case c14 => k_is)
    (case k14 => k_is)
    (case a15 => k_is)
    (case l15 => k_is)
    (case c15 => k_is)
    (case k15 => k_is)
    (case z_len => k_is)
    (case z_isinstance => k_is)
    (case z_int => k_is)
    (case z_bool => k_is)
    (case z_tuple => k_is)
    (case z_str => k_is)
    (case z_range => k_is)
    (case z_enumerate => k_is)
    (case z_list => k_is)
    (case aS => k_is)
    (case iS => k_is)
    (case hS => k_is)
    (case tS => k_is)
    (case eS => k_is)
    (case spG => k_is)
    (case tkG => k_is)
    (case zVE => k_is)
    (case aE0 => k_is)
    (case iE0 => k_is)
    (case tE0 => k_is)
    (case aE1 => k_is)
    (case iE1 => k_is)
    (case tE1 => k_is)
    (case aE2 => k_is)
    (case iE2 => k_is)
    (case tE2 => k_is)
    (case aE3 => k_is)
    (case iE3 => k_is)
    (case tE3 => k_is)
    (case aE4 => k_is)
    (case iE4 => k_is)
    (case tE4 => k_is)
    (case aE5 => k_is)
    (case iE5 => k_is)
    (case tE5 => k_is)
    (case aE6 => k_is)
    (case iE6 => k_is)
    (case tE6 => k_is)
    (case aE7 => k_is)
    (case iE7 => k_is)
    (case tE7 => k_is)
    (case aE8 => k_is)
    (case iE8 => k_is)
    (case tE8 => k_is)
    (case aE9 => k_is)
    (case iE9 => k_is)
    (case tE9 => k_is)
    (case aE10 => k_is)
    (case iE10 => k_is)
    (case tE10 => k_is)
    (case aE11 => k_is)
    (case iE11 => k_is)
    (case tE11 => k_is)
    (case x1_ => k_is)
    (case sa1 => k_is)
    (case ga1 => k_is)
    (case gg1 => k_is)
    (case np1 => k_is)
    (case in1 => k_is)
    (case ti1 => k_is)
    (case li1 => k_is)
    (case ci1 => k_is)
    (case ki1 => k_is)
    (case kc1 => k_is)
    (case ec1 => k_is)
    (case hc1 => k_is)
    (case cc1 => k_is)
    (case mc1 => k_is)
    (case vc1 => k_is)
    (case sc1 => k_is)
    (case s1_0 => k_is)
    (case n1_0 => rfl)
    (case s1_2 => k_is)
    (case n1_2 => rfl)
    (case s1_3 => k_is)
    (case n1_3 => rfl)
    (case s1_4 => k_is)
    (case n1_4 => rfl)
    (case s1_5 => k_is)
    (case n1_5 => rfl)
    (case s1_6 => k_is)
    (case n1_6 => rfl)
    (case s1_7 => k_is)
    (case n1_7 => rfl)
    (case s1_8 => k_is)
    (case n1_8 => rfl)
    (case s1_9 => k_is)
    (case n1_9 => rfl)
    (case s1_10 => k_is)
    (case n1_10 => rfl)
    (case s1_11 => k_is)
    (case n1_11 => rfl)
    (case aM => k_is)
    (case aR0 => k_is)
    (case lR0 => k_is)
    (case lG0 => k_is)
    (case lH0 => k_is)
    (case aR1 => k_is)
    (case lR1 => k_is)
    (case lG1 => k_is)
    (case lH1 => k_is)
    (case aR2 => k_is)
    (case lR2 => k_is)
    (case lG2 => k_is)
    (case lH2 => k_is)
