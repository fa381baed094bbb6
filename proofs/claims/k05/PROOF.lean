import PyProof.Rows.All
import Wide.All
import OpenK.AllK
import Wide.FinOn
import HandS.ForMost
import HandS.Exc
import HandS.TryOnly
import HandS.ExcOwn
import HandS.WordsExc
import HandS.Codes
import HandS.IsInst
import HandS.Walk
import HandS.AnyAll
import KE.GoesEnum
import KE.KExcIs
import HandS.ExcInit
import HandS.ExcField
import HandS.ExcIs
import HandS.SetFor
import HandS.TupAny
import HandS.TupMul
import PyProof.EqAt
import PyProof.NeKinds
import HandS.FStr
import HandS.Deep
import PyProof.StrOps2
import HandS.More
import HandS.EndTab
import HandS.EndBits
import PySem.Challenge.RW_blindslots_k05_texts_that_are_no_jobs
set_option Elab.async false
set_option linter.all false
set_option maxRecDepth 100000
set_option maxHeartbeats 8000000
/-! what every text of ours needs: a def as it stands, its call, the drawing store -/
namespace Vk
open PySem PySem.Spec PyProof.Rows L2
/-- a def of the module's top -/
structure Df (K : PySem.W.Frag) (mg : Str → Option Value) (x : Str) (st : Stmt) (ps : List Str) : Prop where
  ex : ∃ f fd, mg x = some (.ref f) ∧ Fun K x x st f fd ∧ Binds K fd ps []
/-- its promise -/
structure Cl (P : Program) (w : World) (K : PySem.W.Frag) (mg : Str → Option Value) (base : Heap) (CX : CXT) (k : Nat) (x : Str) (ps : List Str) (sp : Sp) : Prop where
  ex : ∃ f fd, mg x = some (.ref f) ∧ PySem.W.keepIn K (.ref f) = true ∧ Binds K fd ps [] ∧ FnOk P w K mg base CX k f fd ps sp
section
variable {P : Program} {w : World} {K : PySem.W.Frag} {mg : Str → Option Value} {base : Heap}
theorem cl0 {x : Str} {st : Stmt} {N ps : List Str} {k : Nat} {sp : Sp} (D : Df K mg x st ps) (S : FnScope N ps (defScope st)) (len : ∀ vs H Q E, sp vs H Q E → vs.length = ps.length)
    (body : ∀ (f : Addr) (cdv : Value) (A : Around) (outer : List Env) (s : Shared) (H : Hp) (vs : List V) (Q : VK) (E : XK), Room k (A.deeper (envOfC x (defScope st) s.heap.objs.size f cdv)) → sp vs H Q E →
      ∃ t, PSs (cxOf CX0 P w K mg base N x (defScope st) f cdv A outer s H E).nox (defBody st) t ∧ t { nx := fun _ H' => Q .non H', rt := Q } (start N vs) H) : Cl P w K mg base CX0 (k + 1) x ps sp := by
  obtain ⟨f, fd, hm, F, b⟩ := D.ex
  exact ⟨f, fd, hm, F.kp, b, F.ok S len (body f)⟩
theorem clX {x : Str} {st : Stmt} {N ps : List Str} {k : Nat} {sp : Sp} (D : Df K mg x st ps) (S : FnScope N ps (defScope st)) (len : ∀ vs H Q E, sp vs H Q E → vs.length = ps.length)
    (body : ∀ (f : Addr) (cdv : Value) (A : Around) (outer : List Env) (s : Shared) (H : Hp) (vs : List V) (Q : VK) (E : XK), Room k (A.deeper (envOfC x (defScope st) s.heap.objs.size f cdv)) → sp vs H Q E →
      ∃ t, PSs (cxOf (L2.CX P w) P w K mg base N x (defScope st) f cdv A outer s H E) (defBody st) t ∧ t { nx := fun _ H' => Q .non H', rt := Q } (start N vs) H) : Cl P w K mg base (L2.CX P w) (k + 1) x ps sp := by
  obtain ⟨f, fd, hm, F, b⟩ := D.ex
  exact ⟨f, fd, hm, F.kp, b, F.okX S len (body f)⟩
end
def tCal (sp : Sp) (t : TA) : TE := fun σ H Q => t σ H fun vs H1 => sp (vs ++ []) H1 Q E0
section
variable {X : Cx}
theorem pc {x : Str} {ps : List Str} {sp : Sp} {j k : Nat} {e : Expr} {es : List Expr} {t : TA} {p pos : Pos} (c : Cl X.prog X.w X.K X.mg X.base CX0 k x ps sp) (hr : Room j X.A) (hk : k ≤ j) (ha : PA X (e :: es) t) (hg : Gl X x := by rfl)
    (hdb : (x == ("__debug__" : Str)) = false := by decide) (he : starEach (e :: es) X.env = (false, eval e X.env) :: starEach es X.env := by rfl) (hpl : (backTo pos (starEach es X.env)).any (·.1) = false := by rfl) :
    PE X (.Call (.Name x p) (e :: es) [] pos) (tCal sp t) := by
  obtain ⟨f, fd, hm, kp, b, F⟩ := c.ex
  exact pe_call F (hr.mono hk) hg hm kp b .nil pass0 ha hdb he hpl
end
/-! ### heaps -/
def NoTbl : HO → Prop
  | .tbl _ => False
  | _ => True
/-- all that was tracked is as it was, but that tables of code objects may have grown -/
structure Same (H H' : Hp) : Prop where
  at_ : ∀ b o, H b = some o → NoTbl o → H' b = some o
  has : ∀ b, H b ≠ none → H' b ≠ none
  tab : ∀ P, GxR.TabG H P → GxR.TabG H' P
theorem Same.at {H H' : Hp} {b : Addr} {o : HO} (s : Same H H') (h : H b = some o) (n : NoTbl o := by exact True.intro) : H' b = some o := s.at_ b o h n
theorem Same.refl (H : Hp) : Same H H := ⟨fun _ _ h _ => h, fun _ h => h, fun _ h => h⟩
theorem Same.trans {H H1 H2 : Hp} (a : Same H H1) (b : Same H1 H2) : Same H H2 := ⟨fun c o h n => b.at_ c o (a.at_ c o h n) n, fun c h => b.has c (a.has c h), fun P h => b.tab P (a.tab P h)⟩
theorem Same.of {H H' : Hp} (h : ∀ b o, H b = some o → H' b = some o) : Same H H' := by
  refine ⟨fun b o e _ => h b o e, fun b e => ?_, fun P ⟨ps, e, t⟩ => ⟨ps, h _ _ e, t⟩⟩
  cases q : H b with
  | none => exact absurd q e
  | some o =>
    rw [h b o q]
    exact fun z => nomatch z
theorem Same.free {H H' : Hp} (e : Same H H') {l : Addr} (h : H' l = none) : H l = none := by
  cases q : H l with
  | none => rfl
  | some o => exact absurd h (e.has l (by rw [q]; exact fun z => nomatch z))
theorem Same.seq {K : PySem.W.Frag} {H H' : Hp} {a : Addr} {xs : List V} (e : Same H H') (h : SqL K H a xs) : SqL K H' a xs := by
  rcases h with (h | ⟨o, h⟩) | h
  · exact .inl (.inl (e.at h))
  · exact .inl (.inr ⟨o, e.at h⟩)
  · exact .inr h
theorem ne_has {H : Hp} {a p : Addr} (h : H a ≠ none) (n : H p = none) : p ≠ a := fun z => h (z ▸ n)
theorem has_of {H : Hp} {a : Addr} {o : HO} (h : H a = some o) : H a ≠ none := by
  rw [h]
  exact fun z => nomatch z
/-- a table grows -/
theorem same_tabbed {P : Addr} {H H' : Hp} (h : GxR.Tabbed P H H') (h0 : GxR.TabG H P) : Same H H' := by
  obtain ⟨⟨ps', e', t'⟩, k⟩ := h
  obtain ⟨ps, e, t⟩ := h0
  refine ⟨fun b o q n => ?_, fun b q => ?_, fun Q hq => ?_⟩
  · by_cases z : b = P
    · rw [z, e] at q
      cases q
      exact False.elim n
    · rw [k b z]
      exact q
  · by_cases z : b = P
    · rw [z, e']
      exact fun z => nomatch z
    · rw [k b z]
      exact q
  · by_cases z : Q = P
    · rw [z]
      exact ⟨ps', e', t'⟩
    · obtain ⟨qs, f, u⟩ := hq
      exact ⟨qs, by rw [k Q z]; exact f, u⟩
/-- the heap without what stands at a -/
def Off (a : Addr) (H : Hp) : Hp := fun b => if b = a then none else H b
theorem off_ne {a b : Addr} {H : Hp} (h : b ≠ a) : Off a H b = H b := if_neg h
theorem off_same {a : Addr} {H : Hp} : Off a H a = none := if_pos rfl
theorem off_some {a b : Addr} {H : Hp} {o : HO} (e : Off a H b = some o) : b ≠ a ∧ H b = some o := by
  by_cases h : b = a
  · rw [h, off_same] at e; cases e
  · exact ⟨h, by rw [off_ne h] at e; exact e⟩
theorem off_sub (a : Addr) (H : Hp) : Same (Off a H) H := .of fun b o e => (off_some e).2
theorem off_mono {a : Addr} {H H' : Hp} (s : Same H H') : Same (Off a H) (Off a H') := by
  refine ⟨fun b o e n => ?_, fun b e => ?_, fun P ⟨ps, e, t⟩ => ?_⟩
  · obtain ⟨h1, h2⟩ := off_some e
    rw [off_ne h1]
    exact s.at_ b o h2 n
  · by_cases h : b = a
    · rw [h, off_same] at e
      exact absurd rfl e
    · rw [off_ne h] at e ⊢
      exact s.has b e
  · obtain ⟨h1, h2⟩ := off_some e
    obtain ⟨qs, f, u⟩ := s.tab P ⟨ps, h2, t⟩
    exact ⟨qs, by rw [off_ne h1]; exact f, u⟩
theorem off_upd {a : Addr} {H : Hp} {o : HO} : Off a (upd H a o) = Off a H := by
  funext b
  by_cases h : b = a
  · rw [h, off_same, off_same]
  · rw [off_ne h, off_ne h, upd_ne h]
theorem same_new {H : Hp} {p : Addr} {o : HO} (h : H p = none) : Same H (upd H p o) := .of fun b u e => by
  rw [upd_ne (ne_of_none e h)]; exact e
theorem same_seqT {K : PySem.W.Frag} {H H' : Hp} {a : Addr} {xs : List V} (e : Same H H') (h : SqT K H a xs) : SqT K H' a xs := by
  rcases h with (h | ⟨o, h⟩) | h
  · exact .inl (.inl (e.at h))
  · exact .inl (.inr ⟨o, e.at h⟩)
  · exact .inr h
mutual
theorem dp_same {K : PySem.W.Frag} {H H' : Hp} (e : Same H H') : ∀ {v : V} {d : PyData}, Dp K H v d → Dp K H' v d
  | _, _, .non => .non
  | _, _, .bl b => .bl b
  | _, _, .int i => .int i
  | _, _, .str x => .str x
  | _, _, .lst h r => .lst (e.seq h) (dps_same e r)
  | _, _, .tup h r => .tup (same_seqT e h) (dps_same e r)
theorem dps_same {K : PySem.W.Frag} {H H' : Hp} (e : Same H H') : ∀ {vs : List V} {ds : List PyData}, DpAll K H vs ds → DpAll K H' vs ds
  | _, _, .nil => .nil
  | _, _, .cons h r => .cons (dp_same e h) (dps_same e r)
end
/-! ### the law's store: cells, next index, digits, all mixed, draws so far (at most n) -/
structure Sto (sc a : Addr) (n : Int) (H : Hp) : Prop where
  ex : ∃ (cs : List Int) (i dg mx c : Int), H a = some (.lst [.ref sc, .int i, .int dg, .int mx, .int c]) ∧ sc ≠ a ∧ H sc = some (.lst (cs.map V.int)) ∧ cs.length ≤ 63 ∧ 0 ≤ i ∧ 0 ≤ dg ∧ 0 ≤ c ∧ c ≤ n
theorem Sto.more {sc a : Addr} {n m : Int} {H : Hp} (s : Sto sc a n H) (h : n ≤ m) : Sto sc a m H := by
  obtain ⟨x2, x3, x4, x5, x6, h1, h2, h3, h4, h5, h6, h7, h8⟩ := s.ex
  exact ⟨x2, x3, x4, x5, x6, h1, h2, h3, h4, h5, h6, h7, by omega⟩
/-- all else stands -/
def Kept (a : Addr) (H H' : Hp) : Prop := Same (Off a H) (Off a H')
theorem Kept.refl (a : Addr) (H : Hp) : Kept a H H := Same.refl _
theorem Kept.trans {a : Addr} {H H1 H2 : Hp} (x : Kept a H H1) (y : Kept a H1 H2) : Kept a H H2 := Same.trans x y
theorem kept_same {a : Addr} {H H' : Hp} (s : Same H H') : Kept a H H' := off_mono s
theorem Sto.same {sc a : Addr} {n : Int} {H H' : Hp} (s : Sto sc a n H) (e : Same H H') : Sto sc a n H' := by
  obtain ⟨x2, x3, x4, x5, x6, h1, h2, h3, h4⟩ := s.ex
  exact ⟨x2, x3, x4, x5, x6, e.at h1, h2, e.at h3, h4⟩
theorem Sto.put {sc a : Addr} {n : Int} {H : Hp} {cs : List Int} {i dg mx c : Int} (hs : sc ≠ a) (hq : H sc = some (.lst (cs.map V.int))) (hl : cs.length ≤ 63) (hi : 0 ≤ i) (hd : 0 ≤ dg) (hc : 0 ≤ c) (hn : c ≤ n) :
    Sto sc a n (upd H a (.lst [.ref sc, .int i, .int dg, .int mx, .int c])) :=
  ⟨cs, i, dg, mx, c, upd_same, hs, by rw [upd_ne hs]; exact hq, hl, hi, hd, hc, hn⟩
/-- another list changes -/
theorem Sto.other {sc a l : Addr} {n : Int} {H : Hp} {o : HO} (s : Sto sc a n H) (h1 : l ≠ a) (h2 : l ≠ sc) : Sto sc a n (upd H l o) := by
  obtain ⟨x2, x3, x4, x5, x6, g1, g2, g3, g4⟩ := s.ex
  exact ⟨x2, x3, x4, x5, x6, by rw [upd_ne h1.symm]; exact g1, g2, by rw [upd_ne h2.symm]; exact g3, g4⟩
theorem Sto.ne {sc a p : Addr} {n : Int} {H : Hp} (s : Sto sc a n H) (h : H p = none) : p ≠ a := by
  obtain ⟨_, _, _, _, _, h1, _⟩ := s.ex
  exact (ne_of_none h1 h).symm
theorem Sto.ne2 {sc a p : Addr} {n : Int} {H : Hp} (s : Sto sc a n H) (h : H p = none) : p ≠ sc := by
  obtain ⟨_, _, _, _, _, _, _, h1, _⟩ := s.ex
  exact (ne_of_none h1 h).symm
theorem kept_put {a : Addr} {H : Hp} {o : HO} : Kept a H (upd H a o) := by unfold Kept; rw [off_upd]; exact Same.refl _
theorem Sto.hasA {sc a : Addr} {n : Int} {H : Hp} (s : Sto sc a n H) : H a ≠ none := by
  obtain ⟨_, _, _, _, _, h1, _⟩ := s.ex
  exact has_of h1
theorem Sto.tab {sc a P : Addr} {n : Int} {H : Hp} (s : Sto sc a n H) (t : GxR.TabG H P) : GxR.TabG (Off a H) P := by
  obtain ⟨_, _, _, _, _, h1, _⟩ := s.ex
  obtain ⟨ps, e, u⟩ := t
  exact ⟨ps, by rw [off_ne (ne_of h1 e (fun z => nomatch z)).symm]; exact e, u⟩
theorem Kept.tab {sc a P : Addr} {n : Int} {H H' : Hp} (k : Kept a H H') (s : Sto sc a n H) (t : GxR.TabG H P) : GxR.TabG H' P := (off_sub a H').tab P (Same.tab k P (s.tab t))
end Vk
namespace Vk
open PySem
def top (i : Nat) : Stmt := PySem.Challenge.pw_blindslots_k05_texts_that_are_no_jobs.main.body.getD i (.Pass ⟨0, 0, 0, 0⟩)
abbrev sInteger : Stmt := top 15
abbrev sTupleOf : Stmt := top 16
abbrev sName : Stmt := top 17
abbrev sCheck : Stmt := top 19
abbrev sEach : Stmt := top 20
abbrev sIsJob : Stmt := top 21
abbrev sArrival : Stmt := top 22
abbrev sWaits : Stmt := top 23
abbrev sReadJobs : Stmt := top 26
abbrev sReadJob : Stmt := top 27
abbrev sReadEntry : Stmt := top 28
abbrev sReadCount : Stmt := top 29
abbrev sReadNumber : Stmt := top 30
abbrev sMix : Stmt := top 32
abbrev sStore : Stmt := top 33
abbrev sPick : Stmt := top 34
abbrev sNames : Stmt := top 35
abbrev sBefore : Stmt := top 36
abbrev sJobs : Stmt := top 37
abbrev sInt : Stmt := top 38
abbrev sIsJobL : Stmt := top 39
abbrev sFault : Stmt := top 40
abbrev sKind : Stmt := top 41
abbrev sJobLine : Stmt := top 42
abbrev sNumberL : Stmt := top 43
abbrev sReadL : Stmt := top 44
abbrev sDue : Stmt := top 45
abbrev sSpoiltLine : Stmt := top 46
abbrev sSpoiltText : Stmt := top 47
abbrev sRight : Stmt := top 48
abbrev sLaw : Stmt := top 49
end Vk
/-! values as data: kinds, integers, tuples -/
namespace Vk
open PySem PySem.Spec PyProof.Rows L2
def tyN : PyData → String
  | .none => "NoneType"
  | .bool _ => "bool"
  | .int _ => "int"
  | .str _ => "str"
  | .list _ => "list"
  | .tuple _ => "tuple"
  | .dict _ => "dict"
theorem dp_ty {K : PySem.W.Frag} {H : Hp} {v : V} {d : PyData} (h : Dp K H v d) : TyX K H v (.type (tyN d)) := by
  cases h with
  | non => exact .base .non
  | bl b => exact .base (.bl b)
  | int i => exact .base (.int i)
  | str x => exact .base (.str x)
  | lst q _ =>
    rcases q with (q | ⟨o, q⟩) | ⟨o, its, n, hk, hc, _⟩
    · exact .base (.lst q)
    · exact .base (.frz q)
    · exact .kList hk hc
  | tup q _ =>
    rcases q with (q | ⟨o, q⟩) | ⟨o, its, n, hk, hc, _⟩
    · exact .base (.tup q)
    · exact .fTuple q
    · exact .kTuple hk hc
def isIntD : PyData → Bool
  | .bool _ => true
  | .int _ => true
  | _ => false
def isBoolD : PyData → Bool
  | .bool _ => true
  | _ => false
def isTupD : PyData → Bool
  | .tuple _ => true
  | _ => false
def isStrD : PyData → Bool
  | .str _ => true
  | _ => false
section
variable {K : PySem.W.Frag} {H : Hp} {v : V} {d : PyData}
theorem kit_int (h : Dp K H v d) : PySem.W.kitOne K (.type (tyN d)) (.type "int") = some (isIntD d) := by
  cases h with
  | non => exact kit_ty (show kitB "NoneType" "int" = some false by decide +kernel)
  | bl _ => exact kit_ty (show kitB "bool" "int" = some true by decide +kernel)
  | int _ => exact kit_ty (show kitB "int" "int" = some true by decide +kernel)
  | str _ => exact kit_ty (show kitB "str" "int" = some false by decide +kernel)
  | lst _ _ => exact kit_ty (show kitB "list" "int" = some false by decide +kernel)
  | tup _ _ => exact kit_ty (show kitB "tuple" "int" = some false by decide +kernel)
theorem kit_bool (h : Dp K H v d) : PySem.W.kitOne K (.type (tyN d)) (.type "bool") = some (isBoolD d) := by
  cases h with
  | non => exact kit_ty (show kitB "NoneType" "bool" = some false by decide +kernel)
  | bl _ => exact kit_ty (show kitB "bool" "bool" = some true by decide +kernel)
  | int _ => exact kit_ty (show kitB "int" "bool" = some false by decide +kernel)
  | str _ => exact kit_ty (show kitB "str" "bool" = some false by decide +kernel)
  | lst _ _ => exact kit_ty (show kitB "list" "bool" = some false by decide +kernel)
  | tup _ _ => exact kit_ty (show kitB "tuple" "bool" = some false by decide +kernel)
theorem kit_tup (h : Dp K H v d) : PySem.W.kitOne K (.type (tyN d)) (.type "tuple") = some (isTupD d) := by
  cases h with
  | non => exact kit_ty (show kitB "NoneType" "tuple" = some false by decide +kernel)
  | bl _ => exact kit_ty (show kitB "bool" "tuple" = some false by decide +kernel)
  | int _ => exact kit_ty (show kitB "int" "tuple" = some false by decide +kernel)
  | str _ => exact kit_ty (show kitB "str" "tuple" = some false by decide +kernel)
  | lst _ _ => exact kit_ty (show kitB "list" "tuple" = some false by decide +kernel)
  | tup _ _ => exact kit_ty (show kitB "tuple" "tuple" = some true by decide +kernel)
theorem kit_strT (h : Dp K H v d) : PySem.W.kitOne K (.type (tyN d)) (.type "str") = some (isStrD d) := by
  cases h with
  | non => exact kit_ty (show kitB "NoneType" "str" = some false by decide +kernel)
  | bl _ => exact kit_ty (show kitB "bool" "str" = some false by decide +kernel)
  | int _ => exact kit_ty (show kitB "int" "str" = some false by decide +kernel)
  | str _ => exact kit_ty (show kitB "str" "str" = some true by decide +kernel)
  | lst _ _ => exact kit_ty (show kitB "list" "str" = some false by decide +kernel)
  | tup _ _ => exact kit_ty (show kitB "tuple" "str" = some false by decide +kernel)
theorem dp_tuple {ds : List PyData} (h : Dp K H v (.tuple ds)) : ∃ a xs, v = .ref a ∧ SqT K H a xs ∧ DpAll K H xs ds := by
  cases h with
  | tup q r => exact ⟨_, _, rfl, q, r⟩
theorem dp_int {i : Int} (h : Dp K H v (.int i)) : v = .int i := by
  cases h
  rfl
theorem dp_bool {i : Bool} (h : Dp K H v (.bool i)) : v = .bl i := by
  cases h
  rfl
theorem dp_str {i : Str} (h : Dp K H v (.str i)) : v = .str i := by
  cases h
  rfl
theorem dp_none (h : Dp K H v .none) : v = .non := by
  cases h
  rfl
theorem dps_len : ∀ {vs : List V} {ds : List PyData}, DpAll K H vs ds → vs.length = ds.length
  | _, _, .nil => rfl
  | _, _, .cons _ r => congrArg (· + 1) (dps_len r)
theorem dps_get : ∀ {vs : List V} {ds : List PyData} {i : Nat} {d : PyData}, DpAll K H vs ds → ds[i]? = some d → ∃ v, vs[i]? = some v ∧ Dp K H v d
  | _, _, 0, _, .cons h _, e => by cases e; exact ⟨_, rfl, h⟩
  | _, _, i + 1, _, .cons _ r, e => by
    obtain ⟨v, h1, h2⟩ := dps_get r (i := i) (by simpa using e)
    exact ⟨v, by simpa using h1, h2⟩
theorem dps_getV : ∀ {vs : List V} {ds : List PyData} {i : Nat} {v : V}, DpAll K H vs ds → vs[i]? = some v → ∃ d, ds[i]? = some d ∧ Dp K H v d
  | _, _, 0, _, .cons h _, e => by cases e; exact ⟨_, rfl, h⟩
  | _, _, i + 1, _, .cons _ r, e => by
    obtain ⟨v, h1, h2⟩ := dps_getV r (i := i) (by simpa using e)
    exact ⟨v, by simpa using h1, h2⟩
theorem dps_app : ∀ {vs us : List V} {ds es : List PyData}, DpAll K H vs ds → DpAll K H us es → DpAll K H (vs ++ us) (ds ++ es)
  | _, _, _, _, .nil, h => h
  | _, _, _, _, .cons h r, q => .cons h (dps_app r q)
theorem dps_take : ∀ {vs : List V} {ds : List PyData} (n : Nat), DpAll K H vs ds → DpAll K H (vs.take n) (ds.take n)
  | _, _, 0, _ => .nil
  | _, _, n + 1, .nil => .nil
  | _, _, n + 1, .cons h r => .cons h (dps_take n r)
theorem dps_drop : ∀ {vs : List V} {ds : List PyData} (n : Nat), DpAll K H vs ds → DpAll K H (vs.drop n) (ds.drop n)
  | _, _, 0, h => h
  | _, _, n + 1, .nil => .nil
  | _, _, n + 1, .cons h r => dps_drop n r
/-- flat data -/
def flatD : PyData → Bool
  | .none => true
  | .bool _ => true
  | .int _ => true
  | .str _ => true
  | _ => false
theorem dp_flat (h : Dp K H v d) : flatV v = flatD d := by
  cases h <;> rfl
end
/-- an integer from a least one on -/
def integerD (least : Int) : PyData → Bool
  | .int i => decide (least ≤ i)
  | _ => false
def tupleND (n : Int) : PyData → Bool
  | .tuple ds => decide ((ds.length : Int) = n)
  | _ => false
/-! ### their defs' promises -/
def spInteger (K : PySem.W.Frag) : Sp := fun vs H Q _ => ∃ (v : V) (d : PyData) (least : Int), vs = [v, .int least] ∧ Dp K H v d ∧ Q (.bl (integerD least d)) H
def spTupleOf (K : PySem.W.Frag) : Sp := fun vs H Q _ => ∃ (v : V) (d : PyData) (n : Int), vs = [v, .int n] ∧ Dp K H v d ∧ Q (.bl (tupleND n d)) H
structure Blt (mg : Str → Option Value) : Prop where
  len : mg "len" = none
  isi : mg "isinstance" = none
  int : mg "int" = none
  bool : mg "bool" = none
  tuple : mg "tuple" = none
  str : mg "str" = none
  range : mg "range" = none
  enum : mg "enumerate" = none
  list : mg "list" = none
/-- isinstance(e, T), T a built-in type -/
def tIsi (K : PySem.W.Frag) (T : String) (te : TE) : TE := tCB (rIsi K) (tCons te (tCons (tC (.ty T)) tNil))
theorem isi_go {K : PySem.W.Frag} {T : String} {te : TE} {σ : L2.St} {H H1 : Hp} {v : V} {d : PyData} {b : Bool} {Q : VK} (h : ∀ R : VK, R v H1 → te σ H R) (hd : Dp K H1 v d) (k : PySem.W.kitOne K (.type (tyN d)) (.type T) = some b) (q : Q (.bl b) H1) : tIsi K T te σ H Q :=
  h _ ⟨v, .ty T, _, _, b, rfl, .ty T, dp_ty hd, k, q⟩
end Vk
namespace Vk
open PySem PySem.Spec PyProof.Rows L2
section
variable {P : Program} {w : World} {K : PySem.W.Frag} {mg : Str → Option Value} {base : Heap}
/-! ### _law_mix -/
def spMix : Sp := fun vs H Q _ => ∃ (n t : Int), vs = [.int n, .int t] ∧ 0 ≤ t ∧ t ≤ 10000000 ∧ ∀ r : Int, 0 ≤ r → r < 2147483648 → Q (.int r) H
theorem scMix : FnScope ["number", "turn", "value"] ["number", "turn"] (defScope sMix) := ⟨rfl, rfl, rfl, by decide +kernel, rfl, by decide +kernel, by decide +kernel⟩
theorem ok_mix (D : Df K mg "_law_mix" sMix ["number", "turn"]) : Cl P w K mg base CX0 1 "_law_mix" ["number", "turn"] spMix := by
  refine cl0 D scMix (fun vs H Q E h => ?_) (fun f cdv A outer s H vs Q E hr h => ?_)
  · obtain ⟨n, t, rfl, _⟩ := h
    rfl
  · obtain ⟨n, t, rfl, h0, h1, k⟩ := h
    refine ⟨_, pss_cons (ps_set (i := 2) scMix.nd rfl (Or.inl rfl) (pe_op op_mod (pe_op op_add (pe_op op_add (pe_op op_add (pe_op op_mod (pv 0) pe_int) (pe_op op_mul (pe_op op_mul pe_int (pv 1)) (pv 1))) (pe_op op_mul pe_int (pv 1))) pe_int) pe_int))
      (pss_cons (ps_set (i := 2) scMix.nd rfl (Or.inl rfl) (pe_op op_mod (pe_op op_mul (pe_op op_mod (pe_op op_mul (pv 2) (pv 2)) pe_int) (pv 2)) pe_int))
      (pss_one (ps_ret (pe_op op_fdiv (pe_op op_mod (pe_op op_add (pe_op op_mul (pv 2) pe_int) (pv 1)) pe_int) pe_int)))), ?_⟩
    refine ⟨_, rfl, _, _, rfl, rfl, (by show (0 : Int) < 2147483629; decide), _, rfl, _, _, rfl, rfl, .inl (by decide), _, rfl, _, _, rfl, rfl, .inr ⟨by omega, by omega⟩, _, _, rfl, rfl, _, rfl, _, _, rfl, rfl, .inl (by decide), _, _, rfl, rfl, _, _, rfl, rfl, _, _, rfl, rfl, (by show (0 : Int) < 2147483629; decide), ?_⟩
    generalize hv : (n % 2147483629 + 7919 * t * t + 104729 * t + 13) % 2147483629 = v
    have v0 : 0 ≤ v := by rw [← hv]; exact Int.emod_nonneg _ (by decide)
    have v1 : v < 2147483629 := by rw [← hv]; exact Int.emod_lt_of_pos _ (by decide)
    refine ⟨_, rfl, _, rfl, _, _, rfl, rfl, .inl ⟨by omega, by omega⟩, _, _, rfl, rfl, (by show (0 : Int) < 2147483587; decide), _, rfl, _, _, rfl, rfl, .inr ⟨by omega, by omega⟩, _, _, rfl, rfl, (by show (0 : Int) < 2147483563; decide), ?_⟩
    generalize hu : v * v % 2147483587 * v % 2147483563 = u
    have u0 : 0 ≤ u := by rw [← hu]; exact Int.emod_nonneg _ (by decide)
    have u1 : u < 2147483563 := by rw [← hu]; exact Int.emod_lt_of_pos _ (by decide)
    refine ⟨_, rfl, _, _, rfl, rfl, .inl ⟨by omega, by omega⟩, _, rfl, _, _, rfl, rfl, _, _, rfl, rfl, (by show (0 : Int) < 2147483399; decide), _, _, rfl, rfl, ⟨by decide, by decide⟩, ?_⟩
    exact k _ (by omega) (by omega)
/-! ### _law_store -/
def spStore (K : PySem.W.Frag) : Sp := fun vs H Q _ => ∃ (a : Addr) (ns : List Int), vs = [.ref a] ∧ SqL K H a (ns.map V.int) ∧ ns.length ≤ 63 ∧ ∀ (p sc : Addr) (H' : Hp), Same H H' → H p = none → Sto sc p 0 H' → Q (.ref p) H'
theorem scStore : FnScope ["script", "mixed", "cell"] ["script"] (defScope sStore) := ⟨rfl, rfl, rfl, by decide +kernel, rfl, by decide +kernel, by decide +kernel⟩
theorem map_int_get {ns : List Int} {i : Nat} {y : V} (h : (ns.map V.int)[i]? = some y) : ∃ z, ns[i]? = some z ∧ y = V.int z := by
  rw [List.getElem?_map] at h
  cases e : ns[i]? with
  | none => rw [e] at h; cases h
  | some z => rw [e] at h; exact ⟨z, rfl, (Option.some.inj h).symm⟩
theorem cut63 {ns : List Int} (h : ns.length ≤ 63) : cutV (ns.map V.int) none (some 63) = ns.map V.int := by
  have e1 : HT.sIx (ns.map V.int).length 0 none = 0 := rfl
  have e2 : HT.sIx (ns.map V.int).length (ns.map V.int).length (some 63) = min 63 (ns.map V.int).length := HT.sIx_nat _ _ 63
  unfold cutV
  rw [e1, e2, List.drop_zero]
  exact List.take_of_length_le (by rw [List.length_map]; omega)
theorem ok_store (D : Df K mg "_law_store" sStore ["script"]) (len : mg "len" = none) : Cl P w K mg base CX0 1 "_law_store" ["script"] (spStore K) := by
  refine cl0 D scStore (fun vs H Q E h => ?_) (fun f cdv A outer s H vs Q E hr h => ?_)
  · obtain ⟨a, ns, rfl, _⟩ := h
    rfl
  · obtain ⟨a, ns, rfl, hS, hl, k⟩ := h
    refine ⟨_, pss_cons (ps_set (i := 1) scStore.nd rfl (Or.inl rfl) (pe_callB call_len_seq (by rfl) len PySem.boot_len (pa_cons (pv 0) pa_nil)))
      (pss_cons (ps_for PassesOwn.never rfl (pi_list (pe_slice sl_list (pv 0) po_none (po_some pe_int))) (pg_name (i := 2) scStore.nd rfl (Or.inl rfl))
        (pss_one (ps_set (i := 1) scStore.nd rfl (Or.inl rfl) (pe_op op_mod (pe_op op_add (pe_op op_add (pe_op op_mul (pv 1) pe_int) (pe_op op_mod (pv 2) pe_int)) pe_int) pe_int))))
      (pss_one (ps_ret (pe_lst (pa_cons (pe_slice sl_list (pv 0) po_none (po_some pe_int)) (pa_cons pe_int (pa_cons pe_int (pa_cons (pv 1) (pa_cons pe_int pa_nil))))))))), ?_⟩
    refine ⟨_, rfl, a, _, rfl, .inl hS, ?_⟩
    refine ⟨_, rfl, _, rfl, a, _, rfl, hS, fun p hp => ⟨p, rfl, ⟨_, SqL.of upd_same⟩, ?_⟩⟩
    rw [cut63 hl]
    refine for_list (K := K) (a := p) (xs := ns.map V.int) (fun i σ H' => ∃ (m : Int) (v : Option V), σ = [some (.ref a), some (.int m), v] ∧ 0 ≤ m ∧ m < 2147483648 ∧ H' = upd H p (.lst (ns.map V.int)))
      ⟨_, none, rfl, Int.natCast_nonneg _, by rw [List.length_map]; omega, rfl⟩ (fun i σ H' _ ⟨m, v, _, _, _, e⟩ => by rw [e]; exact SqL.of upd_same) ?_ ?_
    · rintro i y σ H' hi ⟨m, v, rfl, m0, m1, rfl⟩
      obtain ⟨z, _, rfl⟩ := map_int_get hi
      refine ⟨_, rfl, _, _, rfl, rfl, .inl ⟨by omega, by omega⟩, _, rfl, _, _, rfl, rfl, (by show (0 : Int) < 1000000007; decide), _, _, rfl, rfl, _, _, rfl, rfl, _, _, rfl, rfl, (by show (0 : Int) < 2147483629; decide), ?_⟩
      refine ⟨_, _, rfl, Int.emod_nonneg _ (by decide), ?_, rfl⟩
      have q := Int.emod_lt_of_pos (m * 16807 + z % 1000000007 + 11) (show (0 : Int) < 2147483629 by decide)
      omega
    · rintro σ H' ⟨m, v, rfl, m0, m1, rfl⟩
      have s1 : Same H (upd H p (.lst (ns.map V.int))) := same_new hp
      refine ⟨_, rfl, _, rfl, a, _, rfl, s1.seq hS, fun q hq => ?_⟩
      rw [cut63 hl]
      have s2 : Same H (upd (upd H p (.lst (ns.map V.int))) q (.lst (ns.map V.int))) := s1.trans (same_new hq)
      refine ⟨_, rfl, (by show 5 ≤ sizeLine; decide), fun r hr' => ?_⟩
      have nq : q ≠ r := ne_of_none upd_same hr'
      refine k r q _ (s2.trans (same_new hr')) ((s2.trans (Same.refl _)).free hr') ?_
      exact Sto.put nq upd_same hl (by decide) (by decide) (by decide) (by decide)
end
end Vk
namespace Vk
open PySem PySem.Spec PyProof.Rows L2
section
variable {P : Program} {w : World} {K : PySem.W.Frag} {mg : Str → Option Value} {base : Heap}
def spPick : Sp := fun vs H Q _ => ∃ (a sc : Addr) (m n : Int), vs = [.ref a, .int m] ∧ 0 < m ∧ m < 1000000000 ∧ Sto sc a n H ∧ n ≤ 1000000 ∧
  ∀ (r : Int) (H' : Hp), 0 ≤ r → r < m → Sto sc a (n + 1) H' → Kept a H H' → Q (.int r) H'
theorem scPick : FnScope ["store", "count", "cell", "digit"] ["store", "count"] (defScope sPick) := ⟨rfl, rfl, rfl, by decide +kernel, rfl, by decide +kernel, by decide +kernel⟩
theorem ok_pick (D : Df K mg "_law_pick" sPick ["store", "count"]) (M : Cl P w K mg base CX0 1 "_law_mix" ["number", "turn"] spMix) (len : mg "len" = none) : Cl P w K mg base CX0 2 "_law_pick" ["store", "count"] spPick := by
  refine cl0 D scPick (fun vs H Q E h => ?_) (fun f cdv A outer s H vs Q E hr h => ?_)
  · obtain ⟨a, sc, m, n, rfl, _⟩ := h
    rfl
  · obtain ⟨a, sc, m, n, rfl, m0, m1, S, n1, k⟩ := h
    refine ⟨_, pss_cons (ps_asg (pe_op op_add (pe_ix ix_list (pv 0) pe_int (fun _ _ => rfl)) pe_int) (pg_sub (pv 0) pe_int set_list))
      (pss_cons (ps_if (PW.pt (pw_and (pt_cmpR op_eq (pe_ix ix_list (pv 0) pe_int (fun _ _ => rfl)) pe_int (nomark _)) (pw_and1 (pt_cmpR op_lt (pe_ix ix_list (pv 0) pe_int (fun _ _ => rfl)) (pe_callB call_len_seq (by rfl) len PySem.boot_len (pa_cons (pe_ix ix_list (pv 0) pe_int (fun _ _ => rfl)) pa_nil)) (nomark _)))))
        (pss_cons (ps_set (i := 2) scPick.nd rfl (Or.inl rfl) (pe_ix ix_list (pe_ix ix_list (pv 0) pe_int (fun _ _ => rfl)) (pe_ix ix_list (pv 0) pe_int (fun _ _ => rfl)) (fun _ _ => rfl)))
        (pss_cons (ps_asg (pe_op op_add (pe_ix ix_list (pv 0) pe_int (fun _ _ => rfl)) pe_int) (pg_sub (pv 0) pe_int set_list))
        (pss_cons (ps_if (pt_cmpR op_lt (pv 2) (pe_op op_pow pe_int pe_int) (nomark _))
          (pss_one (ps_ret (pe_op op_mod (pc M hr (by decide) (pa_cons (pv 2) (pa_cons (pe_ix ix_list (pv 0) pe_int (fun _ _ => rfl)) pa_nil))) (pv 1)))) pss_nil)
        (pss_one (ps_asg (pv 2) (pg_sub (pv 0) pe_int set_list)))))) pss_nil)
      (pss_cons (ps_if (pt_cmpR op_gt (pe_ix ix_list (pv 0) pe_int (fun _ _ => rfl)) pe_int (nomark _))
        (pss_cons (ps_set (i := 3) scPick.nd rfl (Or.inl rfl) (pe_op op_mod (pe_ix ix_list (pv 0) pe_int (fun _ _ => rfl)) (pv 1)))
        (pss_cons (ps_asg (pe_op op_fdiv (pe_ix ix_list (pv 0) pe_int (fun _ _ => rfl)) (pv 1)) (pg_sub (pv 0) pe_int set_list))
        (pss_one (ps_ret (pv 3))))) pss_nil)
      (pss_one (ps_ret (pe_op op_mod (pc M hr (by decide) (pa_cons (pe_ix ix_list (pv 0) pe_int (fun _ _ => rfl)) (pa_cons (pe_ix ix_list (pv 0) pe_int (fun _ _ => rfl)) pa_nil))) (pv 1)))))), ?_⟩
    obtain ⟨cs, i, dg, mx, c, hH, ns, hq, hl, i0, d0, c0, cn⟩ := S.ex
    have fill : ∀ (G : Hp) (i' dg' c' : Int), Off a G = Off a H → 0 ≤ i' → 0 ≤ dg' → 0 ≤ c' → c' ≤ n + 1 → G a = some (.lst [.ref sc, .int i', .int dg', .int mx, .int c']) → Sto sc a (n + 1) G ∧ Kept a H G := fun G i' dg' c' e h1 h2 h3 h4 h5 =>
      ⟨⟨cs, i', dg', mx, c', h5, ns, (off_sub a G).at (by rw [e, off_ne ns]; exact hq), hl, h1, h2, h3, h4⟩, by unfold Kept; rw [e]; exact Same.refl _⟩
    -- store[4] = store[4] + 1
    refine ⟨_, rfl, a, _, _, _, rfl, rfl, SqL.of hH, rfl, _, _, rfl, rfl, _, rfl, a, _, _, _, rfl, rfl, hH, rfl, ?_⟩
    -- the mix at the end
    have fin : ∀ (G : Hp) (i' dg' x r : Int), Off a G = Off a H → 0 ≤ i' → 0 ≤ dg' → G a = some (.lst [.ref sc, .int i', .int dg', .int mx, .int (c + 1)]) → Q (.int (r % m)) G := fun G i' dg' x r e h1 h2 h3 => by
      obtain ⟨s1, s2⟩ := fill G i' dg' (c + 1) e h1 h2 (by omega) (by omega) h3
      exact k _ G (Int.emod_nonneg _ (by omega)) (Int.emod_lt_of_pos _ m0) s1 s2
    have fin2 : ∀ (G : Hp) (i' dg' r : Int), Off a G = Off a H → 0 ≤ i' → 0 ≤ dg' → 0 ≤ r → r < m → G a = some (.lst [.ref sc, .int i', .int dg', .int mx, .int (c + 1)]) → Q (.int r) G := fun G i' dg' r e h1 h2 q1 q2 h3 => by
      obtain ⟨s1, s2⟩ := fill G i' dg' (c + 1) e h1 h2 (by omega) (by omega) h3
      exact k _ G q1 q2 s1 s2
    have hqG : ∀ G : Hp, Off a G = Off a H → SqL K G sc (cs.map V.int) := fun G e => SqL.of ((off_sub a G).at (by rw [e, off_ne ns]; exact hq))
    have oG : ∀ o, Off a (upd H a o) = Off a H := fun o => off_upd
    have oG2 : ∀ o u, Off a (upd (upd H a o) a u) = Off a H := fun o u => by rw [off_upd, off_upd]
    have oG3 : ∀ o u v, Off a (upd (upd (upd H a o) a u) a v) = Off a H := fun o u v => by rw [off_upd, off_upd, off_upd]
    refine ⟨_, rfl, a, _, _, _, rfl, rfl, SqL.of upd_same, rfl, rfl, _, rfl, ?_⟩
    refine ite2 (fun hd => ?_) (fun hd => ?_)
    · have hd0 : dg = 0 := by
        have z := of_decide_eq_true hd
        exact V.int.inj z
      subst hd0
      refine ⟨_, rfl, a, _, _, _, rfl, rfl, SqL.of upd_same, rfl, _, rfl, a, _, _, _, rfl, rfl, SqL.of upd_same, rfl, sc, _, rfl, .inl (hqG _ (oG _)), _, _, rfl, rfl, _, rfl, ?_⟩
      refine ite2 (fun hi => ?_) (fun hi => ?_)
      · have hi0 : i < (cs.map V.int).length := of_decide_eq_true hi
        have hj : i.toNat < cs.length := by rw [List.length_map] at hi0; omega
        have hc : (cs.map V.int)[i.toNat]? = some (V.int cs[i.toNat]) := by rw [List.getElem?_map, List.getElem?_eq_getElem hj]; rfl
        have ha : atI (cs.map V.int) i = some (V.int cs[i.toNat]) := by
          have z := atI_nat hc
          rw [Int.toNat_of_nonneg i0] at z
          exact z
        -- cell = store[0][store[1]]; store[1] = store[1] + 1
        refine ⟨_, rfl, a, _, _, _, rfl, rfl, SqL.of upd_same, rfl, _, rfl, a, _, _, _, rfl, rfl, SqL.of upd_same, rfl, sc, _, _, _, rfl, rfl, hqG _ (oG _), ha, ?_⟩
        refine ⟨_, rfl, a, _, _, _, rfl, rfl, SqL.of upd_same, rfl, _, _, rfl, rfl, _, rfl, a, _, _, _, rfl, rfl, upd_same, rfl, ?_⟩
        -- if cell < 10 ** 18
        refine ⟨_, rfl, _, _, rfl, rfl, ⟨by decide, by decide, by decide⟩, _, _, rfl, rfl, _, rfl, ?_⟩
        refine ite2 (fun hx => ?_) (fun hx => ?_)
        · refine ⟨_, rfl, _, rfl, a, _, _, _, rfl, rfl, SqL.of upd_same, rfl, _, _, rfl, by omega, by omega, fun r r0 r1 => ?_⟩
          exact ⟨_, rfl, _, _, rfl, rfl, m0, fin _ (i + 1) 0 0 r (oG2 _ _) (by omega) (by decide) upd_same⟩
        · have hx0 : ¬ cs[i.toNat] < 10 ^ 18 := fun z => hx (decide_eq_true z)
          -- store[2] = cell
          refine ⟨_, rfl, _, rfl, a, _, _, _, rfl, rfl, upd_same, rfl, ?_⟩
          refine ⟨_, rfl, a, _, _, _, rfl, rfl, SqL.of upd_same, rfl, _, _, rfl, rfl, _, rfl, ?_⟩
          refine ite2 (fun _ => ?_) (fun z => absurd (decide_eq_true (show (0 : Int) < cs[i.toNat] by omega)) z)
          refine ⟨_, rfl, a, _, _, _, rfl, rfl, SqL.of upd_same, rfl, _, rfl, _, _, rfl, rfl, m0, ?_⟩
          refine ⟨_, rfl, a, _, _, _, rfl, rfl, SqL.of upd_same, rfl, _, rfl, _, _, rfl, rfl, ⟨m0, by omega⟩, _, rfl, a, _, _, _, rfl, rfl, upd_same, rfl, ?_⟩
          refine ⟨_, rfl, ?_⟩
          exact fin2 _ (i + 1) (cs[i.toNat] / m) _ (by rw [off_upd, off_upd, off_upd, off_upd]) (by omega) (Int.ediv_nonneg (by omega) (by omega)) (Int.emod_nonneg _ (by omega)) (Int.emod_lt_of_pos _ m0) upd_same
      · refine ⟨_, rfl, a, _, _, _, rfl, rfl, SqL.of upd_same, rfl, _, _, rfl, rfl, _, rfl, ?_⟩
        refine ite2 (fun z => absurd (of_decide_eq_true z) (by decide)) (fun _ => ?_)
        refine ⟨_, rfl, a, _, _, _, rfl, rfl, SqL.of upd_same, rfl, _, rfl, a, _, _, _, rfl, rfl, SqL.of upd_same, rfl, _, _, rfl, by omega, by omega, fun r r0 r1 => ?_⟩
        exact ⟨_, rfl, _, _, rfl, rfl, m0, fin _ i 0 0 r (oG _) i0 (by decide) upd_same⟩
    · have hd0 : ¬ dg = 0 := fun z => hd (decide_eq_true (by rw [z]))
      refine iteF ?_
      refine ⟨_, rfl, a, _, _, _, rfl, rfl, SqL.of upd_same, rfl, _, _, rfl, rfl, _, rfl, ?_⟩
      refine ite2 (fun _ => ?_) (fun z => absurd (decide_eq_true (show (0 : Int) < dg by omega)) z)
      refine ⟨_, rfl, a, _, _, _, rfl, rfl, SqL.of upd_same, rfl, _, rfl, _, _, rfl, rfl, m0, ?_⟩
      refine ⟨_, rfl, a, _, _, _, rfl, rfl, SqL.of upd_same, rfl, _, rfl, _, _, rfl, rfl, ⟨m0, by omega⟩, _, rfl, a, _, _, _, rfl, rfl, upd_same, rfl, ?_⟩
      refine ⟨_, rfl, ?_⟩
      exact fin2 _ i (dg / m) _ (by rw [off_upd, off_upd]) i0 (Int.ediv_nonneg (by omega) (by omega)) (Int.emod_nonneg _ (by omega)) (Int.emod_lt_of_pos _ m0) upd_same
end
end Vk
/-! enumerate over a tuple: the pairs are new tuples -/
namespace PySem
set_option maxHeartbeats 4000000 in
theorem vx_enumNew {v : Value} {cell : Obj} {Hh : Heap → Prop} (B : Begins v cell Hh) :
    Meets (Builtin.«enumerate.__new__» ⟨[.type "enumerate", v], []⟩) (fun _ R s => Hh s.heap ∧
      R (.ok (.ret (.ref (s.heap.push cell).objs.size)))
        { s with heap := (s.heap.push cell).push { cls := .type "enumerate", data := .fields #[.none, .bool false, .ref s.heap.objs.size, rawInt 0, .none, .none] } }) :=
  .of_wp fun prog w A R s h => by
    obtain ⟨hp, gs, dr, tk, os⟩ := s
    obtain ⟨hbeg, h⟩ := h
    have subE := sub_enumerate
    have itOf : ∀ {A2 : Around} {E2 : Value → Shared → Prop} {Q2 : Value → Shared → Prop}, Q2 (.ref hp.objs.size) ⟨hp.push cell, gs, dr, tk, os⟩ → wpAny (model prog w) A2 (pyIter v) Q2 E2 ⟨hp, gs, dr, tk, os⟩ :=
      fun q => B.iter prog w _ _ ⟨hp, gs, dr, tk, os⟩ _ hbeg q
    wp_walk using itOf
    refine wpAny_stack_any fun st => wpAny_pure ?_
    split
    · rename_i cc _ _ _ _ _
      cases (cc == Value.type "enumerate") <;> (wp_walk using itOf; exact ⟨_, rfl, h⟩)
    · wp_walk using itOf
      exact ⟨_, rfl, h⟩
section
variable {prog : Program} {w : World} {A : Around} {E : Value → Shared → Prop} {s : Shared}
theorem vx_callEnum {v : Value} {cell : Obj} {Hh : Heap → Prop} {Q : Value → Shared → Prop} (B : Begins v cell Hh) (hbeg : Hh s.heap)
    (h : ∀ h', IsEnum h' (s.heap.objs.size + 1) s.heap.objs.size 0 .none → h'.get? s.heap.objs.size = some cell → (∀ b o, s.heap.get? b = some o → h'.get? b = some o) →
      Q (.ref (s.heap.objs.size + 1)) { s with heap := h' }) :
    wpAny (model prog w) A (call (.type "enumerate") [v]) Q E s := by
  refine callType_new F.called_enumerate (by decide) (F.typeCall_enumerate_1 _) (F.newCall_enumerate_1 _) (fun obj => F.args_object_init_2 obj _) F.entry_enumerate_new
    (vx_enumNew B) ⟨hbeg, ?_⟩
  have sz : (s.heap.push cell).objs.size = s.heap.objs.size + 1 := Heap.size_push ..
  show _ ∧ _
  rw [sz]
  have en : IsEnum ((s.heap.push cell).push { cls := .type "enumerate", data := .fields #[.none, .bool false, .ref s.heap.objs.size, rawInt 0, .none, .none] }) (s.heap.objs.size + 1) s.heap.objs.size 0 .none := by
    have got := Heap.get?_push_size (s.heap.push cell) (o := { cls := .type "enumerate", data := .fields #[.none, .bool false, .ref s.heap.objs.size, rawInt 0, .none, .none] }) rfl
    rw [sz] at got
    exact got
  exact ⟨⟨_, en, rfl⟩, h _ en (Heap.get?_push_of_some _ (Heap.get?_push_size _ B.free)) fun b o x => Heap.get?_push_of_some _ (Heap.get?_push_of_some _ x)⟩
end
end PySem
namespace L2
open PySem PySem.Spec PyProof.Rows
/-- what enumerate gives over the tuple at a: its items in new pairs -/
def IteT (K : PySem.W.Frag) (a : Addr) : It :=
  ⟨fun i H => ∃ (ys : List V) (y : V), SqT K H a ys ∧ ys[i]? = some y, fun i H v H' => ∃ T y, v = .ref T ∧ H T = none ∧ H' = upd H T (.tup [.int (i : Nat), y]) ∧ ∀ ys, SqT K H a ys → ys[i]? = some y,
    fun i H => ∃ ys : List V, SqT K H a ys ∧ ys.length = i⟩
theorem vx_turn {P : Program} {w : World} {K : PySem.W.Frag} {elts : List Expr} {kk : Nat} {tpos : Pos} (a e it : Addr) :
    Turn P w K (.Tuple elts kk tpos) (IteT K a) [e, it] e (fun i h => (∃ old, IsEnum h e it ((i : Nat) : Int) old) ∧ h.IsTupleIter it a i ∧ e ≠ it ∧ a ≠ it ∧ e ≠ a) where
  mem := List.mem_cons_self
  obj := fun i h st b hb => by
    obtain ⟨⟨old, en⟩, ⟨o, ho, hc, hd⟩, _⟩ := st
    have two : b = e ∨ b = it := by simpa using hb
    rcases two with z | z
    · subst z
      exact ⟨_, en, fun v q => nomatch q⟩
    · subst z
      exact ⟨o, ho, fun v q => by rw [hd] at q; cases q⟩
  keep := fun i h h' st k => by
    obtain ⟨⟨old, en⟩, hi, r⟩ := st
    exact ⟨⟨old, k e (by simp) _ en⟩, hi.at fun o q => k it (by simp) o q, r⟩
  item := by
    intro X hP hw hK hc i pins s σ H E I hf st hg
    subst hP hw hK
    obtain ⟨⟨old, en⟩, hit, nei, nai, nea⟩ := st
    obtain ⟨ys, y, hq, hy⟩ := hg
    obtain ⟨its, rv, p, _⟩ := I.tuple hq
    obtain ⟨u, hu, ru⟩ := rv.get hy
    have le : e < s.heap.objs.size := Heap.lt_size en
    have li : it < s.heap.objs.size := by obtain ⟨_, q, _⟩ := hit; exact Heap.lt_size q
    have hin : X.A.in1.handled = none := I.ok.hd hc
    have ilt : i < its.toArray.size := by
      have z := (List.getElem?_eq_some_iff.mp hu).1
      rw [List.size_toArray]
      exact z
    refine wpAny_pyNext_enum_itemD (Draws.tuple hin it a nai its.toArray) en ⟨hit, p⟩ ilt nei (by simp [nei, nea]) fun x h2 tk hx eo st2 hT hsz hk => ?_
    have ex : x = u := by
      have z : its.toArray[i]? = some x := hx
      rw [List.getElem?_toArray, hu] at z
      exact (Option.some.inj z).symm
    subst ex
    refine ⟨_, rfl, wpAny_letOwnedTupleGo_enum (s := { s with heap := h2, toks := tk + 1 }) eo fun h3 he3 sb => ?_⟩
    have hT3 : h3.get? s.heap.objs.size = some { cls := .type "tuple", data := .seq #[.int i tk, x] } := (sb.2 _ (Nat.ne_of_gt le)).trans hT
    have new : ObjOk X.prog X.w (upd H s.heap.objs.size (.tup [.int (i : Nat), y])) h3 s.heap.objs.size (.tup [.int (i : Nat), y]) :=
      ⟨(by show 2 ≤ sizeLine; decide), [.int i tk, x], .cons ⟨_, rfl⟩ (.cons ru .nil), ⟨_, hT3, rfl, _, rfl⟩⟩
    have J : Inv X pins σ (upd H s.heap.objs.size (.tup [.int (i : Nat), y])) { s with heap := h3, toks := tk + 1 } :=
      I.turnedNew (ch := [e, it]) (fun b ob hb q => by
        have n1 : b ≠ e := fun z => hb (by simp [z])
        have n2 : b ≠ it := fun z => hb (by simp [z])
        exact (sb.2 b n1).trans (hk b ob n1 n2 q)) hf (Nat.le_refl _) new
    refine ⟨.ref s.heap.objs.size, _, J, rfl, ⟨_, y, rfl, I.hok.fresh (Nat.le_refl _), rfl, fun zs hz => by rw [I.tuple_inj hz hq]; exact hy⟩, ⟨⟨x, ?_⟩, st2.1.at fun o q => (sb.2 it (Ne.symm nei)).trans q, nei, nai, nea⟩, fun b hb => ?_⟩
    · have en2 : ((i + 1 : Nat) : Int) = (i : Int) + 1 := by omega
      rw [en2]
      exact he3
    · have lb : b < s.heap.objs.size := by
        have two : b = e ∨ b = it := by simpa using hb
        rcases two with z | z
        · rw [z]; exact le
        · rw [z]; exact li
      rw [upd_ne (Nat.ne_of_lt lb)]
      exact (hf b hb).1
  done := by
    intro X hP hw hK hc i pins s σ H E I hf st hg
    subst hP hw hK
    obtain ⟨⟨old, en⟩, hit, nei, nai, nea⟩ := st
    obtain ⟨ys, hq, hy⟩ := hg
    obtain ⟨its, rv, p, _⟩ := I.tuple hq
    obtain ⟨f0, f1, f2, f3, f4, f5⟩ := hf it (by simp)
    have hl := rv.length
    have hi : i = its.toArray.size := by rw [List.size_toArray]; omega
    subst hi
    have hin : X.A.in1.handled = none := I.ok.hd hc
    exact wpAny_pyNext_enum_endD (Draws.tuple hin it a nai its.toArray) en ⟨hit, p⟩ fun h2 eb => ⟨rfl, I.turned (t' := s.toks) (fun b o hb q => eb b o hb q) f0 f1 f3 f4 f5⟩
  self := fun A i s Q E st h => by
    obtain ⟨⟨_, en⟩, _⟩ := st
    exact wpAny_pyIter_enum en h
def iEnumT (K : PySem.W.Frag) (ta : TA) : TI := fun σ H R => ta σ H fun vs H1 => ∃ a ys, vs = [.ref a] ∧ SqT K H1 a ys ∧ R (IteT K a) H1
theorem pi_enumT {X : Cx} {e : Expr} {ta : TA} {p pos tpos : Pos} {elts : List Expr} {kk : Nat} (hm : X.mg "enumerate" = none) (ha : PA X [e] ta) (hg : Gl X "enumerate" := by rfl) (hs : starEach [e] X.env = [(false, eval e X.env)] := by rfl) :
    PI X (.Tuple elts kk tpos) (.Call (.Name "enumerate" p) [e] [] pos) (iEnumT X.K ta) := by
  refine ⟨fun pins s σ H R I h => ?_⟩
  refine Call_ (ld_blt I hg hm boot_enumerate (PyProof.Rows.callWith_type1 (thn (ha.run pos pins s σ H _ I h) fun us s1 ⟨vs, H1, I1, r1, q1⟩ => ?_) hs rfl))
  obtain ⟨a, ys, ex, hq, q⟩ := q1
  subst ex
  cases r1 with
  | cons r rr =>
    cases rr
    cases r
    obtain ⟨its, rv, p2, _⟩ := I1.tuple hq
    have la : a < s1.heap.objs.size := by obtain ⟨_, z, _⟩ := p2; exact Heap.lt_size z
    refine vx_callEnum (begins_tuple a its.toArray) p2 fun h2 he hit hk => wpAny_pyIter_enum he ?_
    have I2 : Inv X pins σ H1 { s1 with heap := h2 } := I1.kept (t' := s1.toks) hk
    refine ⟨s1.heap.objs.size + 1, [s1.heap.objs.size + 1, s1.heap.objs.size], _, _, H1, rfl, I2, vx_turn a (s1.heap.objs.size + 1) s1.heap.objs.size,
      ⟨⟨.none, he⟩, ⟨_, hit, rfl, rfl⟩, Nat.succ_ne_self _, Nat.ne_of_lt la, Nat.ne_of_gt (Nat.lt_succ_of_lt la)⟩, fun b hb => ?_, q⟩
    have two : b = s1.heap.objs.size + 1 ∨ b = s1.heap.objs.size := by simpa using hb
    have hle : s1.heap.objs.size ≤ b := by
      rcases two with z | z
      · rw [z]; exact Nat.le_succ _
      · rw [z]; exact Nat.le_refl _
    exact I1.fpOk hle (I1.hok.fresh hle)
/-- turn by turn, the tuple standing still -/
theorem walk_enumT {K : PySem.W.Frag} {a : Addr} {xs : List V} : Walk (IteT K a) xs.length (fun H => SqT K H a xs) (YPair (fun i => some (.int (i : Nat))) (fun i => xs[i]?)) := by
  refine ⟨fun i _ hi q => ⟨xs, xs[i], q, by simp [hi]⟩, fun _ q => ⟨xs, q, rfl⟩, fun i H v H' _ q y => ?_⟩
  obtain ⟨T, x, h1, h2, h3, h4⟩ := y
  exact ⟨T, .int (i : Nat), x, h1, h2, h3, rfl, h4 xs q⟩
end L2
/-! an exception that its except suite gives to another name: it is tracked from there on -/
namespace Vk
open PySem PySem.Spec PyProof.Rows L2
/-- at a: an exception of the class cls, its dict d -/
def Xco (a : Addr) (cls : Value) (d : Option Addr) : HO := .ext fun h => ∃ (oe : Obj) (vs : Array Value), h.get? a = some oe ∧ Zc cls d oe ∧ oe.data = .fields vs
theorem xco_ok {P : Program} {w : World} {H : Hp} {h : Heap} {a : Addr} {cls : Value} {d : Option Addr} {oe : Obj} {vs : Array Value} (e : h.get? a = some oe) (z : Zc cls d oe) (f : oe.data = .fields vs) : ObjOk P w H h a (Xco a cls d) :=
  ⟨⟨oe, vs, e, z, f⟩, ⟨oe, e⟩, fun _ _ ⟨o, v, q, r⟩ k => ⟨o, v, k o q, r⟩⟩
theorem xco_at {P : Program} {w : World} {H : Hp} {h : Heap} {a : Addr} {cls : Value} {d : Option Addr} (hok : HOk P w H h) (e : H a = some (Xco a cls d)) : ∃ (oe : Obj) (vs : Array Value), h.get? a = some oe ∧ Zc cls d oe ∧ oe.data = .fields vs := by
  have x : ObjOk P w H h a (.ext fun h => ∃ (oe : Obj) (vs : Array Value), h.get? a = some oe ∧ Zc cls d oe ∧ oe.data = .fields vs) := hok a _ e
  exact x.1
section
variable {X : Cx} {pins : List (Addr × Obj)} {σ : L2.St} {H : Hp} {s : Shared}
theorem inv_track {a : Addr} {o : HO} (I : Inv X pins σ H s) (hn : H a = none) (n0 : ∀ ob, X.s_0.heap.get? a = some ob → False) (nL : a ≠ X.env.locals) (nC : ∀ x c, X.env.cells.lookup x = some c → c ≠ a) (nP : ∀ p ∈ X.pn ++ pins, p.1 ≠ a)
    (new : ObjOk X.prog X.w (upd H a o) s.heap a o) : Inv X pins σ (upd H a o) s := by
  have ne : ∀ {b : Addr} {u : HO}, H b = some u → b ≠ a := fun q => ne_of_none q hn
  have b1 : Un X.fs X.ex X.H_0 (upd H a o) X.s_0.heap s.heap := {
      keep := I.base.keep
      slot := I.base.slot
      free := fun b u q n x => by
        have nb : b ≠ a := fun z => by
          rw [z] at q
          exact n0 u q
        rw [upd_ne nb]
        exact I.base.free b u q n x
      there := I.base.there
      tups := fun b xs q => by
        have z := I.base.tups b xs q
        rw [upd_ne (ne z)]
        exact z
      frzs := fun b u xs q => by
        have z := I.base.frzs b u xs q
        rw [upd_ne (ne z)]
        exact z
      tbls := fun b ps q => by
        obtain ⟨m, z⟩ := I.base.tbls b ps q
        exact ⟨m, by rw [upd_ne (ne z)]; exact z⟩ }
  refine ⟨I.ok, I.os, I.bare, b1, I.loc, I.cell, ?_, ?_, ?_, ?_, I.len⟩
  · rw [upd_ne nL.symm]
    exact I.free
  · intro x c q
    rw [upd_ne (nC x c q)]
    exact I.freeC x c q
  · intro p hp
    obtain ⟨h1, h2, h3⟩ := I.pin p hp
    exact ⟨h1, by rw [upd_ne (nP p hp)]; exact h2, h3⟩
  · intro b u q
    by_cases hb : b = a
    · subst hb
      rw [upd_same] at q
      cases q
      exact new
    · rw [upd_ne hb] at q
      refine (I.hok b u q).stay (fun c v _ z => z) (fun c z => ?_) (fun c xs z => ?_)
      · rw [upd_ne (ne z)]
        exact z
      · rw [upd_ne (ne z)]
        exact z
end
/-- what «except C as n: suite» wishes where the suite keeps the exception -/
def wKeep (K : PySem.W.Frag) (c : Value) (i : Nat) (ts : Addr → Value → Option Addr → TS) (D : Ends) : WX := fun cls d σ H =>
  PySem.W.exmOne K cls c = some true ∧ ∀ a, H a = none → ts a cls d { nx := fun σ' H' => H' a = none → D.nx (σ'.set i none) (upd H' a (Xco a cls d)), rt := fun _ _ => False } (σ.set i (some (.ref a))) H
section
variable {X : Cx} {x n : Str} {c : Value} {i : Nat} {body more : List Stmt} {b₀ : Stmt} {np pos pos' : Pos} {tb : WX → TS} {ts : Addr → Value → Option Addr → TS}
theorem ps_try_keep (hs : X.stack = X.env :: X.outer) (hf : X.env.frame = some X.env.locals) (hex : X.ex = []) (hN : X.N.Nodup) (hi : X.N[i]? = some n) (hln : X.env.kindOf n = some .local) (hg : Gl X x) (hm : X.mg x = some c)
    (hdb : (x == ("__debug__" : Str)) = false)
    (hb : ∀ (W : WX) (pn : List (Addr × Obj)) (xe : Value → Shared → Prop), Takes (X.tr pn xe) W → PassesOwn (model X.prog X.w) X.A X.env xe → PSs (X.tr pn xe) body (tb W))
    (hsu : ∀ (a : Addr) (oe : Obj) (cls : Value) (d : Option Addr) (pn : List (Addr × Obj)), Zc cls d oe → (∃ vs, oe.data = .fields vs) → PSs (X.suite a ((a, oe) :: pn)) (b₀ :: more) (ts a cls d)) :
    PS X (.Try body [.ExceptHandler (some (.Name x np)) (some n) (b₀ :: more) pos'] [] [] pos) (fun D σ H => tb (wKeep X.K c i ts D) D σ H) := by
  refine ⟨fun pins s σ H D I h => ?_⟩
  have ok := I.ok
  have frames : X.A.frames = some (X.env :: X.outer) := by rw [ok.frames, hs]
  refine wpAny_Try_except (wpAny_mono ((hb (wKeep X.K c i ts D) (X.pn ++ pins) _ (fun u s2 air => ?_) PassesOwn.looking).run [] s σ H D (I.toTry _) h) (fun f s2 sp => ?_) (fun _ _ z => z))
  · obtain ⟨a, B, sI, pins2, σ2, H2, cls, d, rfl, J2, ground, up, sky, na, os, ag, match1, suite⟩ := air
    have J : Inv X pins σ2 H2 sI := J2.ofTry ok
    have air2 : Sky B (X.env :: X.outer) a (Zc cls d) X.env.locals s2.heap := by rw [← hs]; exact sky
    -- a stands in no frame, and is new
    refine Sky.land Zc.steady frames hf air2 fun h3 fly3 up3 => ?_
    have K3 : Inv X pins σ2 H2 { s2 with heap := h3 } := J.landed ground fly3.1 (up.trans up3) os ag
    obtain ⟨o3, v3, get3, z3, dat3⟩ := fly3.there
    have outFr : a ∉ frs (X.env :: X.outer) := fun hm2 => by
      obtain ⟨_, o4, get4, nf⟩ := fly3.2.2.1.mem hm2
      rw [get3] at get4
      cases get4
      exact nf _ dat3
    have noL : a ≠ X.env.locals := fun z => outFr (List.mem_filterMap.mpr ⟨X.env, List.mem_cons_self, by rw [hf, z]⟩)
    have noF : a ∉ X.fs := fun hm2 => by
      obtain ⟨e, he, q⟩ := List.mem_filterMap.mp hm2
      exact outFr (List.mem_filterMap.mpr ⟨e, List.mem_cons_of_mem _ he, q⟩)
    have outI : ∀ ob, sI.heap.get? a = some ob → False := fun ob q => by
      have z := ground a ob q (by rw [show (X.tr (X.pn ++ pins) _).stack = X.stack from rfl, hs]; exact outFr)
      rw [fly3.2.1] at z
      cases z
    have out0 : ∀ ob, X.s_0.heap.get? a = some ob → False := fun ob q => by
      obtain ⟨o5, z⟩ := J.base.there a ob q (by rw [hex]; exact fun y => nomatch y)
      exact outI _ z
    have noC : ∀ y cc, X.env.cells.lookup y = some cc → cc ≠ a := fun y cc q z => by
      obtain ⟨v, o6, get6, _⟩ := J.cell y cc q
      rw [z] at get6
      exact outI _ get6
    have noP : ∀ p ∈ X.pn ++ pins, p.1 ≠ a := fun p hp z => by
      have q := (J.pin p hp).1
      rw [z] at q
      exact outI _ q
    refine wpAny_handleBy_cons (codeAny_handlers_test ?_) (by intro q; cases q)
    have isC : PySem.W.Looks (model X.prog X.w) h3 (typeOf (.ref a)) cls := fun A2 Q2 E2 s4 kk q => wpAny_typeOf_ref (kk _ _ get3) (by rw [z3.1]; exact q)
    refine ld_glob (X := X.suite a ((a, o3) :: (X.pn ++ pins))) (K3.suite get3 dat3 na noL noF) hg hm ?_ hdb
    refine (PySem.W.exm_one (M := model X.prog X.w) K3.kIn isC match1).here (codeAny_handlers_suite_as ?_)
    refine HandSPX.lands_againZ fly3 fun h4 fly4 up4 => ?_
    have K4 : Inv X pins σ2 H2 { s2 with heap := h4 } := J.landed ground fly4.1 ((up.trans up3).trans up4) os ag
    obtain ⟨o4, v4, get4, z4, dat4⟩ := fly4.there
    refine store_ok (X := X.suite a ((a, o4) :: (X.pn ++ pins))) (v := .ref a) (K4.suite get4 dat4 na noL noF) hN hi (.inl hln) rfl (fun s5 S5 => ?_) (.inr hln)
    refine wpAny_mono ((hsu a o4 cls d (X.pn ++ pins) z4 ⟨_, dat4⟩).run [] s5 _ H2 _ S5 (suite a na)) (fun f s6 sp => ?_) (fun _ _ z => False.elim z)
    cases f with
    | next =>
      obtain ⟨σ6, H6, S6, q6⟩ := sp
      obtain ⟨get6, n6, _⟩ := S6.pin (a, o4) (List.mem_append_left _ List.mem_cons_self)
      have T6 : Inv X pins σ6 (upd H6 a (Xco a cls d)) s6 := inv_track (S6.unsuite ok) n6 out0 noL noC noP (xco_ok get6 z4 dat4)
      exact gone_ok T6 hN hi hln fun s7 T7 => ⟨_, _, T7, q6 n6⟩
    | brk =>
      obtain ⟨_, _, _, z⟩ := sp
      exact False.elim z
    | cont =>
      obtain ⟨_, _, _, z⟩ := sp
      exact False.elim z
    | ret u =>
      obtain ⟨_, _, _, _, _, z⟩ := sp
      exact False.elim z
  · cases f with
    | next =>
      obtain ⟨σ2, H2, J, q⟩ := sp
      exact wpAny_execs_nil ⟨σ2, H2, J.ofTry ok, q⟩
    | brk =>
      obtain ⟨σ2, H2, J, q⟩ := sp
      exact ⟨σ2, H2, J.ofTry ok, q⟩
    | cont =>
      obtain ⟨σ2, H2, J, q⟩ := sp
      exact ⟨σ2, H2, J.ofTry ok, q⟩
    | ret u =>
      obtain ⟨v, σ2, H2, J, r, q⟩ := sp
      exact ⟨v, σ2, H2, J.ofTry ok, r, q⟩
end
/-! ### what is asked of it later -/
theorem xco_inst {X : Cx} {pins : List (Addr × Obj)} {σ : L2.St} {H : Hp} {s : Shared} {a C : Addr} {d : Option Addr} (I : Inv X pins σ H s) (e : H a = some (Xco a (.ref C) d)) (hd : ∀ dd, d = some dd → ∃ fs, H dd = some (.xd fs)) :
    ∃ oe od, PySem.W.InstAt s.heap a oe C od := by
  obtain ⟨⟨oc, odd, dat, sl⟩, vs, get, ⟨z1, z2⟩, f⟩ := xco_at I.hok e
  dsimp only at z1 z2 f
  subst z1 z2 f
  cases odd with
  | none => exact ⟨_, none, get, rfl, rfl, trivial⟩
  | some dd =>
    obtain ⟨fs, hx⟩ := hd dd rfl
    have ok : ObjOk X.prog X.w H s.heap dd (.xd fs) := I.hok dd _ hx
    obtain ⟨mA, ⟨o2, _, _, get2, _⟩, _⟩ := ok
    exact ⟨_, some o2, get, rfl, rfl, get2⟩
/-- isinstance(e, c) of such an exception -/
def rIsX (K : PySem.W.Frag) : List V → Hp → VK → Prop := fun xs H Q => ∃ (a C : Addr) (d : Option Addr) (c : V) (u : Value) (b : Bool), xs = [.ref a, c] ∧ H a = some (Xco a (.ref C) d) ∧ (∀ dd, d = some dd → ∃ fs, H dd = some (.xd fs)) ∧
  ExcC K C ∧ ClsV c u ∧ PySem.W.kitOne K (.ref C) u = some b ∧ Q (.bl b) H
theorem call_isX {X : Cx} : CallR X (.builtin "isinstance") (rIsX X.K) := by
  intro pins s σ H xs us Q I r h
  obtain ⟨a, C, d, c, u, b, rfl, e, hd, T, k, hk, q⟩ := h
  obtain ⟨u1, u2, rfl, r1, r2⟩ := vals2 r
  cases r1
  have e2 := k.eq r2
  subst e2
  obtain ⟨oe, od, inst⟩ := xco_inst I e hd
  have cl : (PySem.W.clsIn X.K C).isSome = true := by
    obtain ⟨cd, hc, _⟩ := PySem.W.any_some T.hd
    rw [hc]
    rfl
  exact PySem.W.kia_one (PySem.W.kitx_exc (od := od) cl T.hg T.hk T.hs T.ha T.hn T.ht T.hm) I.kIn inst hk (fun z => nomatch z) fun tk => ⟨.bl b, H, I.tok tk, rfl, q⟩
/-- e.f of such an exception -/
def tXp (K : PySem.W.Frag) (f : Str) (te : TE) : TE := fun σ H Q => te σ H fun x H1 => ∃ (a C dd : Addr) (fs : List (Str × V)) (v : V), x = .ref a ∧ H1 a = some (Xco a (.ref C) (some dd)) ∧ H1 dd = some (.xd fs) ∧ fs.lookup f = some v ∧
  XfC K C ∧ PySem.W.findIn K (.ref C) f = some none ∧ Q v H1
theorem pe_xp {X : Cx} {e : Expr} {te : TE} {pos : Pos} {n : Str} (he : PE X e te) (hb : attributeBase e n X.env (eval e X.env) = eval e X.env := by rfl) : PE X (.Attribute e n pos) (tXp X.K n te) := by
  refine ⟨fun pins s σ H Q I h => attr_of hb (thn (he.run pins s σ H _ I h) fun u s1 got => ?_)⟩
  obtain ⟨x, H1, I1, rx, a, C, dd, fs, v, rfl, ea, ed, hl, T, hno, q⟩ := got
  cases rx
  obtain ⟨⟨oc, odd, dat, sl⟩, vs, get, ⟨z1, z2⟩, f⟩ := xco_at I1.hok ea
  dsimp only at z1 z2 f
  subst z1 z2 f
  have ok : ObjOk X.prog X.w H1 s1.heap dd (.xd fs) := I1.hok dd _ ed
  obtain ⟨mA, hns, hr⟩ := ok
  obtain ⟨od, ho, look⟩ := lookIn_ns hns
  obtain ⟨y, hy, ry⟩ := RelO.some_of (v := v) (o := mA n) (by rw [← hl]; exact hr n)
  have inst : PySem.W.InstAt s1.heap a ⟨.ref C, some dd, .fields vs, sl⟩ C (some od) := ⟨get, rfl, rfl, ho⟩
  exact HandSPX.exc_get I1.kIn inst T.ga T.gg T.exC (PySem.W.findObj_own T.hdC hno rfl (by rw [look, hy])) (handed_of ry) ⟨v, H1, I1.tok _, ry, q⟩
end Vk
/-! xs.count(y) of flat items -/
namespace Vk
open PySem PySem.Spec PyProof.Rows L2
theorem cnt_flat {y : V} : ∀ {ys : List V} {us : List Value}, Vals ys us → ys.all flatV = true → us.countP (eqU y) = ys.countP (fun z => eqV z y)
  | _, _, .nil, _ => rfl
  | _, _, .cons r t, f => by
    have f2 := Bool.and_eq_true_iff.mp f
    rw [List.countP_cons, List.countP_cons, cnt_flat t f2.2, eqU_of r f2.1]
def rCntV (K : PySem.W.Frag) : V → List V → Hp → VK → Prop := fun x xs H Q => ∃ (p : Addr) (ys : List V) (y : V), x = .ref p ∧ xs = [y] ∧ SqL K H p ys ∧ flatV y = true ∧ ys.all flatV = true ∧ Q (.int (ys.countP (fun z => eqV z y) : Nat)) H
theorem mt_countV {X : Cx} : MtR X "list.count" (rCntV X.K) := by
  intro pins s σ H x xs v us Q I rx rxs h
  obtain ⟨p, ys, y, rfl, rfl, hs, fy, fys, q⟩ := h
  cases rx
  obtain ⟨u, rfl, ru⟩ := rxs.one
  obtain ⟨its, rv, ⟨⟨cls, dd, data, sl⟩, n, ho, hc, hdn, hd⟩, hlen⟩ := I.list hs
  simp only at hc hd
  subst hc hd
  refine call_meets PySem.F.slot_list_count ⟨_, ho, rfl⟩ PySem.F.entry_list_count (PySem.F.args_list_count_2 _ _)
    (SeqAt.list_countAt p its.toArray n dd sl u (eqU y)) ⟨ho, fun z hz => mem_eqAt ru fy rv fys z (by simpa using hz), ?_⟩
  refine ⟨.int (ys.countP (fun z => eqV z y) : Nat), H, I.tok _, ⟨s.toks, ?_⟩, q⟩
  show Value.int ((its.toArray.toList.countP (eqU y) : Nat) : Int) s.toks = _
  rw [show its.toArray.toList = its from rfl, cnt_flat rv fys]
end Vk
/-! raise X(e), X an own error whose __init__ keeps one field -/
namespace Vk
open PySem PySem.Spec PyProof.Rows L2
def spIni (C : Addr) (fld : Str) : Sp := fun vs H Q _ => ∃ (a : Addr) (v : V), vs = [.ref a, v] ∧ H a = some (exo a C none) ∧ ∀ dx, H dx = none → dx ≠ a → Q .non (upd (upd H dx (exd dx [(fld, v)])) a (exo a C (some dx)))
structure ErC (P : Program) (w : World) (K : PySem.W.Frag) (mg : Str → Option Value) (base : Heap) (x fld : Str) (C : Addr) : Prop where
  gC : mg x = some (.ref C)
  oex : OexC K C
  ini : ∃ (fI : Addr) (fd : FuncData), PySem.W.findIn K (.ref C) "__init__" = some (some (.ref fI)) ∧ PySem.W.typeIn K (.ref fI) = some (.type "function") ∧ Binds K fd ["self", fld] [] ∧ FnOk P w K mg base CX0 1 fI fd ["self", fld] (spIni C fld)
def tRaiseE (C : Addr) (fld : Str) (W : WX) (te : TE) : TS := fun _ σ H => tMkO C (spIni C fld) [] (tCons te tNil) σ H fun cls d H' => W cls d σ H'
theorem put_del {H : Hp} {a d : Addr} {o u v x : HO} (ha : H a = none) (hd : H d = none) (ne : d ≠ a) : Same H (upd (del (upd (upd (upd H a o) d u) a v) a) d x) := .of fun b y e => by
  have nb : b ≠ a := ne_of_none e ha
  rw [upd_ne (ne_of_none e hd), del_ne nb, upd_ne nb, upd_ne (ne_of_none e hd), upd_ne nb]
  exact e
section
variable {X : Cx} {x fld : Str} {C : Addr} {W : WX} {e : Expr} {te : TE} {p pos pos2 : Pos} {k : Nat}
theorem ps_raiseE (T : ErC X.prog X.w X.K X.mg X.base x fld C) (hc : X.calm = true) (hr : Room k X.A) (hk : 2 ≤ k) (tk : Takes X W) (he : PE X e te) (hg : Gl X x := by rfl) (hdb : (x == ("__debug__" : Str)) = false := by decide)
    (hs : starEach (e :: []) X.env = (false, eval e X.env) :: starEach [] X.env := by rfl) (hpl : (backTo pos (starEach [] X.env)).any (·.1) = false := by rfl) :
    PS X (.Raise (some (.Call (.Name x p) [e] [] pos)) none pos2) (tRaiseE C fld W te) := by
  obtain ⟨fI, fd, h1, h2, h3, h4⟩ := T.ini
  have big := ps_raise (pos := pos2) hc tk (pmk_oex (p := p) (pos := pos) (CX := CX0) (k := 1) T.oex h1 h2 h4 (hr.mono hk) h3 .nil pass0 hg T.gC (pa_cons he pa_nil hs) hdb hs hpl)
  exact big
end
theorem raise_go {C : Addr} {fld : Str} {v : V} {H1 : Hp} {R : XK} {E : XK} (h : ∀ (d : Addr) (H2 : Hp), Same H1 H2 → H1 d = none → H2 d = some (.xd [(fld, v)]) → R (.ref C) (some d) H2) :
    [v].length ≤ 1000 ∧ ∀ a, H1 a = none → spIni C fld (.ref a :: ([v] ++ [])) (upd H1 a (exo a C none)) (fun u H2 => u = .non ∧ ∃ (d : Addr) (fs : List (Str × V)), H2 a = some (exo a C (some d)) ∧ H2 d = some (exd d fs) ∧ H1 d = none ∧ R (.ref C) (some d) (upd (del H2 a) d (.xd fs))) E := by
  refine ⟨by simp, fun a na => ⟨a, v, rfl, upd_same, fun dx nx ne => ?_⟩⟩
  have n1 : H1 dx = none := by
    rw [upd_ne ne] at nx
    exact nx
  refine ⟨rfl, dx, [(fld, v)], upd_same, by rw [upd_ne ne, upd_same], n1, h dx _ (put_del na n1 ne) n1 upd_same⟩
/-! ### the __init__ -/
structure Nit (K : PySem.W.Frag) (x qual fld : Str) (st : Stmt) (C : Addr) : Prop where
  ex : ∃ (fI : Addr) (fd : FuncData), PySem.W.findIn K (.ref C) "__init__" = some (some (.ref fI)) ∧ PySem.W.typeIn K (.ref fI) = some (.type "function") ∧ Fun K "__init__" qual st fI fd ∧ Binds K fd ["self", fld] []
end Vk
namespace Vk
open PySem PySem.Spec PyProof.Rows L2
section
variable {P : Program} {w : World} {K : PySem.W.Frag} {mg : Str → Option Value} {base : Heap}
theorem scInteger : FnScope ["value", "least"] ["value", "least"] (defScope sInteger) := ⟨rfl, rfl, rfl, by decide +kernel, rfl, by decide +kernel, by decide +kernel⟩
theorem ok_integer (D : Df K mg "is_integer" sInteger ["value", "least"]) (B : Blt mg) : Cl P w K mg base CX0 1 "is_integer" ["value", "least"] (spInteger K) := by
  refine cl0 D scInteger (fun vs H Q E h => ?_) (fun f cdv A outer s H vs Q E hr h => ?_)
  · obtain ⟨v, d, least, rfl, _⟩ := h
    rfl
  · obtain ⟨v, d, least, rfl, hd, k⟩ := h
    refine ⟨_, pss_one (ps_ret (pe_and (pe_callB call_isi (by rfl) B.isi (by decide +kernel) (pa_cons (pv 0) (pa_cons (pe_bltn (v := .ty "int") (u := .type "int") (by rfl) B.int (by decide +kernel) rfl) pa_nil))) (pe_and (pe_not (pe_callB call_isi (by rfl) B.isi (by decide +kernel) (pa_cons (pv 0) (pa_cons (pe_bltn (v := .ty "bool") (u := .type "bool") (by rfl) B.bool (by decide +kernel) rfl) pa_nil)))) (pe_one (pe_cmpR op_ge (pv 0) (pv 1) (nomark _)))))), ?_⟩
    refine ⟨_, rfl, v, _, _, _, _, rfl, .ty "int", dp_ty hd, kit_int hd, _, rfl, ?_⟩
    cases hd with
    | int i =>
      refine iteT ⟨_, rfl, _, _, _, _, _, rfl, .ty "bool", dp_ty (.int i), kit_bool (H := H) (.int i), _, rfl, _, rfl, iteT ?_⟩
      exact ⟨_, rfl, _, rfl, _, _, rfl, rfl, k⟩
    | bl b => exact iteT ⟨_, rfl, _, _, _, _, _, rfl, .ty "bool", dp_ty (.bl b), kit_bool (H := H) (.bl b), _, rfl, _, rfl, iteF k⟩
    | non => exact iteF k
    | str x => exact iteF k
    | lst q r => exact iteF k
    | tup q r => exact iteF k
theorem scInt : FnScope ["value", "least"] ["value", "least"] (defScope sInt) := ⟨rfl, rfl, rfl, by decide +kernel, rfl, by decide +kernel, by decide +kernel⟩
theorem ok_int (D : Df K mg "_law_is_int" sInt ["value", "least"]) (B : Blt mg) : Cl P w K mg base CX0 1 "_law_is_int" ["value", "least"] (spInteger K) := by
  refine cl0 D scInt (fun vs H Q E h => ?_) (fun f cdv A outer s H vs Q E hr h => ?_)
  · obtain ⟨v, d, least, rfl, _⟩ := h
    rfl
  · obtain ⟨v, d, least, rfl, hd, k⟩ := h
    refine ⟨_, pss_one (ps_ret (pe_and (pe_callB call_isi (by rfl) B.isi (by decide +kernel) (pa_cons (pv 0) (pa_cons (pe_bltn (v := .ty "int") (u := .type "int") (by rfl) B.int (by decide +kernel) rfl) pa_nil))) (pe_and (pe_not (pe_callB call_isi (by rfl) B.isi (by decide +kernel) (pa_cons (pv 0) (pa_cons (pe_bltn (v := .ty "bool") (u := .type "bool") (by rfl) B.bool (by decide +kernel) rfl) pa_nil)))) (pe_one (pe_cmpR op_ge (pv 0) (pv 1) (nomark _)))))), ?_⟩
    refine ⟨_, rfl, v, _, _, _, _, rfl, .ty "int", dp_ty hd, kit_int hd, _, rfl, ?_⟩
    cases hd with
    | int i =>
      refine iteT ⟨_, rfl, _, _, _, _, _, rfl, .ty "bool", dp_ty (.int i), kit_bool (H := H) (.int i), _, rfl, _, rfl, iteT ?_⟩
      exact ⟨_, rfl, _, rfl, _, _, rfl, rfl, k⟩
    | bl b => exact iteT ⟨_, rfl, _, _, _, _, _, rfl, .ty "bool", dp_ty (.bl b), kit_bool (H := H) (.bl b), _, rfl, _, rfl, iteF k⟩
    | non => exact iteF k
    | str x => exact iteF k
    | lst q r => exact iteF k
    | tup q r => exact iteF k
theorem scTupleOf : FnScope ["value", "many"] ["value", "many"] (defScope sTupleOf) := ⟨rfl, rfl, rfl, by decide +kernel, rfl, by decide +kernel, by decide +kernel⟩
theorem ok_tupleOf (D : Df K mg "is_tuple_of" sTupleOf ["value", "many"]) (B : Blt mg) : Cl P w K mg base CX0 1 "is_tuple_of" ["value", "many"] (spTupleOf K) := by
  refine cl0 D scTupleOf (fun vs H Q E h => ?_) (fun f cdv A outer s H vs Q E hr h => ?_)
  · obtain ⟨v, d, n, rfl, _⟩ := h
    rfl
  · obtain ⟨v, d, n, rfl, hd, k⟩ := h
    refine ⟨_, pss_one (ps_ret (pe_and (pe_callB call_isi (by rfl) B.isi (by decide +kernel) (pa_cons (pv 0) (pa_cons (pe_bltn (v := .ty "tuple") (u := .type "tuple") (by rfl) B.tuple (by decide +kernel) rfl) pa_nil))) (pe_one (pe_cmpR op_eq (pe_callB call_len_seq (by rfl) B.len PySem.boot_len (pa_cons (pv 0) pa_nil)) (pv 1) (nomark _))))), ?_⟩
    refine ⟨_, rfl, v, _, _, _, _, rfl, .ty "tuple", dp_ty hd, kit_tup hd, _, rfl, ?_⟩
    cases hd with
    | int i => exact iteF k
    | bl b => exact iteF k
    | non => exact iteF k
    | str x => exact iteF k
    | lst q r => exact iteF k
    | @tup a xs ds q r =>
      refine iteT ⟨_, rfl, _, xs, rfl, .inr q, _, rfl, rfl, ?_⟩
      have e : decide (V.int (xs.length : Nat) = V.int n) = tupleND n (.tuple ds) := by
        show _ = decide ((ds.length : Int) = n)
        rw [dps_len r]
        by_cases z : (ds.length : Int) = n
        · rw [z, decide_eq_true rfl, decide_eq_true rfl]
        · rw [decide_eq_false z, decide_eq_false (fun y => z (V.int.inj y))]
      show Q (.bl (decide (V.int (xs.length : Nat) = V.int n))) H
      rw [e]
      exact k
end
end Vk
/-! data beside the store: new tuples, lists, sums, slices -/
namespace Vk
open PySem PySem.Spec PyProof.Rows L2
theorem off_at {a p : Addr} {H : Hp} {o : HO} (h : H p = some o) (n : p ≠ a) : Off a H p = some o := by
  rw [off_ne n]
  exact h
theorem Kept.at {a p : Addr} {H H' : Hp} {o : HO} (k : Kept a H H') (h : H p = some o) (n : p ≠ a) (u : NoTbl o := by exact True.intro) : H' p = some o := (off_some (Same.at_ k _ _ (off_at h n) u)).2
theorem off_other {a p : Addr} {H : Hp} {o : HO} (h : p ≠ a) : Off a (upd H p o) = upd (Off a H) p o := by
  funext b
  by_cases h1 : b = a
  · subst h1
    rw [off_same, upd_ne h.symm, off_same]
  · rw [off_ne h1]
    by_cases h2 : b = p
    · subst h2
      rw [upd_same, upd_same]
    · rw [upd_ne h2, upd_ne h2, off_ne h1]
section
variable {K : PySem.W.Frag} {a p : Addr} {G : Hp} {vs : List V} {ds : List PyData} {o : HO}
theorem new_tup (hA : G a ≠ none) (np : G p = none) (h : DpAll K (Off a G) vs ds) : Dp K (Off a (upd G p (.tup vs))) (.ref p) (.tuple ds) := by
  have pa : p ≠ a := ne_has hA np
  exact .tup (SqT.of (by rw [off_ne pa, upd_same])) (dps_same (off_mono (same_new np)) h)
theorem new_lst (hA : G a ≠ none) (np : G p = none) (h : DpAll K (Off a G) vs ds) : Dp K (Off a (upd G p (.lst vs))) (.ref p) (.list ds) := by
  have pa : p ≠ a := ne_has hA np
  exact .lst (SqL.of (by rw [off_ne pa, upd_same])) (dps_same (off_mono (same_new np)) h)
theorem dp_up {H H' : Hp} {v : V} {d : PyData} (s : Same H H') (h : Dp K (Off a H) v d) : Dp K (Off a H') v d := dp_same (off_mono s) h
theorem dps_up {H H' : Hp} {v : List V} {d : List PyData} (s : Same H H') (h : DpAll K (Off a H) v d) : DpAll K (Off a H') v d := dps_same (off_mono s) h
theorem dp_on {H : Hp} {v : V} {d : PyData} (h : Dp K (Off a H) v d) : Dp K H v d := dp_same (off_sub a H) h
theorem atI_mem {xs : List V} {r : Int} (h0 : 0 ≤ r) (h1 : r < xs.length) : ∃ x, atI xs r = some x ∧ x ∈ xs := by
  have hj : r.toNat < xs.length := by omega
  have z := atI_nat (List.getElem?_eq_getElem hj)
  rw [Int.toNat_of_nonneg h0] at z
  exact ⟨_, z, List.getElem_mem hj⟩
theorem atI_dp {H : Hp} {xs : List V} {es : List PyData} {r : Int} (d : DpAll K H xs es) (h0 : 0 ≤ r) (h1 : r < es.length) : ∃ x e, atI xs r = some x ∧ es[r.toNat]? = some e ∧ Dp K H x e := by
  have hl := dps_len d
  have hj : r.toNat < es.length := by omega
  obtain ⟨x, hx, dx⟩ := dps_get d (List.getElem?_eq_getElem hj)
  have z := atI_nat hx
  rw [Int.toNat_of_nonneg h0] at z
  exact ⟨x, _, z, List.getElem?_eq_getElem hj, dx⟩
theorem cat_go {H : Hp} {x y : V} {ds es : List PyData} {Q : VK} (hA : H a ≠ none) (hx : Dp K (Off a H) x (.tuple ds)) (hy : Dp K (Off a H) y (.tuple es)) (hl : ds.length + es.length ≤ 1000)
    (k : ∀ z H', Same H H' → Dp K (Off a H') z (.tuple (ds ++ es)) → Q z H') : rCatA K x y H Q := by
  obtain ⟨p, xs, rfl, qx, rx⟩ := dp_tuple hx
  obtain ⟨q, ys, rfl, qy, ry⟩ := dp_tuple hy
  have l1 := dps_len rx
  have l2 := dps_len ry
  refine ⟨p, q, xs, ys, rfl, rfl, same_seqT (off_sub a H) qx, same_seqT (off_sub a H) qy, Nat.le_trans (show xs.length + ys.length ≤ 1000 by omega) (by decide), fun e => ?_, fun _ e => ?_, fun _ _ t nt => ?_⟩
  · subst e
    have e2 : ds = [] := List.eq_nil_of_length_eq_zero l1.symm
    subst e2
    exact k _ H (Same.refl H) hy
  · subst e
    have e2 : es = [] := List.eq_nil_of_length_eq_zero l2.symm
    subst e2
    rw [List.append_nil] at k
    exact k _ H (Same.refl H) hx
  · exact k _ _ (same_new nt) (new_tup hA nt (dps_app rx ry))
theorem slice_go {H : Hp} {x : V} {ds : List PyData} {lo hi : Option Int} {Q : VK} (hA : H a ≠ none) (hx : Dp K (Off a H) x (.tuple ds))
    (k : ∀ z H', Same H H' → Dp K (Off a H') z (.tuple ((ds.drop (HT.sIx ds.length 0 lo)).take (HT.sIx ds.length ds.length hi - HT.sIx ds.length 0 lo))) → Q z H') : rSlA K x lo hi H Q := by
  obtain ⟨p, xs, rfl, qx, rx⟩ := dp_tuple hx
  have l1 := dps_len rx
  refine ⟨p, xs, rfl, same_seqT (off_sub a H) qx, fun w => ?_, fun _ t nt => ?_⟩
  · rw [l1] at w
    have z := k (.ref p) H (Same.refl H)
    rw [w.1, w.2, List.drop_zero, Nat.sub_zero, List.take_length] at z
    exact z hx
  · refine k _ _ (same_new nt) (new_tup hA nt ?_)
    unfold cutV
    rw [l1]
    exact dps_take _ (dps_drop _ rx)
theorem dps_rep {H : Hp} {xs : List V} {es : List PyData} (d : DpAll K H xs es) : ∀ n : Nat, DpAll K H (List.replicate n xs).flatten (List.replicate n es).flatten
  | 0 => .nil
  | n + 1 => by
    rw [List.replicate_succ, List.replicate_succ, List.flatten_cons, List.flatten_cons]
    exact dps_app d (dps_rep d n)
end
end Vk
/-! xs == [], t != () -/
namespace Vk
open PySem PySem.Spec PyProof.Rows L2
def rEqNilL (K : PySem.W.Frag) : R2 := fun x y H Q => ∃ p q xs, x = .ref p ∧ y = .ref q ∧ SqL K H p xs ∧ SqL K H q [] ∧ Q (.bl xs.isEmpty) H
def rNeNilL (K : PySem.W.Frag) : R2 := fun x y H Q => ∃ p q xs, x = .ref p ∧ y = .ref q ∧ SqL K H p xs ∧ SqL K H q [] ∧ Q (.bl (!xs.isEmpty)) H
def rNeNilT (K : PySem.W.Frag) : R2 := fun x y H Q => ∃ p q xs, x = .ref p ∧ y = .ref q ∧ SqT K H p xs ∧ SqT K H q [] ∧ Q (.bl (!xs.isEmpty)) H
section
variable {X : Cx}
theorem op_eqNilL (hu : X.A.units < cLine) : OpR X (compareOp .Eq) (rEqNilL X.K) := by
  intro pins s σ H x y v u Q I rx ry h
  obtain ⟨p, q, xs, rfl, rfl, hp, hq, k⟩ := h
  cases rx
  cases ry
  obtain ⟨is1, r1, p1, _⟩ := I.list hp
  obtain ⟨is2, r2, p2, _⟩ := I.list hq
  cases r2
  have l1 := r1.length
  cases xs with
  | nil =>
    cases r1
    exact SeqAt.eq_listAt (e := fun _ => true) p1.isList p2.isList rfl hu (fun j h1 _ => absurd h1 (Nat.not_lt_zero _)) ⟨.bl true, H, I, rfl, k⟩
  | cons x r =>
    cases r1
    exact SeqAt.eq_list_lengthsAt p1.isList p2.isList (by simp) hu ⟨.bl false, H, I, rfl, k⟩
theorem op_neNilL (hu : X.A.units < cLine) : OpR X (compareOp .NotEq) (rNeNilL X.K) := by
  intro pins s σ H x y v u Q I rx ry h
  obtain ⟨p, q, xs, rfl, rfl, hp, hq, k⟩ := h
  cases rx
  cases ry
  obtain ⟨is1, r1, p1, _⟩ := I.list hp
  obtain ⟨is2, r2, p2, _⟩ := I.list hq
  cases r2
  have l1 := r1.length
  cases xs with
  | nil =>
    cases r1
    exact SeqAt.RcNeAt.lists (e := fun _ => true) p1.isList p2.isList rfl hu (fun j h1 _ => absurd h1 (Nat.not_lt_zero _)) _ _ _ _ ⟨.bl false, H, I, rfl, k⟩
  | cons x r =>
    cases r1
    exact SeqAt.RcNeAt.lists_lengths p1.isList p2.isList (by simp) hu _ _ _ _ ⟨.bl true, H, I, rfl, k⟩
theorem op_neNilT (hu : X.A.units < cLine) : OpR X (compareOp .NotEq) (rNeNilT X.K) := by
  intro pins s σ H x y v u Q I rx ry h
  obtain ⟨p, q, xs, rfl, rfl, hp, hq, k⟩ := h
  cases rx
  cases ry
  obtain ⟨is1, r1, p1, _⟩ := I.tuple hp
  obtain ⟨is2, r2, p2, _⟩ := I.tuple hq
  cases r2
  have l1 := r1.length
  have z : (!((List.range (min is1.toArray.size ([] : List Value).toArray.size)).all (fun _ => true) && is1.toArray.size == ([] : List Value).toArray.size)) = !xs.isEmpty := by
    cases xs with
    | nil =>
      cases r1
      rfl
    | cons x r =>
      cases r1
      simp
  refine SeqAt.RcNeAt.tuples (e := fun _ => true) p1 p2 hu (fun j _ h2 => absurd h2 (Nat.not_lt_zero _)) _ _ _ _ ?_
  rw [z]
  exact ⟨.bl (!xs.isEmpty), H, I, rfl, k⟩
end
end Vk
namespace Vk
open PySem PySem.Spec PyProof.Rows L2
/-- the truth of the twelve questions, for the class with number i -/
def bits (i : Nat) : List V := (List.range 12).map fun j => V.bl (decide (j = i))
def words7 : List Str := ["jobs", "rule", "lengths", "log", "marks", "named", "order"]
theorem bits_len (i : Nat) : (bits i).length = 12 := by simp [bits]
theorem bits_get {i m : Nat} (h : m < 12) : (bits i)[m]? = some (V.bl (decide (m = i))) := by
  unfold bits
  rw [List.getElem?_map, List.getElem?_range h]
  rfl
theorem bits_flat (i : Nat) : (bits i).all flatV = true := by
  unfold bits
  rw [List.all_eq_true]
  intro x hx
  obtain ⟨j, _, rfl⟩ := List.mem_map.mp hx
  rfl
theorem bits_cnt : ∀ i : Fin 12, (bits i.1).countP (fun z => eqV z (.bl true)) = 1 := by decide +kernel
structure Kn (K : PySem.W.Frag) (mg : Str → Option Value) (C : Addr) (i : Nat) : Prop where
  ex : ExcC K C
  xf : XfC K C
  noP : PySem.W.findIn K (.ref C) "place" = some none
  ve : mg "ValueError" = none
  kv : PySem.W.kitOne K (.ref C) (.type "ValueError") = some true
  se : ∃ S, mg "SlotError" = some (.ref S) ∧ PySem.W.kitOne K (.ref C) (.ref S) = some true ∧ PySem.W.exmOne K (.ref C) (.ref S) = some true
  c0 : ∃ D, mg "NoJobs" = some (.ref D) ∧ PySem.W.kitOne K (.ref C) (.ref D) = some (decide (0 = i))
  c1 : ∃ D, mg "NoRule" = some (.ref D) ∧ PySem.W.kitOne K (.ref C) (.ref D) = some (decide (1 = i))
  c2 : ∃ D, mg "NoLengths" = some (.ref D) ∧ PySem.W.kitOne K (.ref C) (.ref D) = some (decide (2 = i))
  c3 : ∃ D, mg "NoLog" = some (.ref D) ∧ PySem.W.kitOne K (.ref C) (.ref D) = some (decide (3 = i))
  c4 : ∃ D, mg "NoMarks" = some (.ref D) ∧ PySem.W.kitOne K (.ref C) (.ref D) = some (decide (4 = i))
  c5 : ∃ D, mg "NoNamed" = some (.ref D) ∧ PySem.W.kitOne K (.ref C) (.ref D) = some (decide (5 = i))
  c6 : ∃ D, mg "NoOrder" = some (.ref D) ∧ PySem.W.kitOne K (.ref C) (.ref D) = some (decide (6 = i))
  c7 : ∃ D, mg "NoText" = some (.ref D) ∧ PySem.W.kitOne K (.ref C) (.ref D) = some (decide (7 = i))
  c8 : ∃ D, mg "NoNumber" = some (.ref D) ∧ PySem.W.kitOne K (.ref C) (.ref D) = some (decide (8 = i))
  c9 : ∃ D, mg "NoName" = some (.ref D) ∧ PySem.W.kitOne K (.ref C) (.ref D) = some (decide (9 = i))
  c10 : ∃ D, mg "NoUndo" = some (.ref D) ∧ PySem.W.kitOne K (.ref C) (.ref D) = some (decide (10 = i))
  c11 : ∃ D, mg "NoLine" = some (.ref D) ∧ PySem.W.kitOne K (.ref C) (.ref D) = some (decide (11 = i))
section
variable {P : Program} {w : World} {K : PySem.W.Frag} {mg : Str → Option Value} {base : Heap}
def spKind (C : Addr) (i : Nat) : Sp := fun vs H Q _ => ∃ (a dd : Addr) (v : V), vs = [.ref a] ∧ H a = some (Xco a (.ref C) (some dd)) ∧ H dd = some (.xd [(("place" : Str), v)]) ∧
  ∀ (t : Addr) (H' : Hp), Same H H' → H' t = some (.tup [.str (words7.getD i ""), v]) → Q (.ref t) H'
theorem scKind : FnScope ["caught", "kinds", "at"] ["caught"] (defScope sKind) := ⟨rfl, rfl, rfl, by decide +kernel, rfl, by decide +kernel, by decide +kernel⟩
theorem ok_kind {C : Addr} {i : Nat} (hi : i < 7) (D : Df K mg "_law_kind" sKind ["caught"]) (B : Blt mg) (N : Kn K mg C i) : Cl P w K mg base CX0 1 "_law_kind" ["caught"] (spKind C i) := by
  refine cl0 D scKind (fun vs H Q E h => ?_) (fun f cdv A outer s H vs Q E hr h => ?_)
  · obtain ⟨a, dd, v, rfl, _⟩ := h
    rfl
  · obtain ⟨a, dd, v, rfl, ha, hdd, k⟩ := h
    obtain ⟨S, mS, kS, _⟩ := N.se
    obtain ⟨D0, m0, k0⟩ := N.c0
    obtain ⟨D1, m1, k1⟩ := N.c1
    obtain ⟨D2, m2, k2⟩ := N.c2
    obtain ⟨D3, m3, k3⟩ := N.c3
    obtain ⟨D4, m4, k4⟩ := N.c4
    obtain ⟨D5, m5, k5⟩ := N.c5
    obtain ⟨D6, m6, k6⟩ := N.c6
    obtain ⟨D7, m7, k7⟩ := N.c7
    obtain ⟨D8, m8, k8⟩ := N.c8
    obtain ⟨D9, m9, k9⟩ := N.c9
    obtain ⟨D10, m10, k10⟩ := N.c10
    obtain ⟨D11, m11, k11⟩ := N.c11
    refine ⟨_, pss_cons (ps_set (i := 1) scKind.nd rfl (Or.inl rfl) (pe_lst (pa_cons (pe_callB call_isX (by rfl) B.isi (by decide +kernel) (pa_cons (pv 0) (pa_cons (pe_glob rfl m0 (show RelV (.ref _) _ from rfl)) pa_nil))) (pa_cons (pe_callB call_isX (by rfl) B.isi (by decide +kernel) (pa_cons (pv 0) (pa_cons (pe_glob rfl m1 (show RelV (.ref _) _ from rfl)) pa_nil))) (pa_cons (pe_callB call_isX (by rfl) B.isi (by decide +kernel) (pa_cons (pv 0) (pa_cons (pe_glob rfl m2 (show RelV (.ref _) _ from rfl)) pa_nil))) pa_nil)))))
      (pss_cons (ps_set (i := 1) scKind.nd rfl (Or.inl rfl) (pe_op op_cat (pv 1) (pe_lst (pa_cons (pe_callB call_isX (by rfl) B.isi (by decide +kernel) (pa_cons (pv 0) (pa_cons (pe_glob rfl m3 (show RelV (.ref _) _ from rfl)) pa_nil))) (pa_cons (pe_callB call_isX (by rfl) B.isi (by decide +kernel) (pa_cons (pv 0) (pa_cons (pe_glob rfl m4 (show RelV (.ref _) _ from rfl)) pa_nil))) (pa_cons (pe_callB call_isX (by rfl) B.isi (by decide +kernel) (pa_cons (pv 0) (pa_cons (pe_glob rfl m5 (show RelV (.ref _) _ from rfl)) pa_nil))) pa_nil))))))
      (pss_cons (ps_set (i := 1) scKind.nd rfl (Or.inl rfl) (pe_op op_cat (pv 1) (pe_lst (pa_cons (pe_callB call_isX (by rfl) B.isi (by decide +kernel) (pa_cons (pv 0) (pa_cons (pe_glob rfl m6 (show RelV (.ref _) _ from rfl)) pa_nil))) (pa_cons (pe_callB call_isX (by rfl) B.isi (by decide +kernel) (pa_cons (pv 0) (pa_cons (pe_glob rfl m7 (show RelV (.ref _) _ from rfl)) pa_nil))) (pa_cons (pe_callB call_isX (by rfl) B.isi (by decide +kernel) (pa_cons (pv 0) (pa_cons (pe_glob rfl m8 (show RelV (.ref _) _ from rfl)) pa_nil))) pa_nil))))))
      (pss_cons (ps_set (i := 1) scKind.nd rfl (Or.inl rfl) (pe_op op_cat (pv 1) (pe_lst (pa_cons (pe_callB call_isX (by rfl) B.isi (by decide +kernel) (pa_cons (pv 0) (pa_cons (pe_glob rfl m9 (show RelV (.ref _) _ from rfl)) pa_nil))) (pa_cons (pe_callB call_isX (by rfl) B.isi (by decide +kernel) (pa_cons (pv 0) (pa_cons (pe_glob rfl m10 (show RelV (.ref _) _ from rfl)) pa_nil))) (pa_cons (pe_callB call_isX (by rfl) B.isi (by decide +kernel) (pa_cons (pv 0) (pa_cons (pe_glob rfl m11 (show RelV (.ref _) _ from rfl)) pa_nil))) pa_nil))))))
      (pss_cons (ps_if (PW.pt (pw_or (pt_not (pt_val (pe_callB call_isX (by rfl) B.isi (by decide +kernel) (pa_cons (pv 0) (pa_cons (pe_glob rfl mS (show RelV (.ref _) _ from rfl)) pa_nil))))) (pw_or (pt_not (pt_val (pe_callB call_isX (by rfl) B.isi (by decide +kernel) (pa_cons (pv 0) (pa_cons (pe_bltn (v := .ty "ValueError") (u := .type "ValueError") (by rfl) N.ve (by decide +kernel) rfl) pa_nil)))))
        (pw_or1 (pt_cmpR op_ne (pe_bm PySem.F.plainAttrs_list PySem.F.slot_list_count PySem.F.type_list_count mt_countV (pv 1) (pa_cons pe_bl pa_nil)) pe_int (nomark _)))))) (pss_one (ps_ret (pe_tup (pa_cons pe_str (pa_cons pe_int pa_nil))))) pss_nil)
      (pss_cons (ps_set (i := 2) scKind.nd rfl (Or.inl rfl) (pe_bm PySem.F.plainAttrs_list PySem.F.slot_list_index PySem.F.type_list_index mt_index (pv 1) (pa_cons pe_bl pa_nil)))
      (pss_cons (ps_if (pt_cmpR op_lt (pv 2) pe_int (nomark _)) (pss_one (ps_ret (pe_tup (pa_cons (pe_ix ix_list (pe_lst (pa_cons pe_str (pa_cons pe_str (pa_cons pe_str (pa_cons pe_str (pa_cons pe_str (pa_cons pe_str (pa_cons pe_str pa_nil)))))))) (pv 2) (fun _ _ => rfl)) (pa_cons (pe_xp (pv 0)) pa_nil))))) pss_nil)
      (pss_cons ps_never (pss_cons ps_never (pss_cons ps_never (pss_one ps_never)))))))))), ?_⟩
    refine ⟨_, rfl, a, C, some dd, _, _, _, rfl, (Same.refl H).at ha, (fun d2 e2 => by cases e2; exact ⟨_, (Same.refl H).at hdd⟩), N.ex, .own _, k0,
      _, rfl, a, C, some dd, _, _, _, rfl, (Same.refl H).at ha, (fun d2 e2 => by cases e2; exact ⟨_, (Same.refl H).at hdd⟩), N.ex, .own _, k1,
      _, rfl, a, C, some dd, _, _, _, rfl, (Same.refl H).at ha, (fun d2 e2 => by cases e2; exact ⟨_, (Same.refl H).at hdd⟩), N.ex, .own _, k2, (by show 3 ≤ sizeLine; decide), fun p1 n1 => ?_⟩
    have s1 := same_new (o := .lst [.bl (decide (0 = i)), .bl (decide (1 = i)), .bl (decide (2 = i))]) n1
    refine ⟨_, rfl, _, rfl, a, C, some dd, _, _, _, rfl, s1.at ha, (fun d2 e2 => by cases e2; exact ⟨_, s1.at hdd⟩), N.ex, .own _, k3,
      _, rfl, a, C, some dd, _, _, _, rfl, s1.at ha, (fun d2 e2 => by cases e2; exact ⟨_, s1.at hdd⟩), N.ex, .own _, k4,
      _, rfl, a, C, some dd, _, _, _, rfl, s1.at ha, (fun d2 e2 => by cases e2; exact ⟨_, s1.at hdd⟩), N.ex, .own _, k5, (by show 3 ≤ sizeLine; decide), fun q1 m1' => ?_⟩
    have t1 := same_new (o := .lst [.bl (decide (3 = i)), .bl (decide (4 = i)), .bl (decide (5 = i))]) m1'
    refine ⟨p1, q1, _, _, rfl, rfl, t1.at upd_same, upd_same, (by show 3 + 3 ≤ sizeLine; decide), fun p2 n2 => ?_⟩
    have s2 := (s1.trans t1).trans (same_new (o := .lst ([.bl (decide (0 = i)), .bl (decide (1 = i)), .bl (decide (2 = i))] ++ [.bl (decide (3 = i)), .bl (decide (4 = i)), .bl (decide (5 = i))])) n2)
    refine ⟨_, rfl, _, rfl, a, C, some dd, _, _, _, rfl, s2.at ha, (fun d2 e2 => by cases e2; exact ⟨_, s2.at hdd⟩), N.ex, .own _, k6,
      _, rfl, a, C, some dd, _, _, _, rfl, s2.at ha, (fun d2 e2 => by cases e2; exact ⟨_, s2.at hdd⟩), N.ex, .own _, k7,
      _, rfl, a, C, some dd, _, _, _, rfl, s2.at ha, (fun d2 e2 => by cases e2; exact ⟨_, s2.at hdd⟩), N.ex, .own _, k8, (by show 3 ≤ sizeLine; decide), fun q2 m2' => ?_⟩
    have t2 := same_new (o := .lst [.bl (decide (6 = i)), .bl (decide (7 = i)), .bl (decide (8 = i))]) m2'
    refine ⟨p2, q2, _, _, rfl, rfl, t2.at upd_same, upd_same, (by show 6 + 3 ≤ sizeLine; decide), fun p3 n3 => ?_⟩
    have s3 := (s2.trans t2).trans (same_new (o := .lst (([.bl (decide (0 = i)), .bl (decide (1 = i)), .bl (decide (2 = i))] ++ [.bl (decide (3 = i)), .bl (decide (4 = i)), .bl (decide (5 = i))]) ++ [.bl (decide (6 = i)), .bl (decide (7 = i)), .bl (decide (8 = i))])) n3)
    refine ⟨_, rfl, _, rfl, a, C, some dd, _, _, _, rfl, s3.at ha, (fun d2 e2 => by cases e2; exact ⟨_, s3.at hdd⟩), N.ex, .own _, k9,
      _, rfl, a, C, some dd, _, _, _, rfl, s3.at ha, (fun d2 e2 => by cases e2; exact ⟨_, s3.at hdd⟩), N.ex, .own _, k10,
      _, rfl, a, C, some dd, _, _, _, rfl, s3.at ha, (fun d2 e2 => by cases e2; exact ⟨_, s3.at hdd⟩), N.ex, .own _, k11, (by show 3 ≤ sizeLine; decide), fun q3 m3' => ?_⟩
    have t3 := same_new (o := .lst [.bl (decide (9 = i)), .bl (decide (10 = i)), .bl (decide (11 = i))]) m3'
    refine ⟨p3, q3, _, _, rfl, rfl, t3.at upd_same, upd_same, (by show 9 + 3 ≤ sizeLine; decide), fun p4 n4 => ?_⟩
    have s4 := (s3.trans t3).trans (same_new (o := .lst ((([.bl (decide (0 = i)), .bl (decide (1 = i)), .bl (decide (2 = i))] ++ [.bl (decide (3 = i)), .bl (decide (4 = i)), .bl (decide (5 = i))]) ++ [.bl (decide (6 = i)), .bl (decide (7 = i)), .bl (decide (8 = i))]) ++ [.bl (decide (9 = i)), .bl (decide (10 = i)), .bl (decide (11 = i))])) n4)
    have e12 : ((([.bl (decide (0 = i)), .bl (decide (1 = i)), .bl (decide (2 = i))] ++ [.bl (decide (3 = i)), .bl (decide (4 = i)), .bl (decide (5 = i))]) ++ [.bl (decide (6 = i)), .bl (decide (7 = i)), .bl (decide (8 = i))]) ++ [.bl (decide (9 = i)), .bl (decide (10 = i)), .bl (decide (11 = i))]) = bits i := rfl
    refine ⟨_, rfl, a, C, some dd, _, _, _, rfl, s4.at ha, (fun d2 e2 => by cases e2; exact ⟨_, s4.at hdd⟩), N.ex, .own _, kS, _, rfl, iteF ?_⟩
    refine ⟨_, rfl, a, C, some dd, _, _, _, rfl, s4.at ha, (fun d2 e2 => by cases e2; exact ⟨_, s4.at hdd⟩), N.ex, .ty "ValueError", N.kv, _, rfl, iteF ?_⟩
    refine ⟨_, rfl, .inl ⟨rfl, _, SqL.of upd_same⟩, p4, _, _, rfl, rfl, SqL.of upd_same, rfl, ?_, ?_⟩
    · rw [e12]
      exact bits_flat i
    rw [e12]
    have ec : (bits i).countP (fun z => eqV z (.bl true)) = 1 := bits_cnt ⟨i, by omega⟩
    rw [ec]
    refine ⟨rfl, _, rfl, iteF ?_⟩
    refine ⟨_, rfl, .inl ⟨rfl, _, SqL.of upd_same⟩, p4, _, _, i, .bl (decide (i = i)), rfl, rfl, SqL.of upd_same, rfl, bits_flat i, bits_get (by omega), by rw [decide_eq_true rfl]; rfl, fun m z' hm hz => ?_, ?_⟩
    · rw [bits_get (by omega)] at hz
      cases hz
      rw [decide_eq_false (by omega)]
      rfl
    refine ⟨_, rfl, _, _, rfl, rfl, _, rfl, ?_⟩
    rw [decide_eq_true (show (i : Int) < 7 by omega)]
    refine iteT ⟨(by show 7 ≤ sizeLine; decide), fun l nl => ?_⟩
    have s5 := s4.trans (same_new (o := .lst (words7.map V.str)) nl)
    have ew : (words7.map V.str)[i]? = some (.str (words7.getD i "")) := by
      rw [List.getElem?_map, List.getD_eq_getElem?_getD]
      have hl : i < words7.length := hi
      rw [List.getElem?_eq_getElem hl]
      rfl
    refine ⟨_, rfl, l, _, _, _, rfl, rfl, SqL.of upd_same, atI_nat ew, _, rfl, a, C, dd, _, v, rfl, s5.at ha, s5.at hdd, by simp [List.lookup], N.xf, N.noP, (by show 2 ≤ sizeLine; decide), fun t nt => ?_⟩
    exact k t _ (s5.trans (same_new nt)) upd_same
end
end Vk
/-! all(lo <= c <= hi for c in text) -/
namespace Vk
open PySem PySem.Spec PyProof.Rows L2 GxR
def between (lo hi : Str) (c : Nat) : Bool := !decide ([c] < lo.cps.toList) && !decide (hi.cps.toList < [c])
theorem elt_between {prog : Program} {w : World} {scope : Scope} {x lo hi : Str} {j1 j2 : Nat} {p1 p2 p3 p4 : Pos} (hk : scope.kind = .function) (hl : scope.names.lookup x = some .local) (hd : (x == ("__debug__" : Str)) = false := by decide) :
    EltP prog w scope x (.Compare (.Constant (.str lo) j1 p1) [.LtE, .LtE] [.Name x p2, .Constant (.str hi) j2 p3] p4) (between lo hi) := by
  intro cenv A' E' c t s₂ m₂ hs hn hm
  refine Compare_chain ?_
  refine Calls.Constant_str (chain_link ?_)
  refine wpAny_Name (wpAny_loadName_local (by rw [hs]; exact hk) (show cenv.scope.names.lookup x = some .local by rw [hs]; exact hl) hn hm ?_) hd
  refine PySem.P.le_str (wpAny_truthy_bool ?_)
  have e1 : (⟨#[c]⟩ : Str).cps.toList = [c] := rfl
  cases h1 : decide ([c] < lo.cps.toList) with
  | true =>
    refine ite_ff ⟨?_, keeps_tok _ _⟩
    unfold between
    rw [h1]
    rfl
  | false =>
    refine ite_tt (chain_last (Calls.Constant_str (PySem.P.le_str ⟨?_, keeps_tok _ _⟩)))
    unfold between
    rw [h1]
    rfl
end Vk
namespace Vk
open PySem PySem.Spec PyProof.Rows L2 GxR
/-- a def whose code object stands at c -/
structure DfC (K : PySem.W.Frag) (mg : Str → Option Value) (x : Str) (st : Stmt) (ps : List Str) (c : Addr) : Prop where
  ex : ∃ (f : Addr) (oc : Value) (od : Option Addr) (kV doc pm : Value) (an : Option Addr) (ct : Value) (osl : Array (Option Value)), mg x = some (.ref f) ∧
    K.lookup f = some ⟨oc, od, .func (PySem.W.fnOf x x (defArgs st) (defBody st) (defScope st) .none kV doc pm an (.ref c) ct), osl⟩ ∧ PySem.W.codeIn K (.ref c) x = true ∧ PySem.W.keepIn K (.ref f) = true ∧
    Binds K (PySem.W.fnOf x x (defArgs st) (defBody st) (defScope st) .none kV doc pm an (.ref c) ct) ps []
theorem clC {P : Program} {w : World} {K : PySem.W.Frag} {mg : Str → Option Value} {base : Heap} {x : Str} {st : Stmt} {N ps : List Str} {k : Nat} {sp : Sp} {c : Addr} (D : DfC K mg x st ps c) (S : FnScope N ps (defScope st)) (len : ∀ vs H Q E, sp vs H Q E → vs.length = ps.length)
    (body : ∀ (f : Addr) (A : Around) (outer : List Env) (s : Shared) (H : Hp) (vs : List V) (Q : VK) (E : XK), Room k (A.deeper (envOfC x (defScope st) s.heap.objs.size f (.ref c))) → sp vs H Q E →
      ∃ t, PSs (cxOf CX0 P w K mg base N x (defScope st) f (.ref c) A outer s H E).nox (defBody st) t ∧ t { nx := fun _ H' => Q .non H', rt := Q } (start N vs) H) : Cl P w K mg base CX0 (k + 1) x ps sp := by
  obtain ⟨f, oc, od, kV, doc, pm, an, ct, osl, hm, lk, hcd, kp, b⟩ := D.ex
  refine ⟨f, _, hm, kp, b, fn_of lk hcd S len fun A outer s H vs Q E hr hsp => ?_⟩
  obtain ⟨t, h, q⟩ := body f A outer s H vs Q E hr hsp
  exact ⟨t, h.nox, q⟩
theorem twoLoc {R : Str × NameKind → Prop} {a b : Str} : ∀ y ∈ [(a, NameKind.local), (b, NameKind.local)], y.2 = .free → R y := by
  intro y hy e
  rcases List.mem_cons.mp hy with rfl | hy
  · cases e
  · rcases List.mem_cons.mp hy with rfl | hy
    · cases e
    · cases hy
def smallS : PyData → Prop
  | .str s => s.length ≤ 100000
  | _ => True
def nameD : PyData → Bool
  | .str s => decide (1 ≤ s.length) && (decide (s.length ≤ 8) && s.cps.toList.all (between "a" "z"))
  | _ => false
section
variable {P : Program} {w : World} {K : PySem.W.Frag} {mg : Str → Option Value} {base : Heap}
def spName (K : PySem.W.Frag) (T : Addr) : Sp := fun vs H Q _ => ∃ (v : V) (d : PyData), vs = [v] ∧ Dp K H v d ∧ smallS d ∧ TabG H T ∧ ∀ H', Same H H' → Q (.bl (nameD d)) H'
theorem scName : FnScope ["value"] ["value"] (defScope sName) := ⟨rfl, rfl, rfl, by decide +kernel, rfl, by decide +kernel, by decide +kernel⟩
theorem ok_name {c T : Addr} (D : DfC K mg "is_name" sName ["value"] c) (TB : TabB base mg c T) (B : Blt mg) (al : mg "all" = none) : Cl P w K mg base CX0 1 "is_name" ["value"] (spName K T) := by
  refine clC D scName (fun vs H Q E h => ?_) (fun f A outer s H vs Q E hr h => ?_)
  · obtain ⟨v, d, rfl, _⟩ := h
    rfl
  · obtain ⟨v, d, rfl, hd, sm, tg, k⟩ := h
    refine ⟨_, pss_cons (ps_if (PW.pt (pw_or (pt_not (pt_val (pe_callB call_isi (by rfl) B.isi (by decide +kernel) (pa_cons (pv 0) (pa_cons (pe_bltn (v := .ty "str") (u := .type "str") (by rfl) B.str (by decide +kernel) rfl) pa_nil))))) (pw_or1 (pt_not (pt_chain op_le op_le pe_int (pe_callB call_len (by rfl) B.len PySem.boot_len (pa_cons (pv 0) pa_nil)) pe_int))))) (pss_one (ps_ret pe_bl)) pss_nil)
      (pss_one (ps_ret (pe_allS (c := c) (P := T) (pb := between "a" "z") hr (by rfl) al (by decide +kernel) TB rfl ⟨rfl, rfl, by decide +kernel, by decide +kernel, by decide +kernel, twoLoc⟩ (pv 0) (elt_between rfl (by decide +kernel)) (fun _ => rfl)))), ?_⟩
    refine ⟨_, rfl, v, _, _, _, _, rfl, .ty "str", dp_ty hd, kit_strT hd, _, rfl, ?_⟩
    have fin : ∀ b, nameD d = b → ∀ H', Same H H' → Q (.bl b) H' := fun b e H' s1 => by
      have z := k H' s1
      rw [e] at z
      exact z
    cases hd with
    | non => exact iteT (iteT (fin _ rfl H (Same.refl H)))
    | int i => exact iteT (iteT (fin _ rfl H (Same.refl H)))
    | bl b => exact iteT (iteT (fin _ rfl H (Same.refl H)))
    | lst q r => exact iteT (iteT (fin _ rfl H (Same.refl H)))
    | tup q r => exact iteT (iteT (fin _ rfl H (Same.refl H)))
    | str x =>
      refine iteF ⟨_, rfl, .str x, x.length, rfl, ⟨Nat.le_trans (show x.length ≤ 100000 from sm) (by decide), rfl⟩, _, _, rfl, rfl, _, rfl, ?_⟩
      have e : nameD (.str x) = (decide (1 ≤ x.length) && (decide (x.length ≤ 8) && x.cps.toList.all (between "a" "z"))) := rfl
      refine ite2 (fun z1 => ?_) (fun z1 => ?_)
      · have z2 : (1 : Int) ≤ (x.length : Nat) := of_decide_eq_true z1
        have e1 : decide (1 ≤ x.length) = true := decide_eq_true (by omega)
        refine ⟨_, _, rfl, rfl, _, rfl, ?_⟩
        by_cases z3 : x.length ≤ 8
        · rw [decide_eq_true (show ((x.length : Nat) : Int) ≤ 8 by omega)]
          refine iteF ⟨_, rfl, x, rfl, tg, fun H2 tb => fin _ ?_ H2 (same_tabbed tb tg)⟩
          rw [e, e1, decide_eq_true z3]
          rfl
        · rw [decide_eq_false (show ¬ ((x.length : Nat) : Int) ≤ 8 by omega)]
          refine iteT (fin _ ?_ H (Same.refl H))
          rw [e, e1, decide_eq_false z3]
          rfl
      · have z2 : ¬ 1 ≤ x.length := fun y => z1 (decide_eq_true (by omega))
        refine ⟨_, rfl, iteT (fin _ ?_ H (Same.refl H))⟩
        rw [e, decide_eq_false z2]
        rfl
end
end Vk
namespace Vk
open PySem PySem.Spec PyProof.Rows L2 GxR
/-! ### data of a job -/
def headD : PyData → Bool
  | .tuple [a, _] => flatD a
  | _ => true
theorem tup_two {d : PyData} (h : tupleND 2 d = true) : ∃ a b, d = .tuple [a, b] := by
  cases d with
  | tuple ds =>
    have z : (ds.length : Int) = 2 := of_decide_eq_true h
    match ds, z with
    | [a, b], _ => exact ⟨a, b, rfl⟩
    | [], z => cases z
    | [_], z => cases z
    | _ :: _ :: _ :: l, z => simp only [List.length_cons] at z; omega
  | _ => cases h
theorem tup_three {d : PyData} (h : tupleND 3 d = true) : ∃ a b c, d = .tuple [a, b, c] := by
  cases d with
  | tuple ds =>
    have z : (ds.length : Int) = 3 := of_decide_eq_true h
    match ds, z with
    | [a, b, c], _ => exact ⟨a, b, c, rfl⟩
    | [], z => cases z
    | [_], z => cases z
    | [_, _], z => cases z
    | _ :: _ :: _ :: _ :: l, z => simp only [List.length_cons] at z; omega
  | _ => cases h
theorem dp_two {K : PySem.W.Frag} {H : Hp} {v : V} {a b : PyData} (h : Dp K H v (.tuple [a, b])) : ∃ p x y, v = .ref p ∧ SqT K H p [x, y] ∧ Dp K H x a ∧ Dp K H y b := by
  obtain ⟨p, xs, rfl, q, r⟩ := dp_tuple h
  cases r with
  | cons h1 r =>
    cases r with
    | cons h2 r =>
      cases r
      exact ⟨p, _, _, rfl, q, h1, h2⟩
theorem dp_three {K : PySem.W.Frag} {H : Hp} {v : V} {a b c : PyData} (h : Dp K H v (.tuple [a, b, c])) : ∃ p x y z, v = .ref p ∧ SqT K H p [x, y, z] ∧ Dp K H x a ∧ Dp K H y b ∧ Dp K H z c := by
  obtain ⟨p, xs, rfl, q, r⟩ := dp_tuple h
  cases r with
  | cons h1 r =>
    cases r with
    | cons h2 r =>
      cases r with
      | cons h3 r =>
        cases r
        exact ⟨p, _, _, _, rfl, q, h1, h2, h3⟩
def atS (s : Str) : PyData → Bool
  | .str x => decide (x = s)
  | _ => false
theorem scal_S {K : PySem.W.Frag} {H : Hp} {v : V} {d : PyData} {s : Str} (h : Dp K H v d) (f : flatD d = true) : scal v (.str s) = true := by
  cases h with
  | lst q r => cases f
  | tup q r => cases f
  | _ => rfl
theorem eq_S {K : PySem.W.Frag} {H : Hp} {v : V} {d : PyData} {s : Str} (h : Dp K H v d) : decide (v = .str s) = atS s d := by
  cases h with
  | str x =>
    show decide (V.str x = V.str s) = decide (x = s)
    by_cases z : x = s
    · rw [z, decide_eq_true rfl, decide_eq_true rfl]
    · rw [decide_eq_false z, decide_eq_false (fun y => z (V.str.inj y))]
  | non => exact decide_eq_false (fun z => nomatch z)
  | bl b => exact decide_eq_false (fun z => nomatch z)
  | int i => exact decide_eq_false (fun z => nomatch z)
  | lst q r => exact decide_eq_false (fun z => nomatch z)
  | tup q r => exact decide_eq_false (fun z => nomatch z)
def arrivalD : PyData → Bool
  | .tuple [k, x] => if atS "at" k = true then integerD 0 x else (atS "after" k && integerD 1 x)
  | _ => false
def le9 : PyData → Bool
  | .int i => decide (i ≤ 9)
  | _ => false
def jobD : PyData → Bool
  | .tuple [n, a, e] => nameD n && (arrivalD a && (integerD 0 e && le9 e))
  | _ => false
def niceJob : PyData → Prop
  | .tuple [n, a, _] => smallS n ∧ headD a = true
  | _ => True
theorem arr_not {d : PyData} (h : tupleND 2 d = false) : arrivalD d = false := by
  cases d with
  | tuple ds =>
    have z : ¬ (ds.length : Int) = 2 := of_decide_eq_false h
    match ds, z with
    | [a, b], z => exact absurd rfl z
    | [], _ => rfl
    | [_], _ => rfl
    | _ :: _ :: _ :: l, _ => rfl
  | _ => rfl
theorem job_not {d : PyData} (h : tupleND 3 d = false) : jobD d = false := by
  cases d with
  | tuple ds =>
    have z : ¬ (ds.length : Int) = 3 := of_decide_eq_false h
    match ds, z with
    | [a, b, c], z => exact absurd rfl z
    | [], _ => rfl
    | [_], _ => rfl
    | [_, _], _ => rfl
    | _ :: _ :: _ :: _ :: l, _ => rfl
  | _ => rfl
section
variable {P : Program} {w : World} {K : PySem.W.Frag} {mg : Str → Option Value} {base : Heap}
def spArrival (K : PySem.W.Frag) : Sp := fun vs H Q _ => ∃ (v : V) (d : PyData), vs = [v] ∧ Dp K H v d ∧ headD d = true ∧ ∀ H', Same H H' → Q (.bl (arrivalD d)) H'
theorem scArrival : FnScope ["arrival", "kind", "number"] ["arrival"] (defScope sArrival) := ⟨rfl, rfl, rfl, by decide +kernel, rfl, by decide +kernel, by decide +kernel⟩
theorem ok_arrival (D : Df K mg "is_arrival" sArrival ["arrival"]) (T : Cl P w K mg base CX0 1 "is_tuple_of" ["value", "many"] (spTupleOf K)) (I : Cl P w K mg base CX0 1 "is_integer" ["value", "least"] (spInteger K)) : Cl P w K mg base CX0 2 "is_arrival" ["arrival"] (spArrival K) := by
  refine cl0 D scArrival (fun vs H Q E h => ?_) (fun f cdv A outer s H vs Q E hr h => ?_)
  · obtain ⟨v, d, rfl, _⟩ := h
    rfl
  · obtain ⟨v, d, rfl, hd, fl, k⟩ := h
    refine ⟨_, pss_cons (ps_if (pt_not (pt_val (pc T hr (by decide) (pa_cons (pv 0) (pa_cons pe_int pa_nil))))) (pss_one (ps_ret pe_bl)) pss_nil)
      (pss_cons (ps_asg (pv 0) (pg_tup rfl (pgs_cons (pg_name (i := 1) scArrival.nd rfl (.inl rfl)) (pgs_cons (pg_name (i := 2) scArrival.nd rfl (.inl rfl)) pgs_nil))))
      (pss_cons (ps_if (pt_cmpR op_eq (pv 1) pe_str (nomark _)) (pss_one (ps_ret (pc I hr (by decide) (pa_cons (pv 2) (pa_cons pe_int pa_nil))))) pss_nil)
      (pss_one (ps_ret (pe_and (pe_cmpR op_eq (pv 1) pe_str (nomark _)) (pe_one (pc I hr (by decide) (pa_cons (pv 2) (pa_cons pe_int pa_nil))))))))), ?_⟩
    refine ⟨_, rfl, v, d, 2, rfl, hd, _, rfl, ?_⟩
    cases ht : tupleND 2 d with
    | false =>
      refine iteT ?_
      have z := k H (Same.refl H)
      rw [arr_not ht] at z
      exact z
    | true =>
      obtain ⟨a, b, rfl⟩ := tup_two ht
      obtain ⟨p, x, y, rfl, q, ha, hb⟩ := dp_two hd
      have fl2 : flatD a = true := fl
      have kk := k H (Same.refl H)
      have e : arrivalD (.tuple [a, b]) = if atS "at" a = true then integerD 0 b else (atS "after" a && integerD 1 b) := rfl
      rw [e] at kk
      refine iteF ⟨_, rfl, p, _, rfl, q, rfl, _, _, rfl, _, _, rfl, rfl, ?_⟩
      refine ⟨_, rfl, scal_S ha fl2, _, rfl, ?_⟩
      rw [eq_S ha]
      cases h1 : atS "at" a with
      | true =>
        rw [h1] at kk
        exact iteT ⟨_, rfl, y, b, 0, rfl, hb, kk⟩
      | false =>
        rw [h1] at kk
        refine iteF ⟨_, rfl, scal_S ha fl2, _, rfl, ?_⟩
        rw [eq_S ha]
        cases h2 : atS "after" a with
        | true =>
          rw [h2] at kk
          exact iteT ⟨_, rfl, y, b, 1, rfl, hb, kk⟩
        | false =>
          rw [h2] at kk
          exact iteF kk
def spIsJob (K : PySem.W.Frag) (T : Addr) : Sp := fun vs H Q _ => ∃ (v : V) (d : PyData), vs = [v] ∧ Dp K H v d ∧ niceJob d ∧ TabG H T ∧ ∀ H', Same H H' → Q (.bl (jobD d)) H'
theorem scIsJob : FnScope ["job", "name", "arrival", "entry"] ["job"] (defScope sIsJob) := ⟨rfl, rfl, rfl, by decide +kernel, rfl, by decide +kernel, by decide +kernel⟩
theorem ok_isJob {T : Addr} (D : Df K mg "is_job" sIsJob ["job"]) (TU : Cl P w K mg base CX0 1 "is_tuple_of" ["value", "many"] (spTupleOf K)) (I : Cl P w K mg base CX0 1 "is_integer" ["value", "least"] (spInteger K)) (NA : Cl P w K mg base CX0 1 "is_name" ["value"] (spName K T))
    (AR : Cl P w K mg base CX0 2 "is_arrival" ["arrival"] (spArrival K)) : Cl P w K mg base CX0 3 "is_job" ["job"] (spIsJob K T) := by
  refine cl0 D scIsJob (fun vs H Q E h => ?_) (fun f cdv A outer s H vs Q E hr h => ?_)
  · obtain ⟨v, d, rfl, _⟩ := h
    rfl
  · obtain ⟨v, d, rfl, hd, nj, tg, k⟩ := h
    refine ⟨_, pss_cons (ps_if (pt_not (pt_val (pc TU hr (by decide) (pa_cons (pv 0) (pa_cons pe_int pa_nil))))) (pss_one (ps_ret pe_bl)) pss_nil)
      (pss_cons (ps_asg (pv 0) (pg_tup rfl (pgs_cons (pg_name (i := 1) scIsJob.nd rfl (.inl rfl)) (pgs_cons (pg_name (i := 2) scIsJob.nd rfl (.inl rfl)) (pgs_cons (pg_name (i := 3) scIsJob.nd rfl (.inl rfl)) pgs_nil)))))
      (pss_one (ps_ret (pe_and (pc NA hr (by decide) (pa_cons (pv 1) pa_nil)) (pe_and (pc AR hr (by decide) (pa_cons (pv 2) pa_nil)) (pe_and (pc I hr (by decide) (pa_cons (pv 3) (pa_cons pe_int pa_nil)))
        (pe_one (pe_cmpR op_le (pv 3) pe_int (nomark _))))))))), ?_⟩
    refine ⟨_, rfl, v, d, 3, rfl, hd, _, rfl, ?_⟩
    cases ht : tupleND 3 d with
    | false =>
      refine iteT ?_
      have z := k H (Same.refl H)
      rw [job_not ht] at z
      exact z
    | true =>
      obtain ⟨n, a, e, rfl⟩ := tup_three ht
      obtain ⟨p, x, y, z, rfl, q, hn, ha, he⟩ := dp_three hd
      have je : jobD (.tuple [n, a, e]) = (nameD n && (arrivalD a && (integerD 0 e && le9 e))) := rfl
      refine iteF ⟨_, rfl, p, _, rfl, q, rfl, _, _, rfl, _, _, rfl, _, _, rfl, rfl, ?_⟩
      refine ⟨_, rfl, x, n, rfl, hn, nj.1, tg, fun H1 s1 => ⟨_, rfl, ?_⟩⟩
      cases hN : nameD n with
      | false =>
        have z := k H1 s1
        rw [je, hN] at z
        exact iteF z
      | true =>
        refine iteT ⟨_, rfl, y, a, rfl, dp_same s1 ha, nj.2, fun H2 s2 => ⟨_, rfl, ?_⟩⟩
        have s12 := s1.trans s2
        have kk := k H2 s12
        rw [je, hN] at kk
        cases hA : arrivalD a with
        | false =>
          rw [hA] at kk
          exact iteF kk
        | true =>
          rw [hA] at kk
          refine iteT ⟨_, rfl, z, e, 0, rfl, dp_same s12 he, _, rfl, ?_⟩
          cases he with
          | int i =>
            cases hI : integerD 0 (.int i) with
            | false =>
              rw [hI] at kk
              exact iteF kk
            | true =>
              rw [hI] at kk
              exact iteT ⟨_, rfl, _, _, rfl, rfl, kk⟩
          | bl b => exact iteF kk
          | non => exact iteF kk
          | str b => exact iteF kk
          | lst q r => exact iteF kk
          | tup q r => exact iteF kk
end
end Vk
namespace Vk
open PySem PySem.Spec PyProof.Rows L2 GxR
theorem same_put {H Hc : Hp} {D : Addr} {o : HO} (s : Same H Hc) (n : H D = none) : Same H (upd Hc D o) := by
  have ne : ∀ {b : Addr} {u : HO}, H b = some u → b ≠ D := fun e => ne_of_none e n
  refine ⟨fun b u e nt => ?_, fun b e => ?_, fun P ⟨ps, e, t⟩ => ?_⟩
  · rw [upd_ne (ne e)]
    exact s.at_ b u e nt
  · by_cases z : b = D
    · rw [z] at e
      exact absurd n e
    · rw [upd_ne z]
      exact s.has b e
  · obtain ⟨qs, f, u⟩ := s.tab P ⟨ps, e, t⟩
    exact ⟨qs, by rw [upd_ne (ne e)]; exact f, u⟩
/-- a valid job's parts -/
theorem job_parts {d : PyData} (h : jobD d = true) : ∃ (n k : Str) (t e : Int), d = .tuple [.str n, .tuple [.str k, .int t], .int e] ∧ nameD (.str n) = true ∧ (k = "at" ∨ k = "after") := by
  have ht : tupleND 3 d = true := by
    cases h2 : tupleND 3 d with
    | true => rfl
    | false =>
      rw [job_not h2] at h
      cases h
  obtain ⟨n, a, e, rfl⟩ := tup_three ht
  obtain ⟨h1, h2⟩ := Bool.and_eq_true_iff.mp (show (nameD n && (arrivalD a && (integerD 0 e && le9 e))) = true from h)
  obtain ⟨h3, h4⟩ := Bool.and_eq_true_iff.mp h2
  obtain ⟨h5, _⟩ := Bool.and_eq_true_iff.mp h4
  have hta : tupleND 2 a = true := by
    cases h6 : tupleND 2 a with
    | true => rfl
    | false =>
      rw [arr_not h6] at h3
      cases h3
  obtain ⟨k, x, rfl⟩ := tup_two hta
  have h7 : (if atS "at" k = true then integerD 0 x else (atS "after" k && integerD 1 x)) = true := h3
  have intOf : ∀ {m : Int} {q : PyData}, integerD m q = true → ∃ i, q = .int i := fun {m q} z => by
    cases q with
    | int i => exact ⟨i, rfl⟩
    | _ => cases z
  have strOf : ∀ {s : Str} {q : PyData}, atS s q = true → q = .str s := fun {s q} z => by
    cases q with
    | str x => exact congrArg PyData.str (of_decide_eq_true z)
    | _ => cases z
  obtain ⟨e', rfl⟩ := intOf h5
  cases n with
  | str nm =>
    by_cases h8 : atS "at" k = true
    · rw [if_pos h8] at h7
      obtain ⟨t, rfl⟩ := intOf h7
      have z := strOf h8
      subst z
      exact ⟨nm, _, t, e', rfl, h1, .inl rfl⟩
    · rw [if_neg h8] at h7
      obtain ⟨h9, h10⟩ := Bool.and_eq_true_iff.mp h7
      obtain ⟨t, rfl⟩ := intOf h10
      have z := strOf h9
      subst z
      exact ⟨nm, _, t, e', rfl, h1, .inr rfl⟩
  | _ => cases h1
/-- an arrival before so many finishes -/
def befA (m : Int) : PyData → Bool
  | .tuple [k, .int t] => atS "at" k || decide (t < m)
  | _ => false
def arrD : PyData → PyData
  | .tuple [_, a, _] => a
  | d => d
def waitsD (js : List PyData) (d : PyData) : Bool := match arrD d with
  | .tuple [k, .int m] => !atS "at" k && decide ((((js.map arrD).countP (befA m) : Nat) : Int) < m)
  | _ => false
theorem nice_of {d : PyData} (h : jobD d = true) : niceJob d := by
  obtain ⟨n, k, t, e, rfl, hn, _⟩ := job_parts h
  refine ⟨?_, rfl⟩
  have z : (decide (1 ≤ n.length) && (decide (n.length ≤ 8) && n.cps.toList.all (between "a" "z"))) = true := hn
  have z2 := of_decide_eq_true (Bool.and_eq_true_iff.mp (Bool.and_eq_true_iff.mp z).2).1
  show n.length ≤ 100000
  omega
section
variable {P : Program} {w : World} {K : PySem.W.Frag} {mg : Str → Option Value} {base : Heap}
def spWaits (K : PySem.W.Frag) : Sp := fun vs H Q _ => ∃ (v u : V) (d : PyData) (js : List PyData), vs = [v, u] ∧ Dp K H v d ∧ Dp K H u (.tuple js) ∧ jobD d = true ∧ js.all jobD = true ∧ js.length ≤ 100000 ∧ ∀ H', Same H H' → Q (.bl (waitsD js d)) H'
theorem scWaits : FnScope ["job", "jobs", "kind", "number", "arrivals", "ahead", "other"] ["job", "jobs"] (defScope sWaits) := ⟨rfl, rfl, rfl, by decide +kernel, rfl, by decide +kernel, by decide +kernel⟩
theorem ok_waits (D : Df K mg "waits_forever" sWaits ["job", "jobs"]) (B : Blt mg) : Cl P w K mg base CX0 1 "waits_forever" ["job", "jobs"] (spWaits K) := by
  refine cl0 D scWaits (fun vs H Q E h => ?_) (fun f cdv A outer s H vs Q E hr h => ?_)
  · obtain ⟨v, u, d, js, rfl, _⟩ := h
    rfl
  · obtain ⟨v, u, d, js, rfl, hd, hj, jd, okj, l1000, k⟩ := h
    refine ⟨_, pss_cons (ps_asg (pe_ix ix_tup (pv 0) pe_int (fun _ _ => rfl)) (pg_tup rfl (pgs_cons (pg_name (i := 2) scWaits.nd rfl (.inl rfl)) (pgs_cons (pg_name (i := 3) scWaits.nd rfl (.inr rfl)) pgs_nil))))
      (pss_cons (ps_if (pt_cmpR op_eq (pv 2) pe_str (nomark _)) (pss_one (ps_ret pe_bl)) pss_nil)
      (pss_cons (ps_setLc (i := 4) (own := [("other", 6)]) (g := gName 6) (tt := tYes) (te := tOp (rIxT K) (tVar 6) (tC (.int 1))) rfl scWaits.nd rfl rfl (sw_true rfl rfl rfl (by decide +kernel)) (pi_tup (pv 1)) (blkOk_by (own := [("other", 6)]) (N := ["job", "jobs", "kind", "number", "arrivals", "ahead", "other"]) (sc := defScope sWaits) (by decide +kernel))
        (fun _ _ _ _ _ => pg_name (i := 6) scWaits.nd rfl (Or.inl rfl)) (fun _ _ _ _ _ => pts_nil) (fun _ _ _ _ _ => pe_ix ix_tup (pv 6) pe_int (fun _ _ => rfl)))
      (pss_cons (ps_setLc (i := 5) (own := [("other", 6)]) (g := gName 6) (tt := tOr (tTest (tOp rEq (tOp (rIxT K) (tVar 6) (tC (.int 0))) (tC (.str ("at" : Str))))) (tTest (tOp (rI0 fun i j => .bl (decide (i < j))) (tOp (rIxT K) (tVar 6) (tC (.int 1))) (tVar 3)))) (te := tVar 6) rfl scWaits.nd rfl rfl (sw_true rfl rfl rfl (by decide +kernel)) (pi_list (pv 4)) (blkOk_by (own := [("other", 6)]) (N := ["job", "jobs", "kind", "number", "arrivals", "ahead", "other"]) (sc := defScope sWaits) (by decide +kernel))
        (fun _ _ _ _ _ => pg_name (i := 6) scWaits.nd rfl (Or.inl rfl)) (fun _ _ _ _ _ => pts_one (PW.pt (pw_or (pt_cmpR op_eq (pe_ix ix_tup (pv 6) pe_int (fun _ _ => rfl)) pe_str (nomark _)) (pw_or1 (pt_cmpR op_lt (pe_ix ix_tup (pv 6) pe_int (fun _ _ => rfl)) (pv 3) (nomark _))))))
        (fun _ _ _ _ _ => pv 6))
      (pss_one (ps_ret (pe_cmpR op_lt (pe_callB call_len_seq (by rfl) B.len PySem.boot_len (pa_cons (pv 5) pa_nil)) (pv 3) (nomark _))))))), ?_⟩
    obtain ⟨n, kd, t, e, rfl, hn, hk⟩ := job_parts jd
    obtain ⟨p, x, y, z, rfl, q, dn, da, de⟩ := dp_three hd
    obtain ⟨pa, kv, tv, rfl, qa, dk, dt⟩ := dp_two da
    have ek := dp_str dk
    subst ek
    have et := dp_int dt
    subst et
    obtain ⟨pj, xs, rfl, qj, rj⟩ := dp_tuple hj
    have xl := dps_len rj
    have we : waitsD js (.tuple [.str n, .tuple [.str kd, .int t], .int e]) = (!decide (kd = "at") && decide ((((js.map arrD).countP (befA t) : Nat) : Int) < t)) := rfl
    refine ⟨_, rfl, p, _, _, _, rfl, rfl, q, rfl, pa, _, rfl, qa, rfl, _, _, rfl, _, _, rfl, rfl, ?_⟩
    refine ⟨_, rfl, rfl, _, rfl, ?_⟩
    have eS := eq_S (s := ("at" : Str)) dk
    rw [eS]
    have kk : ∀ H', Same H H' → ∀ b, waitsD js (.tuple [.str n, .tuple [.str kd, .int t], .int e]) = b → Q (.bl b) H' := fun H' s1 b e => by
      have z := k H' s1
      rw [e] at z
      exact z
    cases hat : atS "at" (.str kd) with
    | true =>
      refine iteT (kk H (Same.refl H) _ ?_)
      rw [we, show decide (kd = "at") = true from hat]
      rfl
    | false =>
      refine iteF ?_
      -- arrivals
      refine ⟨_, rfl, pj, rfl, ⟨_, qj⟩, fun D1 nD1 => ?_⟩
      refine lc_it (walk_tup (K := K) (a := pj) (xs := xs)) (fun m Hc => ∃ acc, Same H Hc ∧ Hc D1 = some (.lst acc) ∧ DpAll K H acc ((js.map arrD).take m))
        ⟨[], same_new nD1, upd_same, .nil⟩ (fun m Hc _ ⟨acc, s1, _⟩ => same_seqT s1 qj) ?_ ?_
      · rintro m y1 Hc Hc2 hm ⟨acc, s1, hD, dac⟩ ⟨rfl, hy1⟩
        obtain ⟨e1, he1, de1⟩ := dps_getV rj hy1
        obtain ⟨n1, k1, t1, x1, rfl, _, _⟩ := job_parts (List.all_eq_true.mp okj e1 (List.mem_of_getElem? he1))
        obtain ⟨p1, v1, v2, v3, rfl, q1, dv1, dv2, dv3⟩ := dp_three de1
        refine ⟨rfl, ?_⟩
        refine ⟨_, rfl, p1, _, _, _, rfl, rfl, same_seqT s1 q1, rfl, acc, hD, ?_, acc ++ [v2], same_put s1 nD1, upd_same, ?_⟩
        · have z := dps_len dac
          rw [List.length_take, List.length_map] at z
          exact Nat.lt_of_le_of_lt (show acc.length ≤ 100000 by omega) (by decide)
        · have e2 : (js.map arrD).take (m + 1) = (js.map arrD).take m ++ [.tuple [.str k1, .int t1]] := by
            rw [List.take_add_one, List.getElem?_map, he1]
            rfl
          rw [e2]
          exact dps_app dac (.cons dv2 .nil)
      · rintro Hc ⟨acc, s1, hD, dac⟩
        rw [show (js.map arrD).take xs.length = js.map arrD from List.take_of_length_le (by rw [List.length_map]; omega)] at dac
        have al := dps_len dac
        rw [List.length_map] at al
        -- ahead
        refine ⟨_, rfl, D1, rfl, ⟨_, SqL.of hD⟩, fun D2 nD2 => ?_⟩
        have n21 : D1 ≠ D2 := ne_of_none hD nD2
        refine lc_it (walk_list (K := K) (a := D1) (xs := acc)) (fun m Hd => ∃ ac2, Same Hc Hd ∧ Hd D2 = some (.lst ac2) ∧ ac2.length = ((js.map arrD).take m).countP (befA t))
          ⟨[], same_new nD2, upd_same, rfl⟩ (fun m Hd _ ⟨ac2, s2, _⟩ => SqL.of (s2.at hD)) ?_ ?_
        · rintro m y1 Hd0 Hd hm ⟨ac2, s2, hD2, lc2⟩ ⟨rfl, hy1⟩
          obtain ⟨e1, he1, de1⟩ := dps_getV dac hy1
          have he1' := he1
          rw [List.getElem?_map] at he1'
          obtain ⟨j1, hj1, rfl⟩ := Option.map_eq_some_iff.mp he1'
          obtain ⟨n1, k1, t1, x1, rfl, _, hk1⟩ := job_parts (List.all_eq_true.mp okj j1 (List.mem_of_getElem? hj1))
          obtain ⟨p1, v1, v2, rfl, q1, dv1, dv2⟩ := dp_two (show Dp K H y1 (.tuple [.str k1, .int t1]) from de1)
          have ek1 := dp_str dv1
          subst ek1
          have et1 := dp_int dv2
          subst et1
          have q2 := same_seqT (s1.trans s2) q1
          have e2 : ((js.map arrD).take (m + 1)).countP (befA t) = ((js.map arrD).take m).countP (befA t) + (if befA t (.tuple [.str k1, .int t1]) = true then 1 else 0) := by
            rw [List.take_add_one, he1]
            show ((js.map arrD).take m ++ [PyData.tuple [.str k1, .int t1]]).countP (befA t) = _
            rw [List.countP_append, List.countP_singleton]
          have bl : befA t (.tuple [.str k1, .int t1]) = (decide (k1 = "at") || decide (t1 < t)) := rfl
          have small : ac2.length < sizeLine := by
            have z : ((js.map arrD).take m).countP (befA t) ≤ ((js.map arrD).take m).length := List.countP_le_length
            rw [List.length_take, List.length_map] at z
            exact Nat.lt_of_le_of_lt (show ac2.length ≤ 100000 by omega) (by decide)
          have yes : befA t (.tuple [.str k1, .int t1]) = true → ∃ ac, Same Hc (upd Hd D2 (.lst (ac2 ++ [V.ref p1]))) ∧ (upd Hd D2 (.lst (ac2 ++ [V.ref p1]))) D2 = some (.lst ac) ∧ ac.length = ((js.map arrD).take (m + 1)).countP (befA t) := fun hb => by
            refine ⟨_, same_put s2 nD2, upd_same, ?_⟩
            rw [e2, if_pos hb, List.length_append, List.length_singleton, lc2]
          have no : befA t (.tuple [.str k1, .int t1]) = false → ∃ ac, Same Hc Hd ∧ Hd D2 = some (.lst ac) ∧ ac.length = ((js.map arrD).take (m + 1)).countP (befA t) := fun hb => by
            refine ⟨ac2, s2, hD2, ?_⟩
            rw [e2, if_neg (by rw [hb]; exact Bool.false_ne_true), lc2]
            rfl
          refine ⟨rfl, _, rfl, p1, _, _, _, rfl, rfl, q2, rfl, rfl, _, rfl, ?_⟩
          rw [eq_S (s := ("at" : Str)) dv1]
          cases h1 : atS "at" (.str k1) with
          | true => exact iteT (iteT ⟨_, rfl, ac2, hD2, small, yes (by rw [bl, show decide (k1 = "at") = true from h1]; rfl)⟩)
          | false =>
            refine iteF ⟨_, rfl, p1, _, _, _, rfl, rfl, q2, rfl, _, rfl, _, _, rfl, rfl, _, rfl, ?_⟩
            cases h2 : decide (t1 < t) with
            | true => exact iteT ⟨_, rfl, ac2, hD2, small, yes (by rw [bl, h2, Bool.or_true])⟩
            | false => exact iteF (no (by rw [bl, show decide (k1 = "at") = false from h1, h2]; rfl))
        · rintro Hd ⟨ac2, s2, hD2, lc2⟩
          rw [show (js.map arrD).take acc.length = js.map arrD from List.take_of_length_le (by rw [List.length_map]; omega)] at lc2
          refine ⟨_, rfl, D2, ac2, rfl, .inl (SqL.of hD2), _, rfl, _, _, rfl, rfl, ?_⟩
          refine kk Hd (s1.trans s2) _ ?_
          rw [we, show decide (kd = "at") = false from hat, lc2]
          rfl
end
end Vk
namespace Vk
open PySem PySem.Spec PyProof.Rows L2 GxR
abbrev sJobsInit : Stmt := inClass (top 2) 0
def nameOf : PyData → Str
  | .tuple [.str n, _, _] => n
  | _ => ""
def badAt (js : List PyData) (i : Nat) : Bool := match js[i]? with
  | some d => !jobD d || ((js.take i).map nameOf).any (fun y => y == nameOf d)
  | none => false
def waitAt (js : List PyData) (i : Nat) : Bool := match js[i]? with
  | some d => waitsD js d
  | none => false
def eachPlace (js : List PyData) : Option Nat := (List.range js.length).find? (badAt js)
def waitPlace (js : List PyData) : Option Nat := (List.range js.length).find? (waitAt js)
/-- the place of the first fault of jobs -/
def jobsPlace : PyData → Option Int
  | .tuple js => match eachPlace js with
    | some i => some (i : Int)
    | none => match waitPlace js with
      | some i => some (i : Int)
      | none => none
  | _ => some 0
def niceJobs : PyData → Prop
  | .tuple js => (∀ d ∈ js, niceJob d) ∧ js.length ≤ 50000
  | _ => True
theorem find_at {n i : Nat} {p : Nat → Bool} (h : i < n) (hp : p i = true) (ok : ∀ j < i, p j = false) : (List.range n).find? p = some i := by
  rw [List.find?_range_eq_some]
  refine ⟨hp, List.mem_range.mpr h, fun j hj => ?_⟩
  rw [ok j hj]
  rfl
theorem find_no {n : Nat} {p : Nat → Bool} (ok : ∀ j < n, p j = false) : (List.range n).find? p = none := by
  rw [List.find?_eq_none]
  intro j hj
  rw [ok j (List.mem_range.mp hj)]
  exact Bool.false_ne_true
theorem inV_strs {n : Str} : ∀ ns : List Str, inV (.str n) (ns.map V.str) = ns.any (fun y => y == n)
  | [] => rfl
  | x :: ns => by
    have ih := inV_strs (n := n) ns
    show ((x == n) || inV (.str n) (ns.map V.str)) = ((x == n) || ns.any (fun y => y == n))
    rw [ih]
theorem flat_strs (ns : List Str) : (ns.map V.str).all flatV = true := by
  rw [List.all_eq_true]
  intro x hx
  obtain ⟨y, _, rfl⟩ := List.mem_map.mp hx
  rfl
/-- where no job is bad all are valid -/
theorem each_all {js : List PyData} (ok : ∀ j < js.length, badAt js j = false) : js.all jobD = true := by
  rw [List.all_eq_true]
  intro x hx
  obtain ⟨j, hj, e⟩ := List.getElem_of_mem hx
  have z := ok j hj
  unfold badAt at z
  rw [List.getElem?_eq_getElem hj, e] at z
  cases h : jobD x with
  | true => rfl
  | false =>
    have z' : (!jobD x || ((js.take j).map nameOf).any (fun y => y == nameOf x)) = false := z
    rw [h] at z'
    cases z'
section
variable {P : Program} {w : World} {K : PySem.W.Frag} {mg : Str → Option Value} {base : Heap}
theorem scJobsInit : FnScope ["self", "place"] ["self", "place"] (defScope sJobsInit) := ⟨rfl, rfl, rfl, by decide +kernel, rfl, by decide +kernel, by decide +kernel⟩
theorem ok_jobsInit {C fI : Addr} {fd : FuncData} (F : Fun K "__init__" "NoJobs.__init__" sJobsInit fI fd) (T : OexC K C) (no : PySem.W.findIn K (.ref C) "place" = some none) : FnOk P w K mg base CX0 1 fI fd ["self", "place"] (spIni C "place") := by
  refine F.ok scJobsInit (fun vs H Q E h => ?_) (fun cdv A outer s H vs Q E hr h => ?_)
  · obtain ⟨a, v, rfl, _⟩ := h
    rfl
  · obtain ⟨a, v, rfl, ha, k⟩ := h
    refine ⟨_, pss_one (ps_ost (pv 0) (pv 1)), ?_⟩
    exact ⟨_, rfl, _, rfl, a, C, rfl, T, no, .inl ⟨ha, fun dx n1 n2 => k dx n1 n2⟩⟩
theorem erc_jobs {C : Addr} (g : mg "NoJobs" = some (.ref C)) (T : OexC K C) (no : PySem.W.findIn K (.ref C) "place" = some none) (N : Nit K "NoJobs" "NoJobs.__init__" "place" sJobsInit C) : ErC P w K mg base "NoJobs" "place" C := by
  obtain ⟨fI, fd, h1, h2, h3, h4⟩ := N.ex
  exact ⟨g, T, fI, fd, h1, h2, h4, ok_jobsInit h3 T no⟩
def spEach (K : PySem.W.Frag) (T C : Addr) : Sp := fun vs H Q E => ∃ (v : V) (js : List PyData), vs = [v] ∧ Dp K H v (.tuple js) ∧ (∀ d ∈ js, niceJob d) ∧ js.length ≤ 50000 ∧ TabG H T ∧ (eachPlace js = none → ∀ H', Same H H' → Q .non H') ∧
  (∀ i, eachPlace js = some i → ∀ (dx : Addr) (H' : Hp), Same H H' → H' dx = some (.xd [(("place" : Str), .int (i : Nat))]) → E (.ref C) (some dx) H')
theorem scEach : FnScope ["jobs", "names", "place", "job"] ["jobs"] (defScope sEach) := ⟨rfl, rfl, rfl, by decide +kernel, rfl, by decide +kernel, by decide +kernel⟩
theorem ok_each {T C : Addr} (D : Df K mg "check_each_job" sEach ["jobs"]) (B : Blt mg) (ER : ErC P w K mg base "NoJobs" "place" C) (J : Cl P w K mg base CX0 3 "is_job" ["job"] (spIsJob K T)) : Cl P w K mg base (L2.CX P w) 4 "check_each_job" ["jobs"] (spEach K T C) := by
  refine clX D scEach (fun vs H Q E h => ?_) (fun f cdv A outer s H vs Q E hr h => ?_)
  · obtain ⟨v, js, rfl, _⟩ := h
    rfl
  · obtain ⟨v, js, rfl, hd, nj, l900, tg, kN, kE⟩ := h
    refine ⟨_, pss_cons (ps_set (i := 1) scEach.nd rfl (Or.inl rfl) (pe_lst pa_nil))
      (pss_one (ps_for (passes_of rfl) rfl (pi_enumT B.enum (pa_cons (pv 0) pa_nil)) (pg_tup rfl (pgs_cons (pg_name (i := 2) scEach.nd rfl (.inl rfl)) (pgs_cons (pg_name (i := 3) scEach.nd rfl (.inl rfl)) pgs_nil)))
        (pss_cons (ps_if (PW.pt (pw_or (pt_not (pt_val (pc J hr (by decide) (pa_cons (pv 3) pa_nil)))) (pw_or1 (pt_cmpR op_in_seq (pe_ix ix_tup (pv 3) pe_int (fun _ _ => rfl)) (pv 1) (by rfl))))) (pss_one (ps_raiseE ER rfl hr (by decide) (takes_of rfl rfl rfl rfl) (pv 2))) pss_nil)
        (pss_one (ps_expr (pe_bm PySem.F.plainAttrs_list PySem.F.slot_list_append PySem.F.type_list_append mt_append (pv 1) (pa_cons (pe_ix ix_tup (pv 3) pe_int (fun _ _ => rfl)) pa_nil))))))), ?_⟩
    obtain ⟨pj, xs, rfl, qj, rj⟩ := dp_tuple hd
    have xl := dps_len rj
    refine ⟨(by show 0 ≤ sizeLine; decide), fun l nl => ?_⟩
    refine ⟨_, rfl, pj, xs, rfl, same_seqT (same_new nl) qj, for_it (walk_enumT (K := K) (a := pj) (xs := xs)) (fun i σ H' => ∃ (u2 u3 : Option V), σ = [some (.ref pj), some (.ref l), u2, u3] ∧ Same H H' ∧ H' l = some (.lst (((js.take i).map nameOf).map V.str)) ∧ ∀ j < i, badAt js j = false)
      ⟨none, none, rfl, same_new nl, upd_same, fun j hj => absurd hj (Nat.not_lt_zero _)⟩ (fun i σ H' _ ⟨_, _, _, s1, _⟩ => same_seqT s1 qj) ?_ ?_⟩
    · rintro i v1 σ H1 H2 hi ⟨u2, u3, rfl, s1, hl, ok⟩ ⟨TT, x1, y1, rfl, nT, rfl, ex, ey⟩
      cases ex
      obtain ⟨d1, hd1, dp1⟩ := dps_getV rj ey
      have s2 := s1.trans (same_new (o := .tup [V.int (i : Nat), y1]) nT)
      have hl2 : upd H1 TT (.tup [V.int (i : Nat), y1]) l = some (.lst (((js.take i).map nameOf).map V.str)) := (same_new nT).at hl
      refine ⟨TT, _, rfl, SqT.of upd_same, rfl, _, _, rfl, _, _, rfl, rfl, ?_⟩
      have ni := nj d1 (List.mem_of_getElem? hd1)
      refine ⟨_, rfl, y1, d1, rfl, dp_same s2 dp1, ni, s2.tab T tg, fun H3 s3 => ⟨_, rfl, ?_⟩⟩
      have s23 := s2.trans s3
      have bad : badAt js i = (!jobD d1 || ((js.take i).map nameOf).any (fun y => y == nameOf d1)) := by
        unfold badAt
        rw [hd1]
      cases hj : jobD d1 with
      | false =>
        refine iteT (iteT ⟨_, rfl, ?_⟩)
        refine raise_go fun dx H4 s4 _ hx => kE i ?_ dx H4 (s23.trans s4) hx
        exact find_at (by omega) (by rw [bad, hj]; rfl) ok
      | true =>
        obtain ⟨n1, k1, t1, x1, rfl, _, _⟩ := job_parts hj
        obtain ⟨p1, v1, v2, v3, rfl, q1, dv1, dv2, dv3⟩ := dp_three dp1
        have en := dp_str dv1
        subst en
        refine iteF ⟨_, rfl, p1, _, _, _, rfl, rfl, same_seqT s23 q1, rfl, _, rfl, l, _, rfl, .inl (SqL.of (s3.at hl2)), rfl, flat_strs _, _, rfl, ?_⟩
        show if inV (.str n1) (((js.take i).map nameOf).map V.str) = true then _ else _
        rw [inV_strs]
        cases hin : ((js.take i).map nameOf).any (fun y => y == n1) with
        | true =>
          refine iteT ⟨_, rfl, ?_⟩
          refine raise_go fun dx H4 s4 _ hx => kE i ?_ dx H4 (s23.trans s4) hx
          exact find_at (by omega) (by rw [bad, hj]; exact hin) ok
        | false =>
          have e2 : ((js.take (i + 1)).map nameOf).map V.str = ((js.take i).map nameOf).map V.str ++ [V.str n1] := by
            rw [List.take_add_one, hd1]
            simp [nameOf]
          refine iteF ⟨_, rfl, .inl ⟨rfl, _, SqL.of (s3.at hl2)⟩, _, rfl, p1, _, _, _, rfl, rfl, same_seqT s23 q1, rfl, l, _, _, rfl, rfl, s3.at hl2, ?_, _, _, rfl, same_put s23 nl, ?_, fun j hj2 => ?_⟩
          · rw [List.length_map, List.length_map, List.length_take]
            exact Nat.lt_of_le_of_lt (show min i js.length ≤ 50000 by omega) (by decide)
          · rw [e2, upd_same]
          · by_cases z : j = i
            · subst z
              rw [bad, hj]
              exact hin
            · exact ok j (by omega)
    · rintro σ H1 ⟨u2, u3, rfl, s1, hl, ok⟩
      exact kN (find_no fun j hj => ok j (by omega)) H1 s1
def spCheck (K : PySem.W.Frag) (T C : Addr) : Sp := fun vs H Q E => ∃ (v : V) (d : PyData), vs = [v] ∧ Dp K H v d ∧ niceJobs d ∧ TabG H T ∧ (jobsPlace d = none → ∀ H', Same H H' → Q .non H') ∧
  (∀ i, jobsPlace d = some i → ∀ (dx : Addr) (H' : Hp), Same H H' → H' dx = some (.xd [(("place" : Str), .int i)]) → E (.ref C) (some dx) H')
theorem scCheck : FnScope ["jobs", "place", "job"] ["jobs"] (defScope sCheck) := ⟨rfl, rfl, rfl, by decide +kernel, rfl, by decide +kernel, by decide +kernel⟩
theorem ok_check {T C : Addr} (D : Df K mg "check_jobs" sCheck ["jobs"]) (B : Blt mg) (ER : ErC P w K mg base "NoJobs" "place" C) (EA : Cl P w K mg base (L2.CX P w) 4 "check_each_job" ["jobs"] (spEach K T C)) (W : Cl P w K mg base CX0 1 "waits_forever" ["job", "jobs"] (spWaits K)) :
    Cl P w K mg base (L2.CX P w) 5 "check_jobs" ["jobs"] (spCheck K T C) := by
  refine clX D scCheck (fun vs H Q E h => ?_) (fun f cdv A outer s H vs Q E hr h => ?_)
  · obtain ⟨v, d, rfl, _⟩ := h
    rfl
  · obtain ⟨v, d, rfl, hd, nj, tg, kN, kE⟩ := h
    obtain ⟨fE, fdE, mE, kpE, bE, FE⟩ := EA.ex
    refine ⟨_, pss_cons (ps_if (pt_not (pt_val (pe_callB call_isi (by rfl) B.isi (by decide +kernel) (pa_cons (pv 0) (pa_cons (pe_bltn (v := .ty "tuple") (u := .type "tuple") (by rfl) B.tuple (by decide +kernel) rfl) pa_nil))))) (pss_one (ps_raiseE ER rfl hr (by decide) (takes_of rfl rfl rfl rfl) pe_int)) pss_nil)
      (pss_cons (ps_expr (pe_call (E := E) FE hr rfl mE kpE bE .nil (passes_call (W := fun cls d _ H => E cls d H) (takes_of rfl rfl rfl rfl) (fun _ _ _ _ h => h)) (pa_cons (pv 0) pa_nil)))
      (pss_one (ps_for (passes_of rfl) rfl (pi_enumT B.enum (pa_cons (pv 0) pa_nil)) (pg_tup rfl (pgs_cons (pg_name (i := 1) scCheck.nd rfl (.inl rfl)) (pgs_cons (pg_name (i := 2) scCheck.nd rfl (.inl rfl)) pgs_nil)))
        (pss_one (ps_if (pt_val (pc W hr (by decide) (pa_cons (pv 2) (pa_cons (pv 0) pa_nil)))) (pss_one (ps_raiseE ER rfl hr (by decide) (takes_of rfl rfl rfl rfl) (pv 1))) pss_nil))))), ?_⟩
    refine ⟨_, rfl, v, _, _, _, _, rfl, .ty "tuple", dp_ty hd, kit_tup hd, _, rfl, ?_⟩
    cases htup : isTupD d with
    | false =>
      have e2 : jobsPlace d = some 0 := by
        cases d with
        | tuple ds => cases htup
        | _ => rfl
      refine iteT ?_
      exact raise_go fun dx H2 s1 _ hx => kE 0 e2 dx H2 s1 hx
    | true =>
      obtain ⟨js, rfl⟩ : ∃ js, d = .tuple js := by
        cases d with
        | tuple ls => exact ⟨ls, rfl⟩
        | _ => cases htup
      refine iteF ⟨_, rfl, v, js, rfl, hd, nj.1, nj.2, tg, fun e1 H1 s1 => ?_, fun i e1 dx H1 s1 hx => ?_⟩
      · have e2 : jobsPlace (.tuple js) = match waitPlace js with
          | some i => some (i : Int)
          | none => none := by
          show (match eachPlace js with
            | some i => some (i : Int)
            | none => match waitPlace js with
              | some i => some (i : Int)
              | none => none) = _
          rw [e1]
        have okall := each_all (js := js) (fun j hj => by
          have z := List.find?_eq_none.mp e1 j (List.mem_range.mpr hj)
          exact Bool.eq_false_iff.mpr z)
        obtain ⟨pj, xs, rfl, qj, rj⟩ := dp_tuple hd
        have xl := dps_len rj
        refine ⟨_, rfl, pj, xs, rfl, same_seqT s1 qj, for_it (walk_enumT (K := K) (a := pj) (xs := xs)) (fun i σ H' => ∃ (u1 u2 : Option V), σ = [some (.ref pj), u1, u2] ∧ Same H H' ∧ ∀ j < i, waitAt js j = false)
          ⟨none, none, rfl, s1, fun j hj => absurd hj (Nat.not_lt_zero _)⟩ (fun i σ H' _ ⟨_, _, _, s1, _⟩ => same_seqT s1 qj) ?_ ?_⟩
        · rintro i v1 σ H2 H3 hi ⟨u1, u2, rfl, s2, ok⟩ ⟨TT, x1, y1, rfl, nT, rfl, ex, ey⟩
          cases ex
          obtain ⟨d1, hd1, dp1⟩ := dps_getV rj ey
          have s3 := s2.trans (same_new (o := .tup [V.int (i : Nat), y1]) nT)
          refine ⟨TT, _, rfl, SqT.of upd_same, rfl, _, _, rfl, _, _, rfl, rfl, ?_⟩
          have wt : waitAt js i = waitsD js d1 := by
            unfold waitAt
            rw [hd1]
          refine ⟨_, rfl, _, rfl, y1, _, d1, js, rfl, dp_same s3 dp1, dp_same s3 hd, List.all_eq_true.mp okall d1 (List.mem_of_getElem? hd1), okall, Nat.le_trans nj.2 (by decide), fun H4 s4 => ⟨_, rfl, ?_⟩⟩
          cases hw : waitsD js d1 with
          | true =>
            refine iteT ⟨_, rfl, ?_⟩
            refine raise_go fun dx H5 s5 _ hx => kE (i : Int) ?_ dx H5 ((s3.trans s4).trans s5) hx
            have z : waitPlace js = some i := find_at (by omega) (by rw [wt, hw]) ok
            rw [e2, z]
          | false =>
            refine iteF ⟨_, _, rfl, s3.trans s4, fun j hj2 => ?_⟩
            by_cases z : j = i
            · subst z
              rw [wt, hw]
            · exact ok j (by omega)
        · rintro σ H2 ⟨u1, u2, rfl, s2, ok⟩
          refine kN ?_ H2 s2
          have z : waitPlace js = none := find_no fun j hj => ok j (by omega)
          rw [e2, z]
      · refine kE (i : Int) ?_ dx H1 s1 hx
        show (match eachPlace js with
          | some i => some (i : Int)
          | none => match waitPlace js with
            | some i => some (i : Int)
            | none => none) = _
        rw [e1]
end
end Vk
namespace Vk
open PySem PySem.Spec PyProof.Rows L2 GxR
def abc : Str := "abcdefghijklmnopqrstuvwxyz"
theorem lt_one {a b : Nat} : ([a] < [b]) ↔ a < b := by
  constructor
  · intro h
    cases h with
    | rel h => exact h
    | cons h => cases h
  · intro h
    exact List.Lex.rel h
theorem between_az (c : Nat) : between "a" "z" c = decide (97 ≤ c ∧ c ≤ 122) := by
  have e1 : (("a" : Str)).cps.toList = [97] := by decide +kernel
  have e2 : (("z" : Str)).cps.toList = [122] := by decide +kernel
  unfold between
  rw [e1, e2]
  by_cases h1 : c < 97
  · rw [decide_eq_true (lt_one.mpr h1), decide_eq_false (show ¬ (97 ≤ c ∧ c ≤ 122) by omega)]
    rfl
  · by_cases h2 : 122 < c
    · rw [decide_eq_true (lt_one.mpr h2), decide_eq_false (show ¬ (97 ≤ c ∧ c ≤ 122) by omega), Bool.not_true, Bool.and_false]
    · rw [decide_eq_false (fun h => h1 (lt_one.mp h)), decide_eq_false (fun h => h2 (lt_one.mp h)), decide_eq_true (show 97 ≤ c ∧ c ≤ 122 by omega)]
      rfl
theorem abc_list : abc.cps.toList = List.range' 97 26 := by decide +kernel
theorem mem_abc (c : Nat) : decide (c ∈ abc.cps.toList) = between "a" "z" c := by
  rw [between_az, abc_list]
  congr 1
  rw [List.mem_range'_1]
  exact propext ⟨fun h => by omega, fun h => by omega⟩
theorem b2_at {k : Str} : (if decide (k = "after") then (1 : Int) else 0) = if k = "after" then 1 else 0 := by
  by_cases h : k = "after"
  · rw [decide_eq_true h, if_pos h]
    rfl
  · rw [decide_eq_false h, if_neg h]
    rfl
section
variable {P : Program} {w : World} {K : PySem.W.Frag} {mg : Str → Option Value} {base : Heap}
def spBefore (K : PySem.W.Frag) : Sp := fun vs H Q _ => ∃ (v : V) (k : Str) (t m : Int), vs = [v, .int m] ∧ Dp K H v (.tuple [.str k, .int t]) ∧ Q (.bl (decide (k = "at") || decide (t < m))) H
theorem scBefore : FnScope ["arrival", "finishes"] ["arrival", "finishes"] (defScope sBefore) := ⟨rfl, rfl, rfl, by decide +kernel, rfl, by decide +kernel, by decide +kernel⟩
theorem ok_before (D : Df K mg "_law_before" sBefore ["arrival", "finishes"]) : Cl P w K mg base CX0 1 "_law_before" ["arrival", "finishes"] (spBefore K) := by
  refine cl0 D scBefore (fun vs H Q E h => ?_) (fun f cdv A outer s H vs Q E hr h => ?_)
  · obtain ⟨v, kd, t, m, rfl, _⟩ := h
    rfl
  · obtain ⟨v, kd, t, m, rfl, hd, k⟩ := h
    refine ⟨_, pss_one (ps_ret (pe_or (pe_cmpR op_eq (pe_ix ix_tup (pv 0) pe_int (fun _ _ => rfl)) pe_str (nomark _)) (pe_one (pe_cmpR op_lt (pe_ix ix_tup (pv 0) pe_int (fun _ _ => rfl)) (pv 1) (nomark _))))), ?_⟩
    obtain ⟨p, x, y, rfl, q, dx, dy⟩ := dp_two hd
    have ex := dp_str dx
    subst ex
    have ey := dp_int dy
    subst ey
    refine ⟨_, rfl, p, _, _, _, rfl, rfl, q, rfl, rfl, _, rfl, ?_⟩
    rw [eq_S (s := ("at" : Str)) dx]
    cases h1 : atS "at" (.str kd) with
    | true =>
      rw [show decide (kd = "at") = true from h1] at k
      exact iteT k
    | false =>
      rw [show decide (kd = "at") = false from h1] at k
      exact iteF ⟨_, rfl, p, _, _, _, rfl, rfl, q, rfl, _, rfl, _, _, rfl, rfl, k⟩
def spIsJobL (K : PySem.W.Frag) : Sp := fun vs H Q _ => ∃ (v : V) (d : PyData), vs = [v] ∧ Dp K H v d ∧ niceJob d ∧ ∀ H', Same H H' → Q (.bl (jobD d)) H'
theorem scIsJobL : FnScope ["job", "name", "arrival", "door", "char"] ["job"] (defScope sIsJobL) := ⟨rfl, rfl, rfl, by decide +kernel, rfl, by decide +kernel, by decide +kernel⟩
theorem ok_isJobL (D : Df K mg "_law_is_job" sIsJobL ["job"]) (B : Blt mg) (I : Cl P w K mg base CX0 1 "_law_is_int" ["value", "least"] (spInteger K)) : Cl P w K mg base CX0 2 "_law_is_job" ["job"] (spIsJobL K) := by
  refine cl0 D scIsJobL (fun vs H Q E h => ?_) (fun f cdv A outer s H vs Q E hr h => ?_)
  · obtain ⟨v, d, rfl, _⟩ := h
    rfl
  · obtain ⟨v, d, rfl, hd, nj, k⟩ := h
    refine ⟨_, pss_cons (ps_if (PW.pt (pw_or (pt_not (pt_val (pe_callB call_isi (by rfl) B.isi (by decide +kernel) (pa_cons (pv 0) (pa_cons (pe_bltn (v := .ty "tuple") (u := .type "tuple") (by rfl) B.tuple (by decide +kernel) rfl) pa_nil))))) (pw_or1 (pt_cmpR op_ne (pe_callB call_len_seq (by rfl) B.len PySem.boot_len (pa_cons (pv 0) pa_nil)) pe_int (nomark _))))) (pss_one (ps_ret pe_bl)) pss_nil)
      (pss_cons (ps_asg (pv 0) (pg_tup rfl (pgs_cons (pg_name (i := 1) scIsJobL.nd rfl (.inl rfl)) (pgs_cons (pg_name (i := 2) scIsJobL.nd rfl (.inl rfl)) (pgs_cons (pg_name (i := 3) scIsJobL.nd rfl (.inl rfl)) pgs_nil)))))
      (pss_cons (ps_if (PW.pt (pw_or (pt_not (pt_val (pe_callB call_isi (by rfl) B.isi (by decide +kernel) (pa_cons (pv 1) (pa_cons (pe_bltn (v := .ty "str") (u := .type "str") (by rfl) B.str (by decide +kernel) rfl) pa_nil))))) (pw_or1 (pt_not (pt_chain op_le op_le pe_int (pe_callB call_len (by rfl) B.len PySem.boot_len (pa_cons (pv 1) pa_nil)) pe_int))))) (pss_one (ps_ret pe_bl)) pss_nil)
      (pss_cons (ps_if (pt_cmpR (op_neNilL (Nat.lt_of_succ_lt (hu_of hr))) (pe_lc (own := [("char", 4)]) (g := gName 4) (tt := tTest (tOp (fun x y H Q => ∃ (c : Nat) (z : Str), x = .str ⟨#[c]⟩ ∧ y = .str z ∧ Q (.bl (!decide (c ∈ z.cps.toList))) H) (tVar 4) (tC (.str abc)))) (te := tVar 4) (by rfl) scIsJobL.nd (pi_str (pv 1))
          (blkOk_by (own := [("char", 4)]) (N := ["job", "name", "arrival", "door", "char"]) (sc := defScope sIsJobL) (by decide +kernel)) (fun _ _ _ _ _ => pg_name (i := 4) scIsJobL.nd rfl (Or.inl rfl)) (fun _ _ _ _ _ => pts_one (pt_cmpR op_notIn_sign (pv 4) pe_str (by rfl))) (fun _ _ _ _ _ => pv 4))
          (pe_lst pa_nil) (nomark _)) (pss_one (ps_ret pe_bl)) pss_nil)
      (pss_cons (ps_if (PW.pt (pw_or (pt_not (pt_val (pe_callB call_isi (by rfl) B.isi (by decide +kernel) (pa_cons (pv 2) (pa_cons (pe_bltn (v := .ty "tuple") (u := .type "tuple") (by rfl) B.tuple (by decide +kernel) rfl) pa_nil))))) (pw_or (pt_cmpR op_ne (pe_callB call_len_seq (by rfl) B.len PySem.boot_len (pa_cons (pv 2) pa_nil)) pe_int (nomark _))
          (pw_or1 (pt_cmpR op_notIn_seq (pe_ix ix_tup (pv 2) pe_int (fun _ _ => rfl)) (pe_tup (pa_cons pe_str (pa_cons pe_str pa_nil))) (by rfl)))))) (pss_one (ps_ret pe_bl)) pss_nil)
      (pss_one (ps_ret (pe_and (pc I hr (by decide) (pa_cons (pe_ix ix_tup (pv 2) pe_int (fun _ _ => rfl)) (pa_cons (pe_callTy call_int1 (by rfl) B.int (by decide +kernel) (pa_cons (pe_cmpR op_eq (pe_ix ix_tup (pv 2) pe_int (fun _ _ => rfl)) pe_str (nomark _)) pa_nil)) pa_nil)))
        (pe_and (pc I hr (by decide) (pa_cons (pv 3) (pa_cons pe_int pa_nil))) (pe_one (pe_cmpR op_lt (pv 3) pe_int (nomark _))))))))))), ?_⟩
    have fin : ∀ b, jobD d = b → ∀ H', Same H H' → Q (.bl b) H' := fun b e H' s1 => by
      have z := k H' s1
      rw [e] at z
      exact z
    refine ⟨_, rfl, v, _, _, _, _, rfl, .ty "tuple", dp_ty hd, kit_tup hd, _, rfl, ?_⟩
    cases htup : isTupD d with
    | false =>
      refine iteT (iteT (fin _ ?_ H (Same.refl H)))
      cases d with
      | tuple ds => cases htup
      | _ => rfl
    | true =>
      obtain ⟨ds, rfl⟩ : ∃ ds, d = .tuple ds := by
        cases d with
        | tuple ls => exact ⟨ls, rfl⟩
        | _ => cases htup
      refine iteF ?_
      cases ht : tupleND 3 (.tuple ds) with
      | false =>
        obtain ⟨p, xs0, rfl, q0, r0⟩ := dp_tuple hd
        have z : ¬ (ds.length : Int) = 3 := of_decide_eq_false ht
        refine ⟨_, rfl, p, xs0, rfl, .inr q0, rfl, _, rfl, ?_⟩
        have e3 : (!decide (V.int (xs0.length : Nat) = V.int 3)) = true := by
          rw [decide_eq_false (fun y => z (by rw [← dps_len r0]; exact V.int.inj y))]
          rfl
        rw [e3]
        exact iteT (fin _ (job_not ht) H (Same.refl H))
      | true =>
        obtain ⟨n, a, e, e4⟩ := tup_three ht
        cases e4
        obtain ⟨p, x, y, z, rfl, q, hn, ha, he⟩ := dp_three hd
        have je : jobD (.tuple [n, a, e]) = (nameD n && (arrivalD a && (integerD 0 e && le9 e))) := rfl
        refine ⟨_, rfl, p, _, rfl, .inr q, rfl, _, rfl, iteF ?_⟩
        refine ⟨_, rfl, p, _, rfl, q, rfl, _, _, rfl, _, _, rfl, _, _, rfl, rfl, ?_⟩
        have noN : nameD n = false → ∀ H', Same H H' → Q (.bl false) H' := fun h => fin _ (by rw [je, h]; rfl)
        refine ⟨_, rfl, x, _, _, _, _, rfl, .ty "str", dp_ty hn, kit_strT hn, _, rfl, ?_⟩
        cases hs : isStrD n with
        | false =>
          refine iteT (iteT (noN ?_ H (Same.refl H)))
          cases n with
          | str s => cases hs
          | _ => rfl
        | true =>
          obtain ⟨nm, rfl⟩ : ∃ nm, n = .str nm := by
            cases n with
            | str s => exact ⟨s, rfl⟩
            | _ => cases hs
          have ex := dp_str hn
          subst ex
          have en : nameD (.str nm) = (decide (1 ≤ nm.length) && (decide (nm.length ≤ 8) && nm.cps.toList.all (between "a" "z"))) := rfl
          have sm : nm.length ≤ 100000 := nj.1
          refine iteF ⟨_, rfl, .str nm, nm.length, rfl, ⟨Nat.le_trans sm (by decide), rfl⟩, _, _, rfl, rfl, _, rfl, ?_⟩
          refine ite2 (fun z1 => ?_) (fun z1 => ?_)
          case refine_2 =>
            have z2 : ¬ 1 ≤ nm.length := fun y => z1 (decide_eq_true (by omega))
            exact ⟨_, rfl, iteT (noN (by rw [en, decide_eq_false z2]; rfl) H (Same.refl H))⟩
          have z2 : (1 : Int) ≤ (nm.length : Nat) := of_decide_eq_true z1
          have e1 : decide (1 ≤ nm.length) = true := decide_eq_true (by omega)
          refine ⟨_, _, rfl, rfl, _, rfl, ?_⟩
          by_cases z3 : nm.length ≤ 8
          case neg =>
            rw [decide_eq_false (show ¬ ((nm.length : Nat) : Int) ≤ 8 by omega)]
            exact iteT (noN (by rw [en, e1, decide_eq_false z3]; rfl) H (Same.refl H))
          rw [decide_eq_true (show ((nm.length : Nat) : Int) ≤ 8 by omega)]
          refine iteF ?_
          -- the signs
          refine ⟨_, rfl, nm, rfl, fun D0 nD => ?_⟩
          refine lc_it (walk_str (z := nm)) (fun m Hc => ∃ acc, Same H Hc ∧ Hc D0 = some (.lst acc) ∧ acc.length ≤ m ∧ (acc = [] ↔ ∀ c ∈ nm.cps.toList.take m, between "a" "z" c = true))
            ⟨[], same_new nD, upd_same, Nat.le_refl _, Iff.intro (fun _ c hc => absurd hc (by simp)) (fun _ => rfl)⟩ (fun _ _ _ _ => True.intro) ?_ ?_
          · rintro m y1 Hc0 Hc hm ⟨acc, s1, hD, hacc, iff⟩ ⟨rfl, c, hc, rfl⟩
            have hc2 : nm.cps.toList[m]? = some c := by rw [Array.getElem?_toList]; exact hc
            have tk : nm.cps.toList.take (m + 1) = nm.cps.toList.take m ++ [c] := by
              rw [List.take_add_one, hc2]
              rfl
            have hm8 : m ≤ 8 := by
              have z : nm.cps.size = nm.length := rfl
              omega
            refine ⟨rfl, _, rfl, c, abc, rfl, rfl, _, rfl, ?_⟩
            rw [mem_abc]
            cases hb : between "a" "z" c with
            | true =>
              refine iteF ⟨acc, s1, hD, by omega, ?_⟩
              rw [iff, tk]
              refine Iff.intro (fun h x hx => ?_) (fun h x hx => h x (List.mem_append_left _ hx))
              rcases List.mem_append.mp hx with hx | hx
              · exact h x hx
              · rw [List.mem_singleton.mp hx]
                exact hb
            | false =>
              refine iteT ⟨_, rfl, acc, hD, Nat.lt_of_le_of_lt hacc (Nat.lt_of_le_of_lt hm8 (by decide)), acc ++ [.str ⟨#[c]⟩], same_put s1 nD, upd_same, by rw [List.length_append, List.length_singleton]; omega, ?_⟩
              refine Iff.intro (fun h => absurd h (by simp)) (fun h => ?_)
              have z := h c (by rw [tk]; simp)
              rw [hb] at z
              cases z
          · rintro Hc ⟨acc, s1, hD, hacc, iff⟩
            have full : nm.cps.toList.take nm.cps.size = nm.cps.toList := List.take_of_length_le (by simp)
            rw [full] at iff
            refine ⟨(by show 0 ≤ sizeLine; decide), fun e9 ne9 => ?_⟩
            have s2 := s1.trans (same_new (o := .lst []) ne9)
            refine ⟨D0, e9, acc, rfl, rfl, SqL.of ((same_new ne9).at hD), SqL.of upd_same, _, rfl, ?_⟩
            cases acc with
            | cons q1 q2 =>
              refine iteT (noN ?_ _ s2)
              have z : nm.cps.toList.all (between "a" "z") = false := by
                refine Bool.eq_false_iff.mpr fun h => ?_
                have y := iff.mpr (List.all_eq_true.mp h)
                cases y
              rw [en, z, Bool.and_false, Bool.and_false]
            | nil =>
              have za : nm.cps.toList.all (between "a" "z") = true := List.all_eq_true.mpr (iff.mp rfl)
              have yesN : nameD (.str nm) = true := by
                rw [en, e1, decide_eq_true z3, za]
                rfl
              rw [yesN, Bool.true_and] at je
              have noA : arrivalD a = false → ∀ H', Same H H' → Q (.bl false) H' := fun h => fin _ (by rw [je, h]; rfl)
              have ha2 := dp_same s2 ha
              refine iteF ⟨_, rfl, y, _, _, _, _, rfl, .ty "tuple", dp_ty ha2, kit_tup ha2, _, rfl, ?_⟩
              cases hta : isTupD a with
              | false =>
                refine iteT (iteT (noA ?_ _ s2))
                cases a with
                | tuple s => cases hta
                | _ => rfl
              | true =>
                obtain ⟨as, rfl⟩ : ∃ as, a = .tuple as := by
                  cases a with
                  | tuple ls => exact ⟨ls, rfl⟩
                  | _ => cases hta
                refine iteF ?_
                cases ht2 : tupleND 2 (.tuple as) with
                | false =>
                  obtain ⟨pa, xs0, rfl, q0, r0⟩ := dp_tuple ha2
                  have z : ¬ (as.length : Int) = 2 := of_decide_eq_false ht2
                  refine ⟨_, rfl, pa, xs0, rfl, .inr q0, rfl, _, rfl, ?_⟩
                  have e3 : (!decide (V.int (xs0.length : Nat) = V.int 2)) = true := by
                    rw [decide_eq_false (fun y => z (by rw [← dps_len r0]; exact V.int.inj y))]
                    rfl
                  rw [e3]
                  exact iteT (iteT (noA (arr_not ht2) _ s2))
                | true =>
                  obtain ⟨kd, t, e5⟩ := tup_two ht2
                  cases e5
                  have fl : flatD kd = true := nj.2
                  obtain ⟨pa, kv, tv, rfl, qa, dk, dt⟩ := dp_two ha2
                  have ae : arrivalD (.tuple [kd, t]) = if atS "at" kd = true then integerD 0 t else (atS "after" kd && integerD 1 t) := rfl
                  refine ⟨_, rfl, pa, _, rfl, .inr qa, rfl, _, rfl, iteF ?_⟩
                  refine ⟨_, rfl, pa, _, _, _, rfl, rfl, qa, rfl, (by show 2 ≤ sizeLine; decide), fun t1 nt => ?_⟩
                  have s3 := same_new (o := .tup [.str ("at" : Str), .str ("after" : Str)]) nt
                  have s23 := s2.trans s3
                  refine ⟨t1, _, rfl, .inr (SqT.of upd_same), (by rw [dp_flat dk]; exact fl), rfl, _, rfl, ?_⟩
                  have inK : inV kv [.str ("at" : Str), .str ("after" : Str)] = (atS "at" kd || atS "after" kd) := by
                    cases dk with
                    | str x =>
                      show (("at" : Str) == x || (("after" : Str) == x || false)) = (decide (x = "at") || decide (x = "after"))
                      rw [Bool.or_false, BEq.comm (a := ("at" : Str)), BEq.comm (a := ("after" : Str))]
                      have q : ∀ s : Str, (x == s) = decide (x = s) := fun s => by
                        rw [Bool.eq_iff_iff]
                        simp
                      rw [q, q]
                    | non => rfl
                    | bl b => rfl
                    | int i => rfl
                    | lst q r => cases fl
                    | tup q r => cases fl
                  show if (!inV kv [.str ("at" : Str), .str ("after" : Str)]) = true then _ else _
                  rw [inK]
                  have dt3 := dp_same s3 dt
                  have dk3 := dp_same s3 dk
                  have he3 := dp_same s23 he
                  have tail : ∀ b, arrivalD (.tuple [kd, t]) = b → (if b = true then integerD 0 e && le9 e else false) = jobD (.tuple [.str nm, .tuple [kd, t], e]) := fun b hb => by
                    rw [je, hb]
                    cases b <;> rfl
                  cases hor : (atS "at" kd || atS "after" kd) with
                  | false =>
                    obtain ⟨o1, o2⟩ := Bool.or_eq_false_iff.mp hor
                    refine iteT (noA ?_ _ s23)
                    rw [ae, if_neg (by rw [o1]; exact Bool.false_ne_true), o2]
                    rfl
                  | true =>
                    refine iteF ?_
                    refine ⟨_, rfl, pa, _, _, _, rfl, rfl, same_seqT s3 qa, rfl, _, rfl, pa, _, _, _, rfl, rfl, same_seqT s3 qa, rfl, scal_S dk3 fl, .inr ⟨_, rfl, ?_⟩⟩
                    rw [eq_S (s := ("after" : Str)) dk3]
                    have lst : ∃ m : Int, (if atS "after" kd = true then (1 : Int) else 0) = m ∧ arrivalD (.tuple [kd, t]) = integerD m t := by
                      refine ⟨_, rfl, ?_⟩
                      rw [ae]
                      cases h1 : atS "at" kd with
                      | true =>
                        have h2 : atS "after" kd = false := by
                          cases kd with
                          | str x =>
                            have z : x = "at" := of_decide_eq_true h1
                            subst z
                            decide +kernel
                          | _ => cases h1
                        rw [h2]
                        rfl
                      | false =>
                        rw [h1, Bool.false_or] at hor
                        rw [hor]
                        rfl
                    obtain ⟨m, hm, am⟩ := lst
                    rw [hm]
                    refine ⟨tv, t, m, rfl, dt3, _, rfl, ?_⟩
                    cases hi : integerD m t with
                    | false => exact iteF (noA (by rw [am, hi]) _ s23)
                    | true =>
                      refine iteT ⟨_, rfl, z, e, 0, rfl, he3, _, rfl, ?_⟩
                      have fin2 : ∀ b, (integerD 0 e && le9 e) = b → Q (.bl b) _ := fun b hb => fin b (by rw [je, am, hi, hb]; rfl) _ s23
                      cases he3 with
                      | int i =>
                        cases h0 : integerD 0 (.int i) with
                        | false => exact iteF (fin2 _ (by rw [h0]; rfl))
                        | true =>
                          refine iteT ⟨_, rfl, _, _, rfl, rfl, fin2 _ ?_⟩
                          rw [h0]
                          show decide (i ≤ 9) = decide (i < 10)
                          by_cases h : i ≤ 9
                          · rw [decide_eq_true h, decide_eq_true (show i < 10 by omega)]
                          · rw [decide_eq_false h, decide_eq_false (show ¬ i < 10 by omega)]
                      | bl b => exact iteF (fin2 _ rfl)
                      | non => exact iteF (fin2 _ rfl)
                      | str b => exact iteF (fin2 _ rfl)
                      | lst q r => exact iteF (fin2 _ rfl)
                      | tup q r => exact iteF (fin2 _ rfl)
end
end Vk
namespace Vk
open PySem PySem.Spec PyProof.Rows L2 GxR
def optV : Option Int → V
  | some i => .int i
  | none => .non
/-- a slice from the beginning to an inner place -/
theorem slice_to {K : PySem.W.Frag} {H : Hp} {p : Addr} {xs : List V} {i : Nat} {Q : VK} (h : SqT K H p xs) (hi : i < xs.length) (k : ∀ t, H t = none → Q (.ref t) (upd H t (.tup (xs.take i)))) : rSlA K (.ref p) none (some (i : Int)) H Q := by
  have e2 : HT.sIx xs.length xs.length (some (i : Int)) = i := by rw [HT.sIx_nat]; omega
  have e1 : HT.sIx xs.length 0 none = 0 := rfl
  refine ⟨p, xs, rfl, h, fun w => ?_, fun _ t nt => ?_⟩
  · rw [e2] at w
    omega
  · have z := k t nt
    unfold cutV
    rw [e2, e1]
    exact z
theorem waits_kind {js : List PyData} {n k : Str} {t e : Int} (hk : k = "at" ∨ k = "after") : waitsD js (.tuple [.str n, .tuple [.str k, .int t], .int e]) = (decide (k = "after") && decide ((((js.map arrD).countP (befA t) : Nat) : Int) < t)) := by
  show (!decide (k = "at") && _) = _
  rcases hk with rfl | rfl <;> rfl
section
variable {P : Program} {w : World} {K : PySem.W.Frag} {mg : Str → Option Value} {base : Heap}
def spFault (K : PySem.W.Frag) : Sp := fun vs H Q _ => ∃ (v : V) (d : PyData), vs = [v] ∧ Dp K H v d ∧ niceJobs d ∧ ∀ H', Same H H' → Q (optV (jobsPlace d)) H'
theorem scFault : FnScope ["jobs", "place", "job", "kind", "number", "earlier", "one"] ["jobs"] (defScope sFault) := ⟨rfl, rfl, rfl, by decide +kernel, rfl, by decide +kernel, by decide +kernel⟩
theorem ok_fault (D : Df K mg "_law_fault" sFault ["jobs"]) (B : Blt mg) (J : Cl P w K mg base CX0 2 "_law_is_job" ["job"] (spIsJobL K)) (BF : Cl P w K mg base CX0 1 "_law_before" ["arrival", "finishes"] (spBefore K)) : Cl P w K mg base CX0 3 "_law_fault" ["jobs"] (spFault K) := by
  refine cl0 D scFault (fun vs H Q E h => ?_) (fun f cdv A outer s H vs Q E hr h => ?_)
  · obtain ⟨v, d, rfl, _⟩ := h
    rfl
  · obtain ⟨v, d, rfl, hd, nj, k⟩ := h
    refine ⟨_, pss_cons (ps_if (pt_not (pt_val (pe_callB call_isi (by rfl) B.isi (by decide +kernel) (pa_cons (pv 0) (pa_cons (pe_bltn (v := .ty "tuple") (u := .type "tuple") (by rfl) B.tuple (by decide +kernel) rfl) pa_nil))))) (pss_one (ps_ret pe_int)) pss_nil)
      (pss_cons (ps_for PassesOwn.never rfl (pi_enumT B.enum (pa_cons (pv 0) pa_nil)) (pg_tup rfl (pgs_cons (pg_name (i := 1) scFault.nd rfl (.inl rfl)) (pgs_cons (pg_name (i := 2) scFault.nd rfl (.inl rfl)) pgs_nil)))
        (pss_one (ps_if (PW.pt (pw_or (pt_not (pt_val (pc J hr (by decide) (pa_cons (pv 2) pa_nil)))) (pw_or1 (pt_cmpR op_in_seq (pe_ix ix_tup (pv 2) pe_int (fun _ _ => rfl))
          (pe_lc (own := [("one", 6)]) (g := gName 6) (tt := tYes) (te := tOp (rIxT K) (tVar 6) (tC (.int 0))) (by rfl) scFault.nd (pi_tup (pe_slice sl_tupA (pv 0) po_none (po_some (pv 1))))
            (blkOk_by (own := [("one", 6)]) (N := ["jobs", "place", "job", "kind", "number", "earlier", "one"]) (sc := defScope sFault) (by decide +kernel)) (fun _ _ _ _ _ => pg_name (i := 6) scFault.nd rfl (Or.inl rfl)) (fun _ _ _ _ _ => pts_nil) (fun _ _ _ _ _ => pe_ix ix_tup (pv 6) pe_int (fun _ _ => rfl))) (by rfl)))))
          (pss_one (ps_ret (pv 1))) pss_nil)))
      (pss_cons (ps_for PassesOwn.never rfl (pi_enumT B.enum (pa_cons (pv 0) pa_nil)) (pg_tup rfl (pgs_cons (pg_name (i := 1) scFault.nd rfl (.inl rfl)) (pgs_cons (pg_name (i := 2) scFault.nd rfl (.inl rfl)) pgs_nil)))
        (pss_cons (ps_asg (pe_ix ix_tup (pv 2) pe_int (fun _ _ => rfl)) (pg_tup rfl (pgs_cons (pg_name (i := 3) scFault.nd rfl (.inl rfl)) (pgs_cons (pg_name (i := 4) scFault.nd rfl (.inr rfl)) pgs_nil))))
        (pss_cons (ps_setLc (i := 5) (own := [("one", 6)]) (g := gName 6) (tt := tB (tCal (spBefore K) (tCons (tOp (rIxT K) (tVar 6) (tC (.int 1))) (tCons (tVar 4) tNil)))) (te := tVar 6) rfl scFault.nd rfl rfl (sw_true rfl rfl rfl (by decide +kernel)) (pi_tup (pv 0)) (blkOk_by (own := [("one", 6)]) (N := ["jobs", "place", "job", "kind", "number", "earlier", "one"]) (sc := defScope sFault) (by decide +kernel))
          (fun _ _ _ _ _ => pg_name (i := 6) scFault.nd rfl (Or.inl rfl)) (fun _ _ _ _ _ => pts_one (pt_val (pc BF hr (by decide) (pa_cons (pe_ix ix_tup (pv 6) pe_int (fun _ _ => rfl)) (pa_cons (pv 4) pa_nil))))) (fun _ _ _ _ _ => pv 6))
        (pss_one (ps_if (PW.pt (pw_and (pt_cmpR op_eq (pv 3) pe_str (nomark _)) (pw_and1 (pt_cmpR op_lt (pe_callB call_len_seq (by rfl) B.len PySem.boot_len (pa_cons (pv 5) pa_nil)) (pv 4) (nomark _))))) (pss_one (ps_ret (pv 1))) pss_nil)))))
      (pss_one (ps_ret pe_non)))), ?_⟩
    refine ⟨_, rfl, v, _, _, _, _, rfl, .ty "tuple", dp_ty hd, kit_tup hd, _, rfl, ?_⟩
    have fin : ∀ b, jobsPlace d = b → ∀ H', Same H H' → Q (optV b) H' := fun b e H' s1 => by
      have z := k H' s1
      rw [e] at z
      exact z
    cases htup : isTupD d with
    | false =>
      refine iteT (fin (some 0) ?_ H (Same.refl H))
      cases d with
      | tuple ds => cases htup
      | _ => rfl
    | true =>
      obtain ⟨js, rfl⟩ : ∃ js, d = .tuple js := by
        cases d with
        | tuple ls => exact ⟨ls, rfl⟩
        | _ => cases htup
      obtain ⟨pj, xs, rfl, qj, rj⟩ := dp_tuple hd
      have xl := dps_len rj
      have l900 : js.length ≤ 50000 := nj.2
      have jp : jobsPlace (.tuple js) = match eachPlace js with
        | some i => some (i : Int)
        | none => match waitPlace js with
          | some i => some (i : Int)
          | none => none := rfl
      refine iteF ?_
      refine ⟨_, rfl, pj, xs, rfl, qj, for_it (walk_enumT (K := K) (a := pj) (xs := xs)) (fun i σ H' => ∃ (u1 u2 : Option V), σ = [some (.ref pj), u1, u2, none, none, none, none] ∧ Same H H' ∧ ∀ j < i, badAt js j = false)
        ⟨none, none, rfl, Same.refl H, fun j hj => absurd hj (Nat.not_lt_zero _)⟩ (fun i σ H' _ ⟨_, _, _, s1, _⟩ => same_seqT s1 qj) ?_ ?_⟩
      · rintro i v1 σ H1 H2 hi ⟨u1, u2, rfl, s1, ok⟩ ⟨TT, x1, y1, rfl, nT, rfl, ex, ey⟩
        cases ex
        obtain ⟨d1, hd1, dp1⟩ := dps_getV rj ey
        have s2 := s1.trans (same_new (o := .tup [V.int (i : Nat), y1]) nT)
        refine ⟨TT, _, rfl, SqT.of upd_same, rfl, _, _, rfl, _, _, rfl, rfl, ?_⟩
        refine ⟨_, rfl, y1, d1, rfl, dp_same s2 dp1, nj.1 d1 (List.mem_of_getElem? hd1), fun H3 s3 => ⟨_, rfl, ?_⟩⟩
        have s23 := s2.trans s3
        have bad : badAt js i = (!jobD d1 || ((js.take i).map nameOf).any (fun y => y == nameOf d1)) := by
          unfold badAt
          rw [hd1]
        have stop : badAt js i = true → ∀ H', Same H H' → Q (.int (i : Int)) H' := fun hb => fin (some (i : Int)) (by
          rw [jp, show eachPlace js = some i from find_at (by omega) hb ok])
        cases hj : jobD d1 with
        | false => exact iteT (iteT ⟨_, rfl, stop (by rw [bad, hj]; rfl) _ s23⟩)
        | true =>
          obtain ⟨n1, k1, t1, x1, rfl, _, _⟩ := job_parts hj
          obtain ⟨p1, v1, v2, v3, rfl, q1, dv1, dv2, dv3⟩ := dp_three dp1
          have en := dp_str dv1
          subst en
          have qj3 := same_seqT s23 qj
          refine iteF ⟨_, rfl, p1, _, _, _, rfl, rfl, same_seqT s23 q1, rfl, ?_⟩
          refine ⟨_, rfl, _, rfl, ?_⟩
          dsimp only [tNoPart]
          refine ⟨_, rfl, slice_to qj3 (by omega) fun ts nts => ?_⟩
          have s24 := s23.trans (same_new (o := .tup (xs.take i)) nts)
          refine ⟨ts, rfl, ⟨_, SqT.of upd_same⟩, fun D0 nD => ?_⟩
          have qts : ∀ {Hx : Hp}, Same (upd H3 ts (.tup (xs.take i))) Hx → SqT K Hx ts (xs.take i) := fun s9 => SqT.of (s9.at upd_same)
          refine lc_it (walk_tup (K := K) (a := ts) (xs := xs.take i)) (fun m Hc => Same (upd H3 ts (.tup (xs.take i))) Hc ∧ Hc D0 = some (.lst (((js.take m).map nameOf).map V.str)))
            ⟨same_new nD, upd_same⟩ (fun m Hc _ ⟨s9, _⟩ => qts s9) ?_ ?_
          · rintro m y2 Hc0 Hc hm ⟨s9, hD⟩ ⟨rfl, hy2⟩
            rw [List.length_take] at hm
            have hy3 : xs[m]? = some y2 := by
              rw [List.getElem?_take_of_lt (by omega)] at hy2
              exact hy2
            obtain ⟨d2, hd2, dp2⟩ := dps_getV rj hy3
            have okm := ok m (by omega)
            have jd2 : jobD d2 = true := by
              unfold badAt at okm
              rw [hd2] at okm
              cases h : jobD d2 with
              | true => rfl
              | false =>
                have z' : (!jobD d2 || ((js.take m).map nameOf).any (fun y => y == nameOf d2)) = false := okm
                rw [h] at z'
                cases z'
            obtain ⟨n2, k2, t2, x2, rfl, _, _⟩ := job_parts jd2
            obtain ⟨p2, w1, w2, w3, rfl, q2, dw1, dw2, dw3⟩ := dp_three dp2
            have en2 := dp_str dw1
            subst en2
            refine ⟨rfl, _, rfl, p2, _, _, _, rfl, rfl, same_seqT (s24.trans s9) q2, rfl, _, hD, ?_, same_put s9 nD, ?_⟩
            · rw [List.length_map, List.length_map, List.length_take]
              exact Nat.lt_of_le_of_lt (show min m js.length ≤ 50000 by omega) (by decide)
            · rw [upd_same, List.take_add_one, hd2]
              simp [nameOf]
          · rintro Hc ⟨s9, hD⟩
            rw [List.length_take, show min i xs.length = i by omega] at hD
            have s25 := s24.trans s9
            refine ⟨_, _, rfl, .inl (SqL.of hD), rfl, flat_strs _, _, rfl, ?_⟩
            show if inV (.str n1) (((js.take i).map nameOf).map V.str) = true then _ else _
            rw [inV_strs]
            cases hin : ((js.take i).map nameOf).any (fun y => y == n1) with
            | true => exact iteT ⟨_, rfl, stop (by rw [bad, hj]; exact hin) _ s25⟩
            | false =>
              refine iteF ⟨_, _, rfl, s25, fun j hj2 => ?_⟩
              by_cases z : j = i
              · subst z
                rw [bad, hj]
                exact hin
              · exact ok j (by omega)
      · rintro σ H1 ⟨u1, u2, rfl, s1, ok⟩
        have ep : eachPlace js = none := find_no fun j hj => ok j (by omega)
        have jp2 : jobsPlace (.tuple js) = match waitPlace js with
            | some i => some (i : Int)
            | none => none := by
          rw [jp, ep]
        have okall := each_all (js := js) (fun j hj => ok j (by omega))
        refine ⟨_, rfl, pj, xs, rfl, same_seqT s1 qj, for_it (walk_enumT (K := K) (a := pj) (xs := xs)) (fun i σ H' => ∃ (u1 u2 u3 u4 u5 : Option V), σ = [some (.ref pj), u1, u2, u3, u4, u5, none] ∧ Same H H' ∧ ∀ j < i, waitAt js j = false)
          ⟨_, _, _, _, _, rfl, s1, fun j hj => absurd hj (Nat.not_lt_zero _)⟩ (fun i σ H' _ ⟨_, _, _, _, _, _, s1, _⟩ => same_seqT s1 qj) ?_ ?_⟩
        · rintro i v1 σ H2 H3 hi ⟨u1, u2, u3, u4, u5, rfl, s2, ok2⟩ ⟨TT, x1, y1, rfl, nT, rfl, ex, ey⟩
          cases ex
          obtain ⟨d1, hd1, dp1⟩ := dps_getV rj ey
          have s3 := s2.trans (same_new (o := .tup [V.int (i : Nat), y1]) nT)
          refine ⟨TT, _, rfl, SqT.of upd_same, rfl, _, _, rfl, _, _, rfl, rfl, ?_⟩
          have wt : waitAt js i = waitsD js d1 := by
            unfold waitAt
            rw [hd1]
          obtain ⟨n1, k1, t1, x1, rfl, _, hk1⟩ := job_parts (List.all_eq_true.mp okall d1 (List.mem_of_getElem? hd1))
          rw [waits_kind hk1] at wt
          obtain ⟨p1, v1, v2, v3, rfl, q1, dv1, dv2, dv3⟩ := dp_three dp1
          obtain ⟨pa, kv, tv, rfl, qa, dk, dt⟩ := dp_two dv2
          have ek := dp_str dk
          subst ek
          have et := dp_int dt
          subst et
          refine ⟨_, rfl, p1, _, _, _, rfl, rfl, same_seqT s3 q1, rfl, pa, _, rfl, same_seqT s3 qa, rfl, _, _, rfl, _, _, rfl, rfl, ?_⟩
          refine ⟨_, rfl, pj, rfl, ⟨_, same_seqT s3 qj⟩, fun D2 nD2 => ?_⟩
          refine lc_it (walk_tup (K := K) (a := pj) (xs := xs)) (fun m Hd => ∃ ac2, Same H Hd ∧ Hd D2 = some (.lst ac2) ∧ ac2.length = ((js.map arrD).take m).countP (befA t1))
            ⟨[], s3.trans (same_new nD2), upd_same, rfl⟩ (fun m Hd _ ⟨ac2, s9, _⟩ => same_seqT s9 qj) ?_ ?_
          · rintro m y2 Hd0 Hd hm ⟨ac2, s9, hD2, lc2⟩ ⟨rfl, hy2⟩
            obtain ⟨d2, hd2, dp2⟩ := dps_getV rj hy2
            obtain ⟨n2, k2, t2, x2, rfl, _, _⟩ := job_parts (List.all_eq_true.mp okall d2 (List.mem_of_getElem? hd2))
            obtain ⟨p2, w1, w2, w3, rfl, q2, dw1, dw2, dw3⟩ := dp_three dp2
            have e2 : ((js.map arrD).take (m + 1)).countP (befA t1) = ((js.map arrD).take m).countP (befA t1) + (if befA t1 (.tuple [.str k2, .int t2]) = true then 1 else 0) := by
              rw [List.take_add_one, List.getElem?_map, hd2]
              show ((js.map arrD).take m ++ [PyData.tuple [.str k2, .int t2]]).countP (befA t1) = _
              rw [List.countP_append, List.countP_singleton]
            have small : ac2.length < sizeLine := by
              have z : ((js.map arrD).take m).countP (befA t1) ≤ ((js.map arrD).take m).length := List.countP_le_length
              rw [List.length_take, List.length_map] at z
              exact Nat.lt_of_le_of_lt (show ac2.length ≤ 100000 by omega) (by decide)
            refine ⟨rfl, _, rfl, p2, _, _, _, rfl, rfl, same_seqT s9 q2, rfl, _, rfl, w2, k2, t2, t1, rfl, dp_same s9 dw2, ?_⟩
            refine ⟨_, rfl, ?_⟩
            cases hb : (decide (k2 = "at") || decide (t2 < t1)) with
            | true =>
              refine iteT ⟨_, rfl, ac2, hD2, small, ac2 ++ [_], ?_, upd_same, ?_⟩
              · exact same_put s9 (s3.free nD2)
              · rw [e2, if_pos (show befA t1 (.tuple [.str k2, .int t2]) = true from hb), List.length_append, List.length_singleton, lc2]
            | false =>
              refine iteF ⟨ac2, s9, hD2, ?_⟩
              rw [e2, if_neg (by rw [show befA t1 (.tuple [.str k2, .int t2]) = false from hb]; exact Bool.false_ne_true), lc2]
              rfl
          · rintro Hd ⟨ac2, s9, hD2, lc2⟩
            rw [show (js.map arrD).take xs.length = js.map arrD from List.take_of_length_le (by rw [List.length_map]; omega)] at lc2
            refine ⟨_, rfl, rfl, _, rfl, ?_⟩
            have stop : waitAt js i = true → ∀ H', Same H H' → Q (.int (i : Int)) H' := fun hb => fin (some (i : Int)) (by
              rw [jp2, show waitPlace js = some i from find_at (by omega) hb ok2])
            have next : waitAt js i = false → ∀ j < i + 1, waitAt js j = false := fun hb j hj => by
              by_cases z : j = i
              · subst z
                exact hb
              · exact ok2 j (by omega)
            rw [eq_S (s := ("after" : Str)) dk]
            cases h1 : atS "after" (.str k1) with
            | false =>
              refine iteF (iteF ⟨_, _, _, _, _, rfl, s9, next ?_⟩)
              rw [wt, show decide (k1 = "after") = false from h1]
              rfl
            | true =>
              rw [show decide (k1 = "after") = true from h1, Bool.true_and, ← lc2] at wt
              refine iteT ⟨_, rfl, D2, ac2, rfl, .inl (SqL.of hD2), _, rfl, _, _, rfl, rfl, _, rfl, ?_⟩
              cases h2 : decide (((ac2.length : Nat) : Int) < t1) with
              | true => exact iteT ⟨_, rfl, stop (by rw [wt, h2]) _ s9⟩
              | false => exact iteF ⟨_, _, _, _, _, rfl, s9, next (by rw [wt, h2])⟩
        · rintro σ H2 ⟨u1, u2, u3, u4, u5, rfl, s2, ok2⟩
          refine fin none ?_ H2 s2
          rw [jp2, show waitPlace js = none from find_no fun j hj => ok2 j (by omega)]
end
end Vk
namespace Vk
open PySem PySem.Spec PyProof.Rows L2 GxR
theorem cutR {α : Type} {R : α} {F : α → Prop} {G : Prop} (h : F R → G) (c : F R) : G := h c
def sgn (c : Nat) : Str := ⟨#[c]⟩
theorem off_none {a : Addr} {H : Hp} (h : H a = none) : Off a H = H := by
  funext b
  by_cases e : b = a
  · rw [e, off_same, h]
  · rw [off_ne e]
theorem off_free {a D : Addr} {H : Hp} (h : H D = none) : Off a H D = none := by
  by_cases e : D = a
  · rw [e, off_same]
  · rw [off_ne e, h]
/-- what was built beside the store and a cell is built beside the store -/
theorem kept_of_off {a l : Addr} {H G : Hp} (h : H l = none) (k : Same (Off l (Off a H)) (Off l (Off a G))) : Kept a H G := by
  rw [off_none (off_free h)] at k
  exact k.trans (off_sub l _)
theorem kept_new_put {a D : Addr} {o : HO} {H G : Hp} (k : Kept a H G) (h : H D = none) (n : D ≠ a) : Kept a H (upd G D o) := by
  unfold Kept
  rw [off_other n]
  exact same_put k (off_free h)
theorem atI_abc {r : Int} (h0 : 0 ≤ r) (h1 : r < 26) : atI abc.cps.toList r = some (97 + r.toNat) := by
  have e : ((r.toNat : Nat) : Int) = r := Int.toNat_of_nonneg h0
  rw [← e]
  refine atI_nat ?_
  rw [abc_list, List.getElem?_range' (by omega)]
  congr 1
  omega
theorem az_of {n : Nat} (h : n < 26) : between "a" "z" (97 + n) = true := by
  rw [between_az]
  exact decide_eq_true (by omega)
theorem nameD_iff {s : Str} : nameD (.str s) = true ↔ 1 ≤ s.cps.toList.length ∧ s.cps.toList.length ≤ 8 ∧ ∀ c ∈ s.cps.toList, between "a" "z" c = true := by
  show (decide (1 ≤ s.length) && (decide (s.length ≤ 8) && s.cps.toList.all (between "a" "z"))) = true ↔ _
  rw [Bool.and_eq_true_iff, Bool.and_eq_true_iff, decide_eq_true_iff, decide_eq_true_iff, List.all_eq_true, Array.length_toList]
  exact Iff.rfl
theorem joinL_one : ∀ cs : List Nat, TL.joinL [] (cs.map fun c => [c]) = cs
  | [] => rfl
  | [c] => rfl
  | c :: d :: r => by
    show [c] ++ ([] ++ TL.joinL [] ((d :: r).map fun c => [c])) = _
    rw [joinL_one (d :: r)]
    rfl
theorem join_sgn (cs : List Nat) : (Txt.join "" (cs.map sgn)).cps.toList = cs := by
  show TL.tl (Txt.join "" (cs.map sgn)) = cs
  rw [TL.join_eq, TL.tl_join, List.map_map]
  exact joinL_one cs
theorem lens_sgn (cs : List Nat) : ((cs.map sgn).map (·.length)).sum + (cs.map sgn).length * ("" : Str).length = cs.length := by
  rw [show (("" : Str)).length = 0 from by decide +kernel, Nat.mul_zero, Nat.add_zero, List.map_map]
  induction cs with
  | nil => rfl
  | cons c r ih =>
    rw [List.map_cons, List.sum_cons, ih, List.length_cons]
    show 1 + r.length = _
    omega
theorem cps_app (x y : Str) : (x ++ y).cps.toList = x.cps.toList ++ y.cps.toList := by
  show (x.cps ++ y.cps).toList = _
  rw [Array.toList_append]
theorem cut_to {z : Str} {i : Nat} (h : i ≤ z.cps.toList.length) : (cutS z none (some (i : Int))).cps.toList = z.cps.toList.take i := by
  have e : HT.sIx z.length z.length (some (i : Int)) = i := by
    rw [HT.sIx_nat]
    have : z.length = z.cps.toList.length := by rw [Array.length_toList]; rfl
    omega
  show ((z.cps.toList.drop 0).take (HT.sIx z.length z.length (some (i : Int)) - 0)) = _
  rw [e]
  rfl
theorem cut_from {z : Str} {i : Nat} (h : i ≤ z.cps.toList.length) : (cutS z (some (i : Int)) none).cps.toList = z.cps.toList.drop i := by
  have e0 : z.length = z.cps.toList.length := by rw [Array.length_toList]; rfl
  have e : HT.sIx z.length 0 (some (i : Int)) = i := by
    rw [HT.sIx_nat]
    omega
  show ((z.cps.toList.drop (HT.sIx z.length 0 (some (i : Int)))).take (z.length - HT.sIx z.length 0 (some (i : Int)))) = _
  rw [e]
  exact List.take_of_length_le (by rw [List.length_drop]; omega)
/-- the word of a late turn -/
def wordT (t : Nat) : Str := (sgn (97 + t % 26) ++ "q") ++ sgn (97 + t / 26 % 26)
theorem sub_len {α : Type} [DecidableEq α] : ∀ {l m : List α}, l.Nodup → (∀ x ∈ l, x ∈ m) → l.length ≤ m.length
  | [], _, _, _ => Nat.zero_le _
  | x :: l, m, h, s => by
    obtain ⟨h1, h2⟩ := List.nodup_cons.mp h
    have hx := s x (by simp)
    have z := sub_len (l := l) (m := m.erase x) h2 fun y hy => (List.mem_erase_of_ne (fun e : y = x => h1 (by rw [← e]; exact hy))).mpr (s y (by simp [hy]))
    have lx := List.length_erase_of_mem hx
    have pos := List.length_pos_of_mem hx
    rw [List.length_cons]
    omega
theorem words_nodup : (((List.range' 41 13).map wordT).map fun s => s.cps.toList).Nodup := by decide +kernel
theorem late {t : Nat} {ws : List Str} (h : ∀ s, 41 ≤ s → s ≤ t → wordT s ∈ ws) (l : ws.length < 12) : t ≤ 52 := by
  refine Nat.le_of_not_lt fun h53 => ?_
  have z := sub_len (l := ((List.range' 41 13).map wordT).map fun s => s.cps.toList) (m := ws.map fun s => s.cps.toList) words_nodup fun x hx => by
    obtain ⟨y, hy, rfl⟩ := List.mem_map.mp hx
    obtain ⟨s, hs, rfl⟩ := List.mem_map.mp hy
    obtain ⟨h1, h2⟩ := List.mem_range'_1.mp hs
    exact List.mem_map.mpr ⟨_, h s (by omega) (by omega), rfl⟩
  rw [List.length_map, List.length_map, List.length_map, List.length_range'] at z
  omega
theorem nameD_word (t : Nat) : nameD (.str (wordT t)) = true := by
  rw [nameD_iff]
  have e : (wordT t).cps.toList = [97 + t % 26, 113, 97 + t / 26 % 26] := by
    unfold wordT
    rw [cps_app, cps_app]
    rfl
  rw [e]
  refine ⟨Nat.succ_le_succ (Nat.zero_le _), (show 3 ≤ 8 by decide), fun c hc => ?_⟩
  simp only [List.mem_cons, List.not_mem_nil, or_false] at hc
  rcases hc with rfl | rfl | rfl
  · exact az_of (Nat.mod_lt _ (by decide))
  · exact az_of (n := 16) (by decide)
  · exact az_of (Nat.mod_lt _ (by decide))
def NW (sc a l : Addr) (n m : Int) (H : Hp) (M : Nat) (σ : L2.St) (G : Hp) : Prop := ∃ (t : Nat) (ws : List Str) (u5 u6 u7 : Option V), M + t = 60 ∧ σ = [some (.ref a), some (.int m), some (.str abc), some (.ref l), some (.int (t : Nat)), u5, u6, u7, none] ∧
  Sto sc a (n + 13 * t) G ∧ Same (Off l (Off a H)) (Off l (Off a G)) ∧ G l = some (.lst (ws.map V.str)) ∧ (∀ s ∈ ws, nameD (.str s) = true) ∧ (ws.length : Int) ≤ m ∧ (∀ s, 41 ≤ s → s ≤ t → wordT s ∈ ws) ∧ ws.Nodup
section
variable {P : Program} {w : World} {K : PySem.W.Frag} {mg : Str → Option Value} {base : Heap}
def spNames : Sp := fun vs H Q _ => ∃ (a sc : Addr) (n m : Int), vs = [.ref a, .int m] ∧ Sto sc a n H ∧ n ≤ 900000 ∧ 0 ≤ m ∧ m ≤ 12 ∧
  ∀ (l : Addr) (ws : List Str) (H' : Hp), H l = none → l ≠ a → Sto sc a (n + 800) H' → Kept a H H' → H' l = some (.lst (ws.map V.str)) → (ws.length : Int) = m → (∀ s ∈ ws, nameD (.str s) = true) → ws.Nodup → Q (.ref l) H'
theorem scNames : FnScope ["store", "count", "letters", "names", "turn", "word", "old", "at", "k"] ["store", "count"] (defScope sNames) := ⟨rfl, rfl, rfl, by decide +kernel, rfl, by decide +kernel, by decide +kernel⟩
theorem ok_names (D : Df K mg "_law_names" sNames ["store", "count"]) (B : Blt mg) (PK : Cl P w K mg base CX0 2 "_law_pick" ["store", "count"] spPick) : Cl P w K mg base CX0 3 "_law_names" ["store", "count"] spNames := by
  refine cl0 D scNames (fun vs H Q E h => ?_) (fun f cdv A outer s H vs Q E hr h => ?_)
  · obtain ⟨a, sc, n, m, rfl, _⟩ := h
    rfl
  · obtain ⟨a, sc, n, m, rfl, S, n1, m0, m12, k⟩ := h
    refine ⟨_, pss_cons (ps_set (i := 2) scNames.nd rfl (Or.inr rfl) pe_str)
      (pss_cons (ps_set (i := 3) scNames.nd rfl (Or.inl rfl) (pe_lst pa_nil))
      (pss_cons (ps_set (i := 4) scNames.nd rfl (Or.inl rfl) pe_int)
      (pss_cons (ps_while PassesOwn.never (pt_cmpR op_lt (pe_callB call_len_seq (by rfl) B.len PySem.boot_len (pa_cons (pv 3) pa_nil)) (pv 1) (nomark _))
        (pss_cons (ps_set (i := 4) scNames.nd rfl (Or.inl rfl) (pe_op op_add (pv 4) pe_int))
        (pss_cons (ps_set (i := 5) scNames.nd rfl (Or.inl rfl) (pe_join pe_str (pe_lc (own := [("k", 8)]) (g := gName 8) (tt := tYes) (te := tOp rIxS (tVar 2) (tCal spPick (tCons (tVar 0) (tCons (tC (.int 26)) tNil)))) (by rfl) scNames.nd (pi_range1 rfl B.range (pa_cons (pe_op op_add pe_int (pc PK hr (by decide) (pa_cons (pv 0) (pa_cons pe_int pa_nil)))) pa_nil))
            (blkOk_by (own := [("k", 8)]) (N := ["store", "count", "letters", "names", "turn", "word", "old", "at", "k"]) (sc := defScope sNames) (by decide +kernel)) (fun _ _ _ _ _ => pg_name (i := 8) scNames.nd rfl (Or.inl rfl)) (fun _ _ _ _ _ => pts_nil) (fun _ _ _ _ _ => pe_ix ix_str (pv 2) (pc PK hr (by decide) (pa_cons (pv 0) (pa_cons pe_int pa_nil))) (fun _ _ => rfl)))))
        (pss_cons (ps_if (PW.pt (pw_and (pt_cmpR (op_neNilL (Nat.lt_of_succ_lt (hu_of hr))) (pv 3) (pe_lst pa_nil) (nomark _)) (pw_and1 (pt_cmpR op_eq (pc PK hr (by decide) (pa_cons (pv 0) (pa_cons pe_int pa_nil))) pe_int (nomark _)))))
          (pss_cons (ps_set (i := 6) scNames.nd rfl (Or.inl rfl) (pe_ix ix_list (pv 3) (pc PK hr (by decide) (pa_cons (pv 0) (pa_cons (pe_callB call_len_seq (by rfl) B.len PySem.boot_len (pa_cons (pv 3) pa_nil)) pa_nil))) (fun _ _ => rfl)))
          (pss_cons (ps_set (i := 7) scNames.nd rfl (Or.inl rfl) (pc PK hr (by decide) (pa_cons (pv 0) (pa_cons (pe_callB call_len (by rfl) B.len PySem.boot_len (pa_cons (pv 6) pa_nil)) pa_nil))))
          (pss_one (ps_set (i := 5) scNames.nd rfl (Or.inl rfl) (pe_op op_add_str (pe_op op_add_str (pe_slice sl_str (pv 6) po_none (po_some (pv 7))) (pe_ix ix_str (pv 2) (pc PK hr (by decide) (pa_cons (pv 0) (pa_cons pe_int pa_nil))) (fun _ _ => rfl))) (pe_slice sl_str (pv 6) (po_some (pe_op op_add (pv 7) pe_int)) po_none)))))) pss_nil)
        (pss_cons (ps_if (pt_cmpR op_gt (pv 4) pe_int (nomark _)) (pss_one (ps_set (i := 5) scNames.nd rfl (Or.inl rfl) (pe_op op_add_str (pe_op op_add_str (pe_ix ix_str (pv 2) (pe_op op_mod (pv 4) pe_int) (fun _ _ => rfl)) pe_str) (pe_ix ix_str (pv 2) (pe_op op_mod (pe_op op_fdiv (pv 4) pe_int) pe_int) (fun _ _ => rfl))))) pss_nil)
        (pss_one (ps_if (pt_cmpR op_notIn_seq (pv 5) (pv 3) (by rfl)) (pss_one (ps_expr (pe_bm PySem.F.plainAttrs_list PySem.F.slot_list_append PySem.F.type_list_append mt_append (pv 3) (pa_cons (pv 5) pa_nil)))) pss_nil)))))))
      (pss_one (ps_ret (pv 3)))))), ?_⟩
    refine ⟨(by show 0 ≤ sizeLine; decide), fun l nl => ?_⟩
    have la : l ≠ a := S.ne nl
    have lsc : l ≠ sc := S.ne2 nl
    refine ⟨NW sc a l n m H, ⟨60, 0, [], none, none, none, rfl, rfl, (S.same (same_new nl)).more (by omega), off_mono (off_mono (same_new nl)), upd_same, (fun s hs => absurd hs (by simp)), m0, (fun s h1 h2 => by omega), List.nodup_nil⟩, ?_⟩
    rintro M σ G ⟨t, ws, u5, u6, u7, hM, rfl, SG, KG, lG, okw, lw, pw, nd⟩
    have lm : (ws.map V.str).length = ws.length := List.length_map ..
    refine ⟨_, rfl, l, _, rfl, .inl (SqL.of lG), _, rfl, _, _, rfl, rfl, _, rfl, ?_⟩
    refine ite2 (fun hlt => ?_) (fun hlt => ?_)
    case refine_2 =>
      have z : ¬ ((ws.map V.str).length : Int) < m := fun z => hlt (decide_eq_true z)
      exact ⟨_, rfl, k l ws G nl la (SG.more (by omega)) (kept_of_off nl KG) lG (by omega) okw nd⟩
    have z : ((ws.map V.str).length : Int) < m := of_decide_eq_true hlt
    rw [lm] at z
    have t52 := late pw (by omega)
    refine ⟨NW sc a l n m H (M - 1), fun σ' G' q => ⟨M - 1, by omega, q⟩, ?_⟩
    refine ⟨_, rfl, _, _, rfl, rfl, ?_⟩
    -- word
    refine ⟨⟨_, rfl⟩, _, rfl, a, sc, 8, _, rfl, by decide, by decide, SG, by omega, fun r G1 r0 r8 S1 K1 => ?_⟩
    refine ⟨_, _, rfl, rfl, 1 + r, rfl, by omega, by omega, fun D0 nD => ?_⟩
    have Da := S1.ne nD
    have Dsc := S1.ne2 nD
    have lG1 := K1.at lG la
    have nDG : G D0 = none := by
      have z := Same.free K1 (off_free nD)
      rw [off_ne Da] at z
      exact z
    have Dl : D0 ≠ l := fun e => by rw [e, lG1] at nD; cases nD
    refine lc_range (n := (1 + r).toNat) (fun i Hc => ∃ cs : List Nat, Sto sc a (n + 13 * t + 1 + i) Hc ∧ Kept a G Hc ∧ Hc D0 = some (.lst ((cs.map sgn).map V.str)) ∧ cs.length = i ∧ ∀ c ∈ cs, between "a" "z" c = true)
      ⟨[], (S1.same (same_new nD)).more (by omega), K1.trans (kept_same (same_new nD)), upd_same, rfl, fun c hc => absurd hc (by simp)⟩ ?_ ?_
    · rintro i Hc hi ⟨cs, Sc, Kc, hD, lc, okc⟩
      refine ⟨rfl, _, rfl, _, rfl, a, sc, 26, _, rfl, by decide, by decide, Sc, by omega, fun x Hd x0 x26 Sd Kd => ?_⟩
      refine ⟨abc, x, _, rfl, rfl, by decide +kernel, atI_abc x0 x26, _, Kd.at hD Da, ?_, cs ++ [97 + x.toNat], ?_, ?_, ?_, by rw [List.length_append, lc]; rfl, ?_⟩
      · rw [List.length_map, List.length_map, lc]
        exact Nat.lt_of_le_of_lt (show i ≤ 9 by omega) (by decide)
      · exact (Sd.other Da Dsc).more (by omega)
      · exact kept_new_put (Kc.trans Kd) nDG Da
      · rw [upd_same, List.map_append, List.map_append]
        rfl
      · intro c hc
        rcases List.mem_append.mp hc with hc | hc
        · exact okc c hc
        · rw [List.mem_singleton.mp hc]
          exact az_of (by omega)
    rintro G2 ⟨cs, S2, K2, hD, lc, okc⟩
    refine ⟨_, D0, cs.map sgn, rfl, rfl, .inl (SqL.of hD), ?_, ?_⟩
    · rw [lens_sgn, lc]
      omega
    have hw0 : nameD (.str (Txt.join "" (cs.map sgn))) = true := by
      rw [nameD_iff, join_sgn]
      exact ⟨by omega, by omega, okc⟩
    have S2' : Sto sc a (n + 13 * t + 9) G2 := S2.more (by omega)
    generalize Txt.join "" (cs.map sgn) = w0 at hw0 ⊢
    have lG2 := K2.at lG la
    apply cutR (α := L2.St → Hp → Prop) (F := fun R => ∀ (wd : Str) (G3 : Hp) (v6 v7 : Option V), nameD (.str wd) = true → Sto sc a (n + 13 * t + 13) G3 → Kept a G G3 → R [some (.ref a), some (.int m), some (.str abc), some (.ref l), some (.int (t + 1)), some (.str wd), v6, v7, none] G3)
    · intro cont
      refine ⟨_, rfl, (by show 0 ≤ sizeLine; decide), fun e1 ne1 => ?_⟩
      have se := same_new (o := .lst []) ne1
      have e1a := S2'.ne ne1
      refine ⟨l, e1, _, rfl, rfl, SqL.of (se.at lG2), SqL.of upd_same, _, rfl, ?_⟩
      have K3 := K2.trans (kept_same se)
      cases he : (ws.map V.str).isEmpty with
      | true => exact iteF (iteF (cont w0 _ _ _ hw0 ((S2'.same se).more (by omega)) K3))
      | false =>
        refine iteT ⟨_, rfl, a, sc, 2, _, rfl, by decide, by decide, S2'.same se, by omega, fun x G3 x0 x2 S3 K23 => ?_⟩
        have K4 := K3.trans K23
        have lG3 := K23.at (se.at lG2) la
        refine ⟨rfl, _, rfl, ?_⟩
        refine ite2 (fun _ => ?_) (fun _ => cont w0 _ _ _ hw0 (S3.more (by omega)) K4)
        have wpos : 0 < ws.length := by
          cases ws with
          | nil => cases he
          | cons x r => exact Nat.succ_pos _
        refine ⟨_, rfl, _, rfl, _, rfl, l, _, rfl, .inl (SqL.of lG3), a, sc, _, _, rfl, by omega, by omega, S3, by omega, fun y G4 y0 y2 S4 K34 => ?_⟩
        have lG4 := K34.at lG3 la
        obtain ⟨ov, hov, mov⟩ := atI_mem (xs := ws.map V.str) y0 (by omega)
        obtain ⟨old, mold, rfl⟩ := List.mem_map.mp mov
        obtain ⟨o1, o8, oaz⟩ := nameD_iff.mp (okw old mold)
        have oe : old.length = old.cps.toList.length := by rw [Array.length_toList]; rfl
        have osm : old.length ≤ sizeLine := Nat.le_trans (show old.length ≤ 8 by omega) (by decide)
        refine ⟨l, _, _, _, rfl, rfl, SqL.of lG4, hov, ?_⟩
        refine ⟨_, rfl, _, rfl, .str old, old.length, rfl, ⟨osm, rfl⟩, a, sc, _, _, rfl, by omega, by omega, S4, by omega, fun x G5 x0 x1 S5 K45 => ?_⟩
        obtain ⟨j, rfl⟩ := Int.eq_ofNat_of_zero_le x0
        refine ⟨_, rfl, ?_⟩
        dsimp only [tNoPart]
        refine ⟨_, rfl, _, rfl, old, rfl, osm, ?_⟩
        refine ⟨_, rfl, _, rfl, a, sc, 26, _, rfl, by decide, by decide, S5, by omega, fun q G6 q0 q26 S6 K56 => ?_⟩
        refine ⟨abc, q, _, rfl, rfl, by decide +kernel, atI_abc q0 q26, _, _, rfl, rfl, ?_, ?_⟩
        · exact Nat.le_trans (Nat.add_le_add_right (Nat.le_trans (cutS_length _ _ _) (show old.length ≤ 8 by omega)) 1) (by decide)
        refine ⟨_, rfl, _, rfl, _, _, rfl, rfl, _, rfl, ?_⟩
        dsimp only [tNoPart]
        have t1 : (cutS old none (some (j : Int))).cps.toList = old.cps.toList.take j := cut_to (by omega)
        have t2 : (cutS old (some ((j + 1 : Nat) : Int)) none).cps.toList = old.cps.toList.drop (j + 1) := cut_from (by omega)
        have tw : ((cutS old none (some (j : Int)) ++ sgn (97 + q.toNat)) ++ cutS old (some ((j + 1 : Nat) : Int)) none).cps.toList = (old.cps.toList.take j ++ [97 + q.toNat]) ++ old.cps.toList.drop (j + 1) := by
          rw [cps_app, cps_app, t1, t2]
          rfl
        refine ⟨old, rfl, osm, _, _, rfl, rfl, ?_, cont _ _ _ _ ?_ (S6.more (by omega)) (((K4.trans K34).trans K45).trans K56)⟩
        · refine Nat.le_trans (Nat.add_le_add (b := 9) (d := 8) (show (cutS old none (some (j : Int)) ++ sgn (97 + q.toNat)).length ≤ 9 from ?_) (Nat.le_trans (cutS_length _ _ _) (show old.length ≤ 8 by omega))) (by decide)
          rw [show ∀ s : Str, s.length = s.cps.toList.length from fun s => by rw [Array.length_toList]; rfl, cps_app, t1, List.length_append, List.length_take]
          show min j _ + 1 ≤ 9
          omega
        · show nameD (.str ((cutS old none (some (j : Int)) ++ sgn (97 + q.toNat)) ++ cutS old (some ((j + 1 : Nat) : Int)) none)) = true
          rw [nameD_iff, tw]
          refine ⟨?_, ?_, fun c hc => ?_⟩
          · simp only [List.length_append, List.length_take, List.length_drop, List.length_cons, List.length_nil]
            omega
          · simp only [List.length_append, List.length_take, List.length_drop, List.length_cons, List.length_nil]
            omega
          · rcases List.mem_append.mp hc with hc | hc
            · rcases List.mem_append.mp hc with hc | hc
              · exact oaz c (List.mem_of_mem_take hc)
              · rw [List.mem_singleton.mp hc]
                exact az_of (by omega)
            · exact oaz c (List.mem_of_mem_drop hc)
    · intro wd G3 v6 v7 hwd S3 K3
      have lG3 := K3.at lG la
      apply cutR (α := L2.St → Hp → Prop) (F := fun R => ∀ (wd : Str), nameD (.str wd) = true → (41 ≤ t + 1 → wd = wordT (t + 1)) → R [some (.ref a), some (.int m), some (.str abc), some (.ref l), some (.int (t + 1)), some (.str wd), v6, v7, none] G3)
      · intro cont
        refine ⟨_, rfl, _, _, rfl, rfl, _, rfl, ?_⟩
        refine ite2 (fun hl => ?_) (fun hl => cont wd hwd (fun h => absurd (decide_eq_true (show (40 : Int) < t + 1 by omega)) hl))
        refine ⟨_, rfl, _, rfl, _, _, rfl, rfl, (by show (0 : Int) < 26; decide), abc, _, _, rfl, rfl, by decide +kernel, atI_abc (by omega) (by omega), _, _, rfl, rfl, ?_, ?_⟩
        · show 1 + 1 ≤ sizeLine
          decide
        refine ⟨_, rfl, _, rfl, _, _, rfl, rfl, ⟨by decide, by omega⟩, _, _, rfl, rfl, (by show (0 : Int) < 26; decide), abc, _, _, rfl, rfl, by decide +kernel, atI_abc (by omega) (by omega), _, _, rfl, rfl, ?_, ?_⟩
        · show 2 + 1 ≤ sizeLine
          decide
        have e1 : (((t : Int) + 1) % 26).toNat = (t + 1) % 26 := by omega
        have e2 : (((t : Int) + 1) / 26 % 26).toNat = (t + 1) / 26 % 26 := by omega
        refine cont _ ?_ (fun _ => ?_)
        · show nameD (.str ((sgn (97 + (((t : Int) + 1) % 26).toNat) ++ "q") ++ sgn (97 + (((t : Int) + 1) / 26 % 26).toNat))) = true
          rw [e1, e2]
          exact nameD_word (t + 1)
        · show (sgn (97 + (((t : Int) + 1) % 26).toNat) ++ "q") ++ sgn (97 + (((t : Int) + 1) / 26 % 26).toNat) = _
          rw [e1, e2]
          rfl
      · intro wd hwd hlate
        have KF := KG.trans (off_mono (a := l) K3)
        refine ⟨_, rfl, _, rfl, l, _, rfl, .inl (SqL.of lG3), rfl, flat_strs _, _, rfl, ?_⟩
        show if (!inV (.str wd) (ws.map V.str)) = true then _ else _
        rw [inV_strs]
        cases hin : ws.any (fun y => y == wd) with
        | false =>
          refine iteT ⟨_, rfl, .inl ⟨rfl, _, SqL.of lG3⟩, _, rfl, l, _, _, rfl, rfl, lG3, ?_, t + 1, ws ++ [wd], _, _, _, by omega, rfl, (S3.other la lsc).more (by omega), ?_, ?_, ?_, ?_, ?_, ?_⟩
          · rw [lm]
            exact Nat.lt_of_le_of_lt (show ws.length ≤ 12 by omega) (by decide)
          · rw [off_other la, off_upd]
            exact KF
          · rw [upd_same, List.map_append]
            rfl
          · intro s hs
            rcases List.mem_append.mp hs with hs | hs
            · exact okw s hs
            · rw [List.mem_singleton.mp hs]
              exact hwd
          · rw [List.length_append, List.length_singleton]
            omega
          · intro s h1 h2
            by_cases e : s = t + 1
            · subst e
              rw [← hlate h1]
              simp
            · exact List.mem_append_left _ (pw s h1 (by omega))
          · rw [List.nodup_append]
            refine ⟨nd, by simp, fun x hx y hy e => ?_⟩
            rw [List.mem_singleton.mp hy] at e
            subst e
            have z : ws.any (fun y => y == x) = true := List.any_eq_true.mpr ⟨x, hx, by simp⟩
            rw [hin] at z
            cases z
        | true =>
          refine iteF ⟨t + 1, ws, _, _, _, by omega, rfl, S3.more (by omega), KF, lG3, okw, lw, (fun s h1 h2 => ?_), nd⟩
          by_cases e : s = t + 1
          · subst e
            rw [← hlate h1]
            obtain ⟨y, hy, e⟩ := List.any_eq_true.mp hin
            rw [← eq_of_beq e]
            exact hy
          · exact pw s h1 (by omega)
end
end Vk
namespace Vk
open PySem PySem.Spec PyProof.Rows L2 GxR
theorem atI_three {x0 x1 x2 : V} {r : Int} (h0 : 0 ≤ r) (h4 : r < 3) : ∃ x, atI [x0, x1, x2] r = some x ∧ (x = x0 ∨ x = x1 ∨ x = x2) := by
  have z : r = 0 ∨ r = 1 ∨ r = 2 := by omega
  rcases z with rfl | rfl | rfl
  · exact ⟨_, rfl, .inl rfl⟩
  · exact ⟨_, rfl, .inr (.inl rfl)⟩
  · exact ⟨_, rfl, .inr (.inr rfl)⟩
theorem arr_parts {a : PyData} (h : arrivalD a = true) : ∃ (k : Str) (t : Int), a = .tuple [.str k, .int t] ∧ (k = "at" ∨ k = "after") := by
  have hj : jobD (.tuple [.str "a", a, .int 0]) = true := by
    show (nameD (.str "a") && (arrivalD a && (integerD 0 (.int 0) && le9 (.int 0)))) = true
    rw [h]
    decide +kernel
  obtain ⟨n, k, t, e, e1, _, hk⟩ := job_parts hj
  cases e1
  exact ⟨k, t, rfl, hk⟩
theorem arr_at {i : Int} (h : 0 ≤ i) : arrivalD (.tuple [.str "at", .int i]) = true := by
  show (if atS "at" (.str "at") = true then integerD 0 (.int i) else (atS "after" (.str "at") && integerD 1 (.int i))) = true
  rw [if_pos (by decide +kernel)]
  exact decide_eq_true h
theorem arr_after {i : Int} (h : 1 ≤ i) : arrivalD (.tuple [.str "after", .int i]) = true := by
  show (if atS "at" (.str "after") = true then integerD 0 (.int i) else (atS "after" (.str "after") && integerD 1 (.int i))) = true
  rw [if_neg (by decide +kernel), show atS "after" (.str "after") = true from by decide +kernel, Bool.true_and]
  exact decide_eq_true h
theorem dps_set {K : PySem.W.Frag} {H : Hp} {v : V} {d : PyData} (hv : Dp K H v d) : ∀ {vs : List V} {ds : List PyData} (j : Nat), DpAll K H vs ds → DpAll K H (vs.set j v) (ds.set j d)
  | _, _, _, .nil => .nil
  | _, _, 0, .cons x r => .cons hv r
  | _, _, j + 1, .cons x r => .cons x (dps_set hv j r)
theorem ixN_nat {n j : Nat} (h : j < n) : ixN n ((0 : Int) + (j : Nat)) = some j := by
  rw [Int.zero_add]
  unfold ixN
  rw [if_pos (by omega), if_pos (by omega)]
  rfl
/-- a number that can be written -/
def bnd (d : PyData) : Prop := ∀ (k : PyData) (t : Int), d = .tuple [k, .int t] → t ≤ 10 ^ 30
theorem bnd_of {k : Str} {i : Int} (h : i ≤ 1000000) : bnd (.tuple [.str k, .int i]) := fun _ _ e => by
  cases e
  have z : (1000000 : Int) ≤ 10 ^ 30 := by decide
  omega
/-- who comes behind so many finishes comes -/
def OkA (ds : List PyData) (j : Nat) : Prop := ∀ m < j, ∀ (k : Str) (t : Int), ds[m]? = some (.tuple [.str k, .int t]) → k = "at" ∨ t ≤ (ds.countP (befA t) : Nat)
theorem OkA.next {ds : List PyData} {i : Nat} {k : Str} {t : Int} (o : OkA ds i) (h : ds[i]? = some (.tuple [.str k, .int t])) (ok : k = "at" ∨ t ≤ (ds.countP (befA t) : Nat)) : OkA ds (i + 1) := fun m hm k' t' h' => by
  by_cases e : m = i
  · subst e
    rw [h] at h'
    cases h'
    exact ok
  · exact o m (by omega) k' t' h'
theorem cnt_set {p : PyData → Bool} {b : PyData} (hb : p b = true) : ∀ (ds : List PyData) (i : Nat), ds.countP p ≤ (ds.set i b).countP p
  | [], _ => Nat.le_refl _
  | x :: ds, 0 => by
    rw [List.set_cons_zero, List.countP_cons, List.countP_cons, if_pos hb]
    split <;> omega
  | x :: ds, i + 1 => by
    rw [List.set_cons_succ, List.countP_cons, List.countP_cons]
    have z := cnt_set hb ds i
    omega
theorem OkA.put {ds : List PyData} {i : Nat} {r : Int} (o : OkA ds i) (hi : i < ds.length) : OkA (ds.set i (.tuple [.str "at", .int r])) (i + 1) := fun m hm k t h => by
  by_cases e : m = i
  · subst e
    rw [List.getElem?_set_self hi] at h
    cases h
    exact .inl rfl
  · rw [List.getElem?_set_ne (fun z => e z.symm)] at h
    rcases o m (by omega) k t h with z | z
    · exact .inl z
    · refine .inr (Int.le_trans z ?_)
      have q := cnt_set (p := befA t) (b := .tuple [.str "at", .int r]) rfl ds i
      omega
theorem not_before {α : Type} : ∀ {l : List α} {j : Nat} {x : α}, l.Nodup → l[j]? = some x → x ∉ l.take j
  | [], _, _, _, h => by cases h
  | y :: l, 0, x, _, _ => by simp
  | y :: l, j + 1, x, nd, h => by
    obtain ⟨n1, n2⟩ := List.nodup_cons.mp nd
    rw [List.getElem?_cons_succ] at h
    rw [List.take_succ_cons, List.mem_cons]
    rintro (e | e)
    · subst e
      exact n1 (List.mem_of_getElem? h)
    · exact not_before n2 h e
/-- jobs without a fault -/
theorem place_none {es : List PyData} (ok : ∀ e ∈ es, jobD e = true) (nd : (es.map nameOf).Nodup) (w : ∀ (k : Str) (t : Int), .tuple [.str k, .int t] ∈ es.map arrD → k = "at" ∨ t ≤ ((es.map arrD).countP (befA t) : Nat)) : jobsPlace (.tuple es) = none := by
  have h1 : eachPlace es = none := find_no fun j hj => by
    unfold badAt
    rw [List.getElem?_eq_getElem hj]
    show (!jobD es[j] || ((es.take j).map nameOf).any (fun y => y == nameOf es[j])) = false
    rw [ok _ (List.getElem_mem hj)]
    refine Bool.eq_false_iff.mpr fun z => ?_
    obtain ⟨y, hy, e⟩ := List.any_eq_true.mp (show ((es.take j).map nameOf).any (fun y => y == nameOf es[j]) = true from z)
    rw [eq_of_beq e, List.map_take] at hy
    exact not_before nd (by rw [List.getElem?_map, List.getElem?_eq_getElem hj]; rfl) hy
  have h2 : waitPlace es = none := find_no fun j hj => by
    unfold waitAt
    rw [List.getElem?_eq_getElem hj]
    have hm := List.getElem_mem hj
    show waitsD es es[j] = false
    obtain ⟨n, k, t, e, e1, _, hk⟩ := job_parts (ok _ hm)
    have ha : PyData.tuple [.str k, .int t] ∈ es.map arrD := List.mem_map.mpr ⟨es[j], hm, by rw [e1]; rfl⟩
    rw [e1, waits_kind hk]
    rcases w k t ha with z | z
    · rw [z]
      rfl
    · rw [decide_eq_false (Int.not_lt.mpr z), Bool.and_false]
  show (match eachPlace es with
    | some i => some (i : Int)
    | none => match waitPlace es with
      | some i => some (i : Int)
      | none => none) = none
  rw [h1, h2]
/-- different names, nobody waits forever -/
def Fine (es : List PyData) : Prop := (es.map nameOf).Nodup ∧ ∀ (k : Str) (t : Int), .tuple [.str k, .int t] ∈ es.map arrD → k = "at" ∨ t ≤ ((es.map arrD).countP (befA t) : Nat)
section
variable {P : Program} {w : World} {K : PySem.W.Frag} {mg : Str → Option Value} {base : Heap}
def JW (K : PySem.W.Frag) (sc a l : Addr) (N : Int) (H : Hp) (len : Nat) (Pz : List PyData → Prop) (G : Hp) : Prop := ∃ (xs : List V) (ds : List PyData), Sto sc a N G ∧ Same (Off l (Off a H)) (Off l (Off a G)) ∧ G l = some (.lst xs) ∧ DpAll K (Off l (Off a G)) xs ds ∧ ds.length = len ∧ (∀ d ∈ ds, arrivalD d = true) ∧ Pz ds
theorem JW.ok0 {K : PySem.W.Frag} {sc a l : Addr} {N : Int} {H G : Hp} {len : Nat} (h : JW K sc a l N H len (fun ds => ∀ d ∈ ds, bnd d) G) : JW K sc a l N H len (fun ds => OkA ds 0 ∧ ∀ d ∈ ds, bnd d) G := by
  obtain ⟨xs, ds, h1, h2, h3, h4, h5, h6, b⟩ := h
  exact ⟨xs, ds, h1, h2, h3, h4, h5, h6, fun m hm => absurd hm (Nat.not_lt_zero _), b⟩
def spJobs (K : PySem.W.Frag) : Sp := fun vs H Q _ => ∃ (a sc : Addr) (n mo la : Int), vs = [.ref a, .int mo, .int la] ∧ Sto sc a n H ∧ n ≤ 800000 ∧ 0 ≤ mo ∧ mo ≤ 12 ∧ 0 ≤ la ∧ la ≤ 1000000 ∧
  ∀ (v : V) (js : List PyData) (H' : Hp), Sto sc a (n + 1000) H' → Kept a H H' → Dp K (Off a H') v (.tuple js) → js.all jobD = true → js.length ≤ 12 → Fine js → (∀ a ∈ js.map arrD, bnd a) → Q v H'
theorem scJobs : FnScope ["store", "most", "late", "count", "arrivals", "k", "at", "kind", "number", "earlier", "jobs", "name", "door", "one"] ["store", "most", "late"] (defScope sJobs) := ⟨rfl, rfl, rfl, by decide +kernel, rfl, by decide +kernel, by decide +kernel⟩
theorem ok_jobs (D : Df K mg "_law_jobs" sJobs ["store", "most", "late"]) (B : Blt mg) (PK : Cl P w K mg base CX0 2 "_law_pick" ["store", "count"] spPick) (NM : Cl P w K mg base CX0 3 "_law_names" ["store", "count"] spNames)
    (BF : Cl P w K mg base CX0 1 "_law_before" ["arrival", "finishes"] (spBefore K)) : Cl P w K mg base CX0 4 "_law_jobs" ["store", "most", "late"] (spJobs K) := by
  refine cl0 D scJobs (fun vs H Q E h => ?_) (fun f cdv A outer s H vs Q E hr h => ?_)
  · obtain ⟨a, sc, n, mo, la, rfl, _⟩ := h
    rfl
  · obtain ⟨a, sc, n, mo, la, rfl, S, n1, m0, m12, l0, l1000, k⟩ := h
    refine ⟨_, pss_cons (ps_set (i := 3) scJobs.nd rfl (Or.inl rfl) (pc PK hr (by decide) (pa_cons (pv 0) (pa_cons (pe_op op_add (pv 1) pe_int) pa_nil))))
      (pss_cons (ps_set (i := 4) scJobs.nd rfl (Or.inl rfl) (pe_lst pa_nil))
      (pss_cons (ps_for PassesOwn.never rfl (pi_range1 rfl B.range (pa_cons (pv 3) pa_nil)) (pg_name (i := 5) scJobs.nd rfl (Or.inl rfl))
        (pss_cons (ps_set (i := 6) scJobs.nd rfl (Or.inl rfl) (pe_ix ix_list (pe_lst (pa_cons pe_int (pa_cons (pc PK hr (by decide) (pa_cons (pv 0) (pa_cons pe_int pa_nil))) (pa_cons (pc PK hr (by decide) (pa_cons (pv 0) (pa_cons (pe_op op_add (pv 2) pe_int) pa_nil))) pa_nil)))) (pc PK hr (by decide) (pa_cons (pv 0) (pa_cons pe_int pa_nil))) (fun _ _ => rfl)))
        (pss_one (ps_expr (pe_bm PySem.F.plainAttrs_list PySem.F.slot_list_append PySem.F.type_list_append mt_append (pv 4)
          (pa_cons (pe_ix ix_list (pe_lst (pa_cons (pe_tup (pa_cons pe_str (pa_cons (pv 6) pa_nil))) (pa_cons (pe_tup (pa_cons pe_str (pa_cons (pv 6) pa_nil))) (pa_cons (pe_tup (pa_cons pe_str (pa_cons (pe_op op_add pe_int (pc PK hr (by decide) (pa_cons (pv 0) (pa_cons (pv 3) pa_nil)))) pa_nil))) pa_nil)))) (pc PK hr (by decide) (pa_cons (pv 0) (pa_cons pe_int pa_nil))) (fun _ _ => rfl)) pa_nil))))))
      (pss_cons (ps_for PassesOwn.never rfl (pi_range1 rfl B.range (pa_cons (pv 3) pa_nil)) (pg_name (i := 5) scJobs.nd rfl (Or.inl rfl))
        (pss_cons (ps_asg (pe_ix ix_list (pv 4) (pv 5) (fun _ _ => rfl)) (pg_tup rfl (pgs_cons (pg_name (i := 7) scJobs.nd rfl (.inl rfl)) (pgs_cons (pg_name (i := 8) scJobs.nd rfl (.inr rfl)) pgs_nil))))
        (pss_cons (ps_setLc (i := 9) (own := [("one", 13)]) (g := gName 13) (tt := tB (tCal (spBefore K) (tCons (tVar 13) (tCons (tVar 8) tNil)))) (te := tVar 13) rfl scJobs.nd rfl rfl (sw_true rfl rfl rfl (by decide +kernel)) (pi_list (pv 4)) (blkOk_by (own := [("one", 13)]) (N := ["store", "most", "late", "count", "arrivals", "k", "at", "kind", "number", "earlier", "jobs", "name", "door", "one"]) (sc := defScope sJobs) (by decide +kernel))
          (fun _ _ _ _ _ => pg_name (i := 13) scJobs.nd rfl (Or.inl rfl)) (fun _ _ _ _ _ => pts_one (pt_val (pc BF hr (by decide) (pa_cons (pv 13) (pa_cons (pv 8) pa_nil))))) (fun _ _ _ _ _ => pv 13))
        (pss_one (ps_if (PW.pt (pw_and (pt_cmpR op_eq (pv 7) pe_str (nomark _)) (pw_and1 (pt_cmpR op_lt (pe_callB call_len_seq (by rfl) B.len PySem.boot_len (pa_cons (pv 9) pa_nil)) (pv 8) (nomark _)))))
          (pss_one (ps_asg (pe_tup (pa_cons pe_str (pa_cons (pc PK hr (by decide) (pa_cons (pv 0) (pa_cons (pe_op op_add (pv 2) pe_int) pa_nil))) pa_nil))) (pg_sub (pv 4) (pv 5) set_list))) pss_nil)))))
      (pss_cons (ps_set (i := 10) scJobs.nd rfl (Or.inl rfl) (pe_lst pa_nil))
      (pss_cons (ps_for PassesOwn.never rfl (pi_list (pc NM hr (by decide) (pa_cons (pv 0) (pa_cons (pv 3) pa_nil)))) (pg_name (i := 11) scJobs.nd rfl (Or.inl rfl))
        (pss_cons (ps_set (i := 12) scJobs.nd rfl (Or.inl rfl) (pe_ix ix_list (pe_lst (pa_cons pe_int (pa_cons pe_int (pa_cons (pc PK hr (by decide) (pa_cons (pv 0) (pa_cons pe_int pa_nil))) pa_nil)))) (pc PK hr (by decide) (pa_cons (pv 0) (pa_cons pe_int pa_nil))) (fun _ _ => rfl)))
        (pss_one (ps_expr (pe_bm PySem.F.plainAttrs_list PySem.F.slot_list_append PySem.F.type_list_append mt_append (pv 10)
          (pa_cons (pe_tup (pa_cons (pv 11) (pa_cons (pe_ix ix_list (pv 4) (pe_callB call_len_seq (by rfl) B.len PySem.boot_len (pa_cons (pv 10) pa_nil)) (fun _ _ => rfl)) (pa_cons (pv 12) pa_nil)))) pa_nil))))))
      (pss_one (ps_ret (pe_callTy call_tuple_of (by rfl) B.tuple (by decide +kernel) (pa_cons (pv 10) pa_nil))))))))), ?_⟩
    -- count
    refine ⟨_, rfl, _, rfl, _, _, rfl, rfl, a, sc, mo + 1, n, rfl, by omega, by omega, S, by omega, fun c H1 c0 c1 S1 K1 => ?_⟩
    refine ⟨(by show 0 ≤ sizeLine; decide), fun l nl => ?_⟩
    have la_ : l ≠ a := S1.ne nl
    have lsc : l ≠ sc := S1.ne2 nl
    have S2 := S1.same (same_new (o := .lst []) nl)
    have far : ∀ {G : Hp} {t : Addr} {k : Str} {i : Int}, G t = some (.tup [.str k, .int i]) → t ≠ l → t ≠ a → Dp K (Off l (Off a G)) (.ref t) (.tuple [.str k, .int i]) := fun h1 h2 h3 =>
      .tup (SqT.of (by rw [off_ne h2, off_ne h3, h1])) (.cons (.str _) (.cons (.int _) .nil))
    -- the first loop
    refine ⟨_, rfl, c, rfl, by omega, by omega, ?_⟩
    refine for_range (lo := 0) (n := c.toNat) (fun i σ G => ∃ (u5 u6 : Option V), σ = [some (.ref a), some (.int mo), some (.int la), some (.int c), some (.ref l), u5, u6, none, none, none, none, none, none, none] ∧ JW K sc a l (n + 1 + 5 * i) H1 i (fun ds => ∀ d ∈ ds, bnd d) G)
      ⟨none, none, rfl, [], [], S2.more (by omega), off_mono (off_mono (same_new nl)), upd_same, .nil, rfl, (fun d hd => absurd hd (by simp)), (fun d hd => absurd hd (by simp))⟩ ?_ ?_
    · rintro i σ G hi ⟨u5, u6, rfl, xs, ds, SG, KG, lG, dG, ld, okd, bd⟩
      have xl := dps_len dG
      refine ⟨_, rfl, a, sc, 4, _, rfl, by decide, by decide, SG, by omega, fun x G1 x0 x4 SG1 KG1 => ?_⟩
      refine ⟨_, rfl, _, rfl, _, _, rfl, rfl, a, sc, la + 1, _, rfl, by omega, by omega, SG1, by omega, fun y G2 y0 y4 SG2 KG2 => ?_⟩
      refine ⟨(by show 3 ≤ sizeLine; decide), fun q nq => ?_⟩
      have sq := same_new (o := .lst [.int 0, .int x, .int y]) nq
      have qa := SG2.ne nq
      refine ⟨_, rfl, a, sc, 3, _, rfl, by decide, by decide, SG2.same sq, by omega, fun z G3 z0 z3 SG3 KG3 => ?_⟩
      obtain ⟨av, hav, vav⟩ := atI_three (x0 := .int 0) (x1 := .int x) (x2 := .int y) z0 z3
      refine ⟨q, _, _, av, rfl, rfl, SqL.of (KG3.at upd_same qa), hav, ?_⟩
      obtain ⟨ai, ai0, ai1, rfl⟩ : ∃ ai : Int, 0 ≤ ai ∧ ai ≤ 1000000 ∧ av = .int ai := by
        rcases vav with rfl | rfl | rfl
        · exact ⟨_, by decide, by decide, rfl⟩
        · exact ⟨_, x0, by omega, rfl⟩
        · exact ⟨_, y0, by omega, rfl⟩
      have KA : Kept a G G3 := ((KG1.trans KG2).trans (kept_same sq)).trans KG3
      have lG3 := KA.at lG la_
      -- arrivals.append
      refine ⟨_, rfl, .inl ⟨rfl, _, SqL.of lG3⟩, ?_⟩
      refine ⟨_, rfl, (by show 2 ≤ sizeLine; decide), fun t1 m1 => ?_⟩
      have g1 := same_new (o := .tup [.str ("at" : Str), .int ai]) m1
      refine ⟨_, rfl, (by show 2 ≤ sizeLine; decide), fun t2 m2 => ?_⟩
      have g2 := same_new (o := .tup [.str ("at" : Str), .int ai]) m2
      have SG4 := (SG3.same g1).same g2
      have t1a := SG3.ne m1
      have t2a := (SG3.same g1).ne m2
      refine ⟨_, rfl, _, rfl, a, sc, c, _, rfl, by omega, by omega, SG4, by omega, fun r G4 r0 rc SG5 KG4 => ?_⟩
      refine ⟨_, _, rfl, rfl, (by show 2 ≤ sizeLine; decide), fun t3 m3 => ?_⟩
      have g3 := same_new (o := .tup [.str ("after" : Str), .int (1 + r)]) m3
      have t3a := SG5.ne m3
      refine ⟨(by show 3 ≤ sizeLine; decide), fun q2 nq2 => ?_⟩
      have g4 := same_new (o := .lst [.ref t1, .ref t2, .ref t3]) nq2
      have q2a := (SG5.same g3).ne nq2
      refine ⟨_, rfl, a, sc, 3, _, rfl, by decide, by decide, (SG5.same g3).same g4, by omega, fun e G5 e0 e3 SG6 KG5 => ?_⟩
      obtain ⟨ev, hev, vev⟩ := atI_three (x0 := .ref t1) (x1 := .ref t2) (x2 := .ref t3) e0 e3
      refine ⟨q2, _, _, ev, rfl, rfl, SqL.of (KG5.at upd_same q2a), hev, ?_⟩
      have K45 : Kept a G4 G5 := (kept_same (g3.trans g4)).trans KG5
      have K35 : Kept a G3 G5 := ((kept_same (g1.trans g2)).trans KG4).trans K45
      have KB : Kept a G G5 := KA.trans K35
      have lG5 := KB.at lG la_
      have b1 : G5 t1 = some (.tup [.str ("at" : Str), .int ai]) := K45.at (KG4.at (g2.at upd_same) t1a) t1a
      have b2 : G5 t2 = some (.tup [.str ("at" : Str), .int ai]) := K45.at (KG4.at upd_same t2a) t2a
      have b3 : G5 t3 = some (.tup [.str ("after" : Str), .int (1 + r)]) := KG5.at (g4.at upd_same) t3a
      have tl1 : t1 ≠ l := fun e => by rw [e, lG3] at m1; cases m1
      have tl2 : t2 ≠ l := fun e => by rw [e, g1.at lG3] at m2; cases m2
      have tl3 : t3 ≠ l := fun e => by rw [e, KG4.at ((g1.trans g2).at lG3) la_] at m3; cases m3
      obtain ⟨ed, ded, oked, bed⟩ : ∃ ed, Dp K (Off l (Off a G5)) ev ed ∧ arrivalD ed = true ∧ bnd ed := by
        rcases vev with rfl | rfl | rfl
        · exact ⟨_, far b1 tl1 t1a, arr_at ai0, bnd_of ai1⟩
        · exact ⟨_, far b2 tl2 t2a, arr_at ai0, bnd_of ai1⟩
        · exact ⟨_, far b3 tl3 t3a, arr_after (by omega), bnd_of (by omega)⟩
      have offs : Off l (Off a (upd G5 l (.lst (xs ++ [ev])))) = Off l (Off a G5) := by rw [off_other la_, off_upd]
      refine ⟨l, _, _, rfl, rfl, lG5, by rw [xl, ld]; exact Nat.lt_of_lt_of_le (show i < 13 by omega) (by decide), _, _, rfl, xs ++ [ev], ds ++ [ed], (SG6.other la_ lsc).more (by omega), ?_, upd_same, ?_, by rw [List.length_append, ld]; rfl, ?_, ?_⟩
      · rw [offs]
        exact KG.trans (off_mono KB)
      · rw [offs]
        exact dps_app (dps_same (off_mono KB) dG) (.cons ded .nil)
      · intro d hd
        rcases List.mem_append.mp hd with hd | hd
        · exact okd d hd
        · rw [List.mem_singleton.mp hd]
          exact oked
      · intro d hd
        rcases List.mem_append.mp hd with hd | hd
        · exact bd d hd
        · rw [List.mem_singleton.mp hd]
          exact bed
    rintro σ G ⟨u5, u6, rfl, JG⟩
    -- the second loop
    refine ⟨_, rfl, c, rfl, by omega, by omega, ?_⟩
    refine for_range (lo := 0) (n := c.toNat) (fun i σ G => ∃ (u5 u6 u7 u8 u9 : Option V), σ = [some (.ref a), some (.int mo), some (.int la), some (.int c), some (.ref l), u5, u6, u7, u8, u9, none, none, none, none] ∧ JW K sc a l (n + 1 + 5 * c.toNat + i) H1 c.toNat (fun ds => OkA ds i ∧ ∀ d ∈ ds, bnd d) G)
      ⟨_, _, _, _, _, rfl, by rw [show n + 1 + 5 * (c.toNat : Int) + ((0 : Nat) : Int) = n + 1 + 5 * c.toNat by omega]; exact JG.ok0⟩ ?_ ?_
    · rintro i σ G hi ⟨u5, u6, u7, u8, u9, rfl, xs, ds, SG, KG, lG, dG, ld, okd, okA, bd⟩
      have xl := dps_len dG
      have hxi : xs[i]? = some xs[i] := List.getElem?_eq_getElem (by omega)
      obtain ⟨d, hd, dd⟩ := dps_getV dG hxi
      generalize xs[i] = v at hxi dd
      obtain ⟨kd, t, rfl, hkd⟩ := arr_parts (okd d (List.mem_of_getElem? hd))
      obtain ⟨pa, kv, tv, rfl, qa, dk, dt⟩ := dp_two dd
      have ek := dp_str dk
      subst ek
      have et := dp_int dt
      subst et
      have sub : Same (Off l (Off a G)) G := (off_sub l (Off a G)).trans (off_sub a G)
      have hat : atI xs ((0 : Int) + (i : Nat)) = some (.ref pa) := by
        rw [Int.zero_add]
        exact atI_nat hxi
      refine ⟨_, rfl, _, rfl, l, xs, _, _, rfl, rfl, SqL.of lG, hat, pa, _, rfl, same_seqT sub qa, rfl, _, _, rfl, _, _, rfl, rfl, ?_⟩
      -- earlier
      refine ⟨_, rfl, l, rfl, ⟨_, SqL.of lG⟩, fun D2 nD2 => ?_⟩
      refine lc_it (walk_list (K := K) (a := l) (xs := xs)) (fun m Hd => ∃ ac2, Same G Hd ∧ Hd D2 = some (.lst ac2) ∧ ac2.length = (ds.take m).countP (befA t))
        ⟨[], same_new nD2, upd_same, rfl⟩ (fun m Hd _ ⟨ac2, s9, _⟩ => SqL.of (s9.at lG)) ?_ ?_
      · rintro m y2 Hd0 Hd hm ⟨ac2, s9, hD2, lc2⟩ ⟨rfl, hy2⟩
        obtain ⟨d2, hd2, dp2⟩ := dps_getV dG hy2
        obtain ⟨k2, t2, rfl, _⟩ := arr_parts (okd d2 (List.mem_of_getElem? hd2))
        refine ⟨rfl, _, rfl, _, rfl, y2, k2, t2, t, rfl, dp_same (sub.trans s9) dp2, ⟨_, rfl, ?_⟩⟩
        have e2 : (ds.take (m + 1)).countP (befA t) = (ds.take m).countP (befA t) + (if befA t (.tuple [.str k2, .int t2]) = true then 1 else 0) := by
          rw [List.take_add_one, hd2]
          show (ds.take m ++ [PyData.tuple [.str k2, .int t2]]).countP (befA t) = _
          rw [List.countP_append, List.countP_singleton]
        have small : ac2.length ≤ 13 := by
          have z : (ds.take m).countP (befA t) ≤ (ds.take m).length := List.countP_le_length
          rw [List.length_take] at z
          omega
        cases hb : (decide (k2 = "at") || decide (t2 < t)) with
        | true =>
          refine iteT ⟨_, rfl, ac2, hD2, Nat.lt_of_le_of_lt small (by decide), ac2 ++ [_], same_put s9 nD2, upd_same, ?_⟩
          rw [e2, if_pos (show befA t (.tuple [.str k2, .int t2]) = true from hb), List.length_append, List.length_singleton, lc2]
        | false =>
          refine iteF ⟨ac2, s9, hD2, ?_⟩
          rw [e2, if_neg (by rw [show befA t (.tuple [.str k2, .int t2]) = false from hb]; exact Bool.false_ne_true), lc2]
          rfl
      rintro Hd ⟨ac2, s9, hD2, lc2⟩
      rw [List.take_of_length_le (by omega)] at lc2
      have next : (kd = "at" ∨ t ≤ (ds.countP (befA t) : Nat)) → JW K sc a l (n + 1 + 5 * c.toNat + ((i + 1 : Nat) : Int)) H1 c.toNat (fun ds => OkA ds (i + 1) ∧ ∀ d ∈ ds, bnd d) Hd := fun hok =>
        ⟨xs, ds, (SG.same s9).more (by omega), KG.trans (off_mono (off_mono s9)), s9.at lG, dps_same (off_mono (off_mono s9)) dG, ld, okd, okA.next hd hok, bd⟩
      refine ⟨_, rfl, rfl, _, rfl, ?_⟩
      refine ite2 (fun _ => ?_) (fun hz => iteF ⟨_, _, _, _, _, rfl, next (.inl (hkd.resolve_right fun e => hz (by rw [e]; rfl)))⟩)
      refine ⟨_, rfl, D2, ac2, rfl, .inl (SqL.of hD2), _, rfl, _, _, rfl, rfl, _, rfl, ?_⟩
      refine ite2 (fun _ => ?_) (fun hz => ⟨_, _, _, _, _, rfl, next (.inr (by rw [← lc2]; exact Int.not_lt.mp fun e => hz (decide_eq_true e)))⟩)
      refine ⟨_, rfl, _, rfl, _, _, rfl, rfl, a, sc, la + 1, _, rfl, by omega, by omega, SG.same s9, by omega, fun r G2 r0 r1 SG2 KG2 => ?_⟩
      refine ⟨(by show 2 ≤ sizeLine; decide), fun q nq => ?_⟩
      have lG2 := KG2.at (s9.at lG) la_
      have sq := same_new (o := .tup [.str ("at" : Str), .int r]) nq
      have qa := SG2.ne nq
      have ql : q ≠ l := fun e => by rw [e, lG2] at nq; cases nq
      have KA : Kept a G (upd G2 q (.tup [.str ("at" : Str), .int r])) := ((kept_same s9).trans KG2).trans (kept_same sq)
      have offs : Off l (Off a (upd (upd G2 q (.tup [.str ("at" : Str), .int r])) l (.lst (xs.set i (.ref q))))) = Off l (Off a (upd G2 q (.tup [.str ("at" : Str), .int r]))) := by rw [off_other la_, off_upd]
      refine ⟨_, rfl, _, rfl, l, xs, _, i, rfl, rfl, sq.at lG2, ixN_nat (by omega), _, _, _, _, _, rfl, xs.set i (.ref q), ds.set i (.tuple [.str "at", .int r]), ((SG2.same sq).other la_ lsc).more (by omega), ?_, upd_same, ?_, by rw [List.length_set, ld], ?_, okA.put (by omega), ?_⟩
      · rw [offs]
        exact KG.trans (off_mono KA)
      · rw [offs]
        exact dps_set (far upd_same ql qa) i (dps_same (off_mono KA) dG)
      · intro d hd
        rcases List.mem_or_eq_of_mem_set hd with hd | rfl
        · exact okd d hd
        · exact arr_at r0
      · intro d hd
        rcases List.mem_or_eq_of_mem_set hd with hd | rfl
        · exact bd d hd
        · exact bnd_of (by omega)
    rintro σ Gp ⟨u5, u6, u7, u8, u9, rfl, xs, ds, SG, KG, lG, dG, ld, okd, okA, bd⟩
    have xl := dps_len dG
    -- jobs, names
    refine ⟨(by show 0 ≤ sizeLine; decide), fun lj nlj => ?_⟩
    have sj := same_new (o := .lst []) nlj
    have lja := SG.ne nlj
    have ljsc := SG.ne2 nlj
    refine ⟨_, rfl, _, rfl, a, sc, _, c, rfl, SG.same sj, by omega, c0, by omega, fun ln ws G5 nln lna S5 K5 hln lws okws ndw => ?_⟩
    have lnj : ln ≠ lj := fun e => by rw [e, upd_same] at nln; cases nln
    have lj5 := K5.at (o := .lst []) upd_same lja
    have KP5 : Kept a Gp G5 := (kept_same sj).trans K5
    have llj : l ≠ lj := fun e => by rw [← e, lG] at nlj; cases nlj
    have l5 := KP5.at lG la_
    have dX : DpAll K (Off lj (Off a Gp)) xs ds := by
      rw [off_none (off_free nlj)]
      exact dps_same (off_sub l _) dG
    have F5 : Same (Off lj (Off a Gp)) (Off lj (Off a G5)) := off_mono KP5
    refine ⟨ln, rfl, ⟨_, SqL.of hln⟩, for_it (walk_list (K := K) (a := ln) (xs := ws.map V.str)) (fun i σ Gi => ∃ (u5 u6 u7 u8 u9 u11 u12 : Option V) (ys : List V) (es : List PyData), σ = [some (.ref a), some (.int mo), some (.int la), some (.int c), some (.ref l), u5, u6, u7, u8, u9, some (.ref lj), u11, u12, none] ∧
        Sto sc a (n + 1 + 5 * c.toNat + c.toNat + 800 + 2 * i) Gi ∧ Same (Off lj (Off a Gp)) (Off lj (Off a Gi)) ∧ Gi l = some (.lst xs) ∧ Gi ln = some (.lst (ws.map V.str)) ∧ Gi lj = some (.lst ys) ∧ DpAll K (Off lj (Off a Gi)) ys es ∧ es.length = i ∧ (∀ e ∈ es, jobD e = true) ∧ es.map nameOf = ws.take i ∧ es.map arrD = ds.take i)
      ⟨_, _, _, _, _, _, _, [], [], rfl, S5.more (by omega), F5, l5, hln, lj5, .nil, rfl, (fun e he => absurd he (by simp)), rfl, rfl⟩ (fun i σ Gi _ ⟨_, _, _, _, _, _, _, _, _, _, _, _, _, h, _⟩ => SqL.of h) ?_ ?_⟩
    · rintro i v1 σ Ga Gb hi ⟨u5, u6, u7, u8, u9, u11, u12, ys, es, rfl, Si, Fi, li, hi_n, hlj, dys, les, okes, enm, ear⟩ ⟨rfl, hy⟩
      rw [List.length_map] at hi
      rw [List.getElem?_map] at hy
      obtain ⟨nm, hnm, rfl⟩ := Option.map_eq_some_iff.mp hy
      have yl := dps_len dys
      refine ⟨_, rfl, a, sc, 10, _, rfl, by decide, by decide, Si, by omega, fun x G1 x0 x4 SG1 KG1 => ?_⟩
      refine ⟨(by show 3 ≤ sizeLine; decide), fun q nq => ?_⟩
      have sq := same_new (o := .lst [.int 0, .int 0, .int x]) nq
      have qa := SG1.ne nq
      refine ⟨_, rfl, a, sc, 3, _, rfl, by decide, by decide, SG1.same sq, by omega, fun z G3 z0 z3 SG3 KG3 => ?_⟩
      obtain ⟨av, hav, vav⟩ := atI_three (x0 := .int 0) (x1 := .int 0) (x2 := .int x) z0 z3
      refine ⟨q, _, _, av, rfl, rfl, SqL.of (KG3.at upd_same qa), hav, ?_⟩
      obtain ⟨ai, ai0, ai9, rfl⟩ : ∃ ai : Int, 0 ≤ ai ∧ ai ≤ 9 ∧ av = .int ai := by
        rcases vav with rfl | rfl | rfl
        · exact ⟨_, by decide, by decide, rfl⟩
        · exact ⟨_, by decide, by decide, rfl⟩
        · exact ⟨_, x0, by omega, rfl⟩
      have KA : Kept a Gb G3 := (KG1.trans (kept_same sq)).trans KG3
      have lG3 := KA.at li la_
      have lnG3 := KA.at hi_n lna
      have ljG3 := KA.at hlj lja
      have hxi : xs[i]? = some xs[i] := List.getElem?_eq_getElem (by omega)
      obtain ⟨d, hd, dd⟩ := dps_getV dX hxi
      generalize xs[i] = v at hxi dd
      have hat : atI xs ((ys.length : Nat) : Int) = some v := by
        rw [yl, les]
        exact atI_nat hxi
      refine ⟨_, rfl, .inl ⟨rfl, _, SqL.of ljG3⟩, ?_⟩
      refine ⟨_, rfl, _, rfl, _, rfl, lj, ys, rfl, .inl (SqL.of ljG3), l, xs, _, v, rfl, rfl, SqL.of lG3, hat, _, rfl, (by show 3 ≤ sizeLine; decide), fun t nt => ?_⟩
      have st := same_new (o := .tup [.str nm, v, .int ai]) nt
      have ta := SG3.ne nt
      have tl : t ≠ lj := fun e => by rw [e, ljG3] at nt; cases nt
      have KB : Kept a Gb (upd G3 t (.tup [.str nm, v, .int ai])) := KA.trans (kept_same st)
      have offs : Off lj (Off a (upd (upd G3 t (.tup [.str nm, v, .int ai])) lj (.lst (ys ++ [.ref t])))) = Off lj (Off a (upd G3 t (.tup [.str nm, v, .int ai]))) := by rw [off_other lja, off_upd]
      have FB := Fi.trans (off_mono (a := lj) KB)
      refine ⟨lj, _, _, rfl, rfl, st.at ljG3, by rw [yl, les]; exact Nat.lt_of_lt_of_le (show i < 13 by omega) (by decide), _, _, _, _, _, _, _, ys ++ [.ref t], es ++ [.tuple [.str nm, d, .int ai]], rfl, ((SG3.same st).other lja ljsc).more (by omega), ?_, ?_, ?_, upd_same, ?_, by rw [List.length_append, les]; rfl, ?_, ?_, ?_⟩
      · rw [offs]
        exact FB
      · rw [upd_ne llj]
        exact st.at lG3
      · rw [upd_ne lnj]
        exact st.at lnG3
      · rw [offs]
        refine dps_app (dps_same (off_mono KB) dys) (.cons (.tup (a := t) (SqT.of ?_) (.cons (.str nm) (.cons (dp_same FB dd) (.cons (.int ai) .nil)))) .nil)
        rw [off_ne tl, off_ne ta, upd_same]
      · intro e he
        rcases List.mem_append.mp he with he | he
        · exact okes e he
        · rw [List.mem_singleton.mp he]
          show (nameD (.str nm) && (arrivalD d && (integerD 0 (.int ai) && le9 (.int ai)))) = true
          rw [okws nm (List.mem_of_getElem? hnm), okd d (List.mem_of_getElem? hd), show integerD 0 (.int ai) = true from decide_eq_true ai0, show le9 (.int ai) = true from decide_eq_true ai9]
          rfl
      · rw [List.map_append, enm, List.take_add_one, hnm]
        rfl
      · rw [List.map_append, ear, List.take_add_one, hd]
        rfl
    · rintro σ Gi ⟨u5, u6, u7, u8, u9, u11, u12, ys, es, rfl, Si, Fi, li, hi_n, hlj, dys, les, okes, enm, ear⟩
      have yl := dps_len dys
      have wl : (ws.map V.str).length = ws.length := List.length_map ..
      rw [List.length_map] at les
      refine ⟨_, rfl, lj, ys, rfl, .inl ⟨SqL.of hlj, fun tp ntp => ?_⟩⟩
      have stp := same_new (o := .tup ys) ntp
      have tpa := Si.ne ntp
      refine k (.ref tp) es _ ((Si.same stp).more (by omega)) (((K1.trans (kept_of_off nl KG)).trans (kept_of_off nlj Fi)).trans (kept_same stp)) (.tup (a := tp) (SqT.of ?_) (dps_same ((off_sub lj _).trans (kept_same stp)) dys)) (List.all_eq_true.mpr okes) (by omega) ⟨?_, ?_⟩ ?_
      · rw [off_ne tpa, upd_same]
      · rw [enm, wl, List.take_of_length_le (Nat.le_refl _)]
        exact ndw
      · rw [ear, wl, List.take_of_length_le (by omega)]
        intro k t hm
        obtain ⟨j, hj, e⟩ := List.getElem_of_mem hm
        exact okA j (by omega) k t (by rw [List.getElem?_eq_getElem hj, e])
      · rw [ear, wl, List.take_of_length_le (by omega)]
        exact bd
end
end Vk
namespace Vk
open PySem PySem.Spec PyProof.Rows L2 GxR
/-- whether a word is a written number: one to 31 digits, no 0 in front -/
def okNum (s : Str) : Bool := decide (1 ≤ s.length) && (decide (s.length ≤ 31) && (s.cps.toList.all (between "0" "9") && (decide (s = "0") || !decide (s.cps.toList.head? = some 48))))
def numD (s : Str) : Option Int := if okNum s = true then intText? s else none
theorem between_09 (c : Nat) : between "0" "9" c = decide (48 ≤ c ∧ c ≤ 57) := by
  have e1 : (("0" : Str)).cps.toList = [48] := by decide +kernel
  have e2 : (("9" : Str)).cps.toList = [57] := by decide +kernel
  unfold between
  rw [e1, e2]
  by_cases h1 : c < 48
  · rw [decide_eq_true (lt_one.mpr h1), decide_eq_false (show ¬ (48 ≤ c ∧ c ≤ 57) by omega)]
    rfl
  · by_cases h2 : 57 < c
    · rw [decide_eq_true (lt_one.mpr h2), decide_eq_false (show ¬ (48 ≤ c ∧ c ≤ 57) by omega), Bool.not_true, Bool.and_false]
    · rw [decide_eq_false (fun h => h1 (lt_one.mp h)), decide_eq_false (fun h => h2 (lt_one.mp h)), decide_eq_true (show 48 ≤ c ∧ c ≤ 57 by omega)]
      rfl
theorem num_some {s : Str} (h1 : 1 ≤ s.length) (h2 : s.length ≤ 31) (h3 : s.cps.toList.all (between "0" "9") = true) : ∃ n, intText? s = some n := by
  have e : s = SX.S s.cps.toList := rfl
  refine ⟨_, by
    rw [e]
    refine SX.int_S ?_ ?_ ?_
    · rw [List.all_eq_true] at h3 ⊢
      intro c hc
      have z := h3 c hc
      rw [between_09] at z
      obtain ⟨z1, z2⟩ := of_decide_eq_true z
      rw [decide_eq_true z1, decide_eq_true z2]
      rfl
    · intro z
      have : s.length = 0 := by
        show s.cps.size = 0
        rw [← Array.length_toList, z]
        rfl
      omega
    · rw [Array.length_toList]
      exact Nat.le_trans h2 (by decide)⟩
section
variable {P : Program} {w : World} {K : PySem.W.Frag} {mg : Str → Option Value} {base : Heap}
def spNum (T : Addr) : Sp := fun vs H Q _ => ∃ (s : Str), vs = [.str s] ∧ s.length ≤ sizeLine ∧ TabG H T ∧ ∀ H', Same H H' → Q (optV (numD s)) H'
theorem scReadNumber : FnScope ["word"] ["word"] (defScope sReadNumber) := ⟨rfl, rfl, rfl, by decide +kernel, rfl, by decide +kernel, by decide +kernel⟩
theorem ok_readNumber {c T : Addr} (D : DfC K mg "read_number" sReadNumber ["word"] c) (TB : TabB base mg c T) (B : Blt mg) (al : mg "all" = none) (M : ∃ u, mg "MOST_DIGITS" = some u ∧ RelV (.int 31) u) : Cl P w K mg base CX0 1 "read_number" ["word"] (spNum T) := by
  refine clC D scReadNumber (fun vs H Q E h => ?_) (fun f A outer s H vs Q E hr h => ?_)
  · obtain ⟨x, rfl, _⟩ := h
    rfl
  · obtain ⟨x, rfl, sm, tg, k⟩ := h
    obtain ⟨uM, mM, rM⟩ := M
    refine ⟨_, pss_cons (ps_if (pt_not (pt_chain op_le op_le pe_int (pe_callB call_len (by rfl) B.len PySem.boot_len (pa_cons (pv 0) pa_nil)) (pe_glob rfl mM rM))) (pss_one (ps_ret pe_non)) pss_nil)
      (pss_cons (ps_if (pt_not (pt_val (pe_allS (c := c) (P := T) (pb := between "0" "9") hr (by rfl) al (by decide +kernel) TB rfl ⟨rfl, rfl, by decide +kernel, by decide +kernel, by decide +kernel, twoLoc⟩ (pv 0) (elt_between rfl (by decide +kernel)) (fun _ => rfl)))) (pss_one (ps_ret pe_non)) pss_nil)
      (pss_one (ps_ret (pe_ifExp (PW.pt (pw_or (pt_cmpR op_eq (pv 0) pe_str (nomark _)) (pw_or1 (pt_cmpR op_ne (pe_ix ix_str (pv 0) pe_int (fun _ _ => rfl)) pe_str (nomark _))))) (pe_callTy call_int_str (by rfl) B.int (by decide +kernel) (pa_cons (pv 0) pa_nil)) pe_non)))), ?_⟩
    have no : okNum x = false → ∀ H', Same H H' → Q .non H' := fun h H' s1 => by
      have z := k H' s1
      unfold numD at z
      rw [h] at z
      exact z
    refine ⟨_, rfl, .str x, x.length, rfl, ⟨sm, rfl⟩, _, _, rfl, rfl, _, rfl, ?_⟩
    refine ite2 (fun z1 => ?_) (fun z1 => ?_)
    case refine_2 =>
      have z2 : ¬ 1 ≤ x.length := fun y => z1 (decide_eq_true (by omega))
      refine ⟨_, rfl, iteT (no ?_ H (Same.refl H))⟩
      unfold okNum
      rw [decide_eq_false z2]
      rfl
    have z2 : (1 : Int) ≤ (x.length : Nat) := of_decide_eq_true z1
    have e1 : decide (1 ≤ x.length) = true := decide_eq_true (by omega)
    refine ⟨_, _, rfl, rfl, _, rfl, ?_⟩
    by_cases z3 : x.length ≤ 31
    case neg =>
      rw [decide_eq_false (show ¬ ((x.length : Nat) : Int) ≤ 31 by omega)]
      refine iteT (no ?_ H (Same.refl H))
      unfold okNum
      rw [decide_eq_false z3, Bool.false_and, Bool.and_false]
    rw [decide_eq_true (show ((x.length : Nat) : Int) ≤ 31 by omega)]
    refine iteF ⟨_, rfl, x, rfl, tg, fun H2 tb => ⟨_, rfl, ?_⟩⟩
    have s1 := same_tabbed tb tg
    cases ha : x.cps.toList.all (between "0" "9") with
    | false =>
      refine iteT (no ?_ H2 s1)
      unfold okNum
      rw [ha, Bool.false_and, Bool.and_false, Bool.and_false]
    | true =>
      obtain ⟨n, hn⟩ := num_some (by omega) z3 ha
      have yes : (decide (x = "0") || !decide (x.cps.toList.head? = some 48)) = true → ∃ a n, [V.str x] = [V.str a] ∧ intText? a = some n ∧ a.length ≤ 640 ∧ Q (.int n) H2 := fun h => by
        refine ⟨x, n, rfl, hn, by omega, ?_⟩
        have z := k H2 s1
        unfold numD okNum at z
        rw [e1, decide_eq_true z3, ha, h, hn] at z
        exact z
      have o : okNum x = (decide (x = "0") || !decide (x.cps.toList.head? = some 48)) := by
        unfold okNum
        rw [e1, decide_eq_true z3, ha]
        rfl
      refine iteF ⟨_, rfl, rfl, _, rfl, ?_⟩
      have ev : decide (V.str x = V.str ("0" : Str)) = decide (x = "0") := by
        by_cases h : x = "0"
        · rw [h, decide_eq_true rfl, decide_eq_true rfl]
        · rw [decide_eq_false h, decide_eq_false (fun z => h (V.str.inj z))]
      rw [ev]
      cases h0 : decide (x = "0") with
      | true => exact iteT (iteT ⟨_, rfl, yes (by rw [h0]; rfl)⟩)
      | false =>
        have hp : 0 < x.cps.toList.length := by
          rw [Array.length_toList]
          exact (show 1 ≤ x.length by omega)
        have hat : atI x.cps.toList 0 = some (x.cps.toList[0]'hp) := atI_nat (j := 0) (List.getElem?_eq_getElem hp)
        have hd : x.cps.toList.head? = some (x.cps.toList[0]'hp) := by
          rw [List.head?_eq_getElem?, List.getElem?_eq_getElem hp]
        generalize x.cps.toList[0]'hp = c0 at hat hd
        refine iteF ⟨_, rfl, x, 0, c0, rfl, rfl, sm, hat, rfl, _, rfl, ?_⟩
        have e0 : (!decide (V.str (⟨#[c0]⟩ : Str) = V.str ("0" : Str))) = !decide (x.cps.toList.head? = some 48) := by
          rw [hd]
          congr 1
          by_cases h : c0 = 48
          · subst h
            rw [decide_eq_true (show some 48 = some 48 from rfl)]
            decide +kernel
          · rw [decide_eq_false (fun z => h (Option.some.inj z)), decide_eq_false (fun z => h ?_)]
            have q := congrArg (fun s : Str => s.cps.toList) (V.str.inj z)
            have q2 : [c0] = [48] := q.trans (by decide +kernel)
            exact (List.cons.inj q2).1
        rw [e0]
        cases h4 : decide (x.cps.toList.head? = some 48) with
        | true =>
          refine iteF (no ?_ H2 s1)
          rw [o, h0, h4]
          rfl
        | false => exact iteT ⟨_, rfl, yes (by rw [h0, h4]; rfl)⟩
end
end Vk
namespace Vk
open PySem PySem.Spec PyProof.Rows L2 GxR
/-- a number written -/
def dg (i : Int) : Str := Str.ofString (toString i)
theorem dg_tl (n : Nat) : (dg (n : Int)).cps.toList = TL.numL n := TL.tl_num n
theorem dg_len {n : Nat} (h : n ≤ 10 ^ 30) : 1 ≤ (dg (n : Int)).length ∧ (dg (n : Int)).length ≤ 31 := by
  rw [show ∀ s : Str, s.length = s.cps.toList.length from fun s => by rw [Array.length_toList]; rfl, dg_tl]
  refine ⟨List.length_pos_iff.mpr (TL.numL_ne n), TL.numL_len (by decide) (Nat.lt_of_le_of_lt h (by decide))⟩
theorem numL_head {n : Nat} (h : 0 < n) : (TL.numL n).head? ≠ some 48 := by
  induction n using Nat.strongRecOn with
  | _ n ih =>
    by_cases h10 : n < 10
    · rw [TL.numL_lt h10]
      intro z
      have := Option.some.inj z
      omega
    · rw [TL.numL_step (by omega), List.head?_append]
      have ne := ih (n / 10) (by omega) (by omega)
      intro z
      cases hq : (TL.numL (n / 10)).head? with
      | none => exact TL.numL_ne _ (List.head?_eq_none_iff.mp hq)
      | some c =>
        rw [hq] at z ne
        exact ne z
theorem numD_dg {n : Nat} (h : n ≤ 10 ^ 30) : numD (dg (n : Int)) = some (n : Int) := by
  obtain ⟨l1, l2⟩ := dg_len h
  have ok : okNum (dg (n : Int)) = true := by
    unfold okNum
    rw [decide_eq_true l1, decide_eq_true l2, dg_tl]
    have h3 : (TL.numL n).all (between "0" "9") = true := by
      rw [List.all_eq_true]
      intro c hc
      rw [between_09]
      exact decide_eq_true (TL.numL_digits n c hc)
    rw [h3]
    by_cases h0 : n = 0
    · subst h0
      decide +kernel
    · rw [decide_eq_false (numL_head (by omega))]
      simp
  unfold numD
  rw [if_pos ok]
  exact TL.int_num (Nat.le_trans (TL.numL_len (k := 31) (by decide) (Nat.lt_of_le_of_lt h (by decide))) (by decide))
def partsOf : PyData → List Str
  | .tuple [.str n, .tuple [.str k, .int t], .int e] => if 0 < e then [n, k, dg t, ("entry" : Str), dg e] else [n, k, dg t]
  | _ => []
def lineOf (d : PyData) : Str := Txt.join " " (partsOf d)
/-- a count of a list of words -/
def countW : List Str → Option Int
  | [w] => if numD w = some 0 then none else numD w
  | _ => none
section
variable {P : Program} {w : World} {K : PySem.W.Frag} {mg : Str → Option Value} {base : Heap}
def spReadCount (K : PySem.W.Frag) (T : Addr) : Sp := fun vs H Q _ => ∃ (p : Addr) (ws : List Str), vs = [.ref p] ∧ SqL K H p (ws.map V.str) ∧ (∀ x ∈ ws, x.length ≤ sizeLine) ∧ TabG H T ∧ ∀ H', Same H H' → Q (optV (countW ws)) H'
theorem scReadCount : FnScope ["words", "number"] ["words"] (defScope sReadCount) := ⟨rfl, rfl, rfl, by decide +kernel, rfl, by decide +kernel, by decide +kernel⟩
theorem ok_readCount {T : Addr} (D : Df K mg "read_count" sReadCount ["words"]) (B : Blt mg) (N : Cl P w K mg base CX0 1 "read_number" ["word"] (spNum T)) : Cl P w K mg base CX0 2 "read_count" ["words"] (spReadCount K T) := by
  refine cl0 D scReadCount (fun vs H Q E h => ?_) (fun f cdv A outer s H vs Q E hr h => ?_)
  · obtain ⟨p, ws, rfl, _⟩ := h
    rfl
  · obtain ⟨p, ws, rfl, hp, sm, tg, k⟩ := h
    refine ⟨_, pss_cons (ps_if (pt_cmpR op_ne (pe_callB call_len_seq (by rfl) B.len PySem.boot_len (pa_cons (pv 0) pa_nil)) pe_int (nomark _)) (pss_one (ps_ret pe_non)) pss_nil)
      (pss_cons (ps_set (i := 1) scReadCount.nd rfl (Or.inl rfl) (pc N hr (by decide) (pa_cons (pe_ix ix_list (pv 0) pe_int (fun _ _ => rfl)) pa_nil)))
      (pss_one (ps_ret (pe_ifExp (pt_cmpR op_eq (pv 1) pe_int (nomark _)) pe_non (pv 1))))), ?_⟩
    refine ⟨_, rfl, p, _, rfl, .inl hp, rfl, _, rfl, ?_⟩
    match ws, hp, sm, k with
    | [], hp, sm, k => exact iteT (k H (Same.refl H))
    | a :: b :: r, hp, sm, k =>
      rw [show (!decide (V.int (((a :: b :: r).map V.str).length : Nat) = V.int 1)) = true from by
        rw [decide_eq_false (fun z => by have := V.int.inj z; rw [List.length_map, List.length_cons, List.length_cons] at this; omega)]
        rfl]
      exact iteT (k H (Same.refl H))
    | [a], hp, sm, k =>
      refine iteF ⟨_, rfl, p, _, 0, _, rfl, rfl, hp, rfl, a, rfl, sm a (by simp), tg, fun H1 s1 => ?_⟩
      have z : Q (optV (if numD a = some 0 then none else numD a)) H1 := k H1 s1
      cases hn : numD a with
      | none =>
        rw [hn] at z
        exact ⟨_, rfl, rfl, _, rfl, iteF ⟨_, rfl, z⟩⟩
      | some n =>
        rw [hn] at z
        refine ⟨_, rfl, rfl, _, rfl, ?_⟩
        by_cases h0 : n = 0
        · subst h0
          exact iteT z
        · rw [if_neg (fun e => h0 (Option.some.inj e))] at z
          rw [show decide (optV (some n) = V.int 0) = false from decide_eq_false (fun e => h0 (V.int.inj e))]
          exact iteF ⟨_, rfl, z⟩
end
end Vk
namespace Vk
open PySem PySem.Spec PyProof.Rows L2 GxR
/-- a job that can be written: valid, its number not beyond 10 ** 30 -/
def wrD (d : PyData) : Prop := jobD d = true ∧ ∀ n k t e, d = .tuple [n, .tuple [k, .int t], e] → t ≤ 10 ^ 30
theorem dg_nat {t : Int} (h0 : 0 ≤ t) : ∃ n : Nat, t = (n : Int) := Int.eq_ofNat_of_zero_le h0
/-- a valid job's numbers -/
theorem job_nums {n k : Str} {t e : Int} (h : jobD (.tuple [.str n, .tuple [.str k, .int t], .int e]) = true) : 0 ≤ t ∧ 0 ≤ e ∧ e ≤ 9 := by
  have z : (nameD (.str n) && ((if atS "at" (.str k) = true then integerD 0 (.int t) else (atS "after" (.str k) && integerD 1 (.int t))) && (decide (0 ≤ e) && decide (e ≤ 9)))) = true := h
  obtain ⟨_, z⟩ := Bool.and_eq_true_iff.mp z
  obtain ⟨z1, z2⟩ := Bool.and_eq_true_iff.mp z
  obtain ⟨z3, z4⟩ := Bool.and_eq_true_iff.mp z2
  refine ⟨?_, of_decide_eq_true z3, of_decide_eq_true z4⟩
  by_cases ha : atS "at" (.str k) = true
  · rw [if_pos ha] at z1
    exact of_decide_eq_true z1
  · rw [if_neg ha] at z1
    have := of_decide_eq_true (Bool.and_eq_true_iff.mp z1).2
    omega
theorem line_tl (n k d : Str) : Txt.join " " [n, k, d] = (((((Str.empty ++ n) ++ " ") ++ k) ++ " ") ++ d) := by
  refine TL.ext_tl ?_
  rw [TL.join_eq, TL.tl_join]
  show TL.joinL (TL.tl " ") [TL.tl n, TL.tl k, TL.tl d] = (((((Str.empty ++ n) ++ " ") ++ k) ++ " ") ++ d).cps.toList
  rw [cps_app, cps_app, cps_app, cps_app, cps_app]
  show TL.tl n ++ (TL.tl " " ++ (TL.tl k ++ (TL.tl " " ++ TL.tl d))) = ((((([] : List Nat) ++ TL.tl n) ++ TL.tl " ") ++ TL.tl k) ++ TL.tl " ") ++ TL.tl d
  simp only [List.nil_append, List.append_assoc]
theorem line_tl2 (n k d e : Str) : Txt.join " " [n, k, d, ("entry" : Str), e] = ((Str.empty ++ (((((Str.empty ++ n) ++ " ") ++ k) ++ " ") ++ d)) ++ " entry ") ++ e := by
  refine TL.ext_tl ?_
  rw [TL.join_eq, TL.tl_join]
  show TL.joinL (TL.tl " ") [TL.tl n, TL.tl k, TL.tl d, TL.tl "entry", TL.tl e] = (((Str.empty ++ (((((Str.empty ++ n) ++ " ") ++ k) ++ " ") ++ d)) ++ " entry ") ++ e).cps.toList
  rw [cps_app, cps_app, cps_app, cps_app, cps_app, cps_app, cps_app, cps_app]
  show TL.tl n ++ (TL.tl " " ++ (TL.tl k ++ (TL.tl " " ++ (TL.tl d ++ (TL.tl " " ++ (TL.tl "entry" ++ (TL.tl " " ++ TL.tl e))))))) = ((([] : List Nat) ++ (((((([] : List Nat) ++ TL.tl n) ++ TL.tl " ") ++ TL.tl k) ++ TL.tl " ") ++ TL.tl d)) ++ TL.tl " entry ") ++ TL.tl e
  rw [show TL.tl " entry " = TL.tl " " ++ (TL.tl "entry" ++ TL.tl " ") from by decide +kernel]
  simp only [List.nil_append, List.append_assoc]
theorem slen {s : Str} : s.length = s.cps.toList.length := by rw [Array.length_toList]; rfl
theorem alen {x y : Str} : (x ++ y).length = x.length + y.length := by rw [slen, cps_app, List.length_append, ← slen, ← slen]
theorem log_ok {n : Nat} (h : n ≤ 10 ^ 30) : ((n : Int)).natAbs.log2 < 1920 := by
  rw [Int.natAbs_natCast]
  by_cases e : n = 0
  · subst e
    decide
  · exact (Nat.log2_lt e).mpr (Nat.lt_of_le_of_lt h (by decide))
theorem small_le {m : Nat} (h : m ≤ 200) : m ≤ sizeLine := Nat.le_trans h (by decide)
section
variable {P : Program} {w : World} {K : PySem.W.Frag} {mg : Str → Option Value} {base : Heap}
def spShowJob (K : PySem.W.Frag) : Sp := fun vs H Q _ => ∃ (v : V) (d : PyData), vs = [v] ∧ Dp K H v d ∧ wrD d ∧ Q (.str (lineOf d)) H
end
end Vk
namespace Vk
open PySem PySem.Spec PyProof.Rows L2 GxR
def textOf (js : List PyData) : Str := Txt.join "\n" (js.map lineOf)
/-- the words of a line -/
theorem parts_of {d : PyData} (h : wrD d) : ∃ (n k : Str) (t e : Nat), d = .tuple [.str n, .tuple [.str k, .int (t : Int)], .int (e : Int)] ∧ (k = "at" ∨ k = "after") ∧ nameD (.str n) = true ∧ t ≤ 10 ^ 30 ∧ e ≤ 9 ∧
    partsOf d = if 0 < (e : Int) then [n, k, dg t, ("entry" : Str), dg e] else [n, k, dg t] := by
  obtain ⟨n, kd, t, e, rfl, hn, hk⟩ := job_parts h.1
  obtain ⟨t0, e0, e9⟩ := job_nums h.1
  have t30 := h.2 _ _ _ _ rfl
  obtain ⟨tn, rfl⟩ := dg_nat t0
  obtain ⟨en, rfl⟩ := dg_nat e0
  exact ⟨n, kd, tn, en, rfl, hk, hn, by exact_mod_cast t30, by omega, rfl⟩
theorem parts_small {d : PyData} (h : wrD d) : ∀ p ∈ partsOf d, p.length ≤ 31 := by
  obtain ⟨n, k, t, e, rfl, hk, hn, ht, he, hp⟩ := parts_of h
  obtain ⟨_, n8, _⟩ := nameD_iff.mp hn
  rw [← slen] at n8
  have k5 : k.length ≤ 5 := by rcases hk with rfl | rfl <;> decide +kernel
  have l1 := (dg_len ht).2
  have l2 := (dg_len (Nat.le_trans (show e ≤ 9 by omega) (show 9 ≤ 10 ^ 30 by decide))).2
  have l3 : ("entry" : Str).length = 5 := by decide +kernel
  rw [hp]
  intro p hm
  by_cases h0 : 0 < (e : Int)
  · rw [if_pos h0] at hm
    simp only [List.mem_cons, List.not_mem_nil, or_false] at hm
    rcases hm with rfl | rfl | rfl | rfl | rfl <;> omega
  · rw [if_neg h0] at hm
    simp only [List.mem_cons, List.not_mem_nil, or_false] at hm
    rcases hm with rfl | rfl | rfl <;> omega
/-- a sign that no word of a line has -/
theorem parts_free {d : PyData} (h : wrD d) {s : Nat} (hs : s < 48 ∨ (57 < s ∧ s < 97)) : ∀ p ∈ partsOf d, s ∉ TL.tl p := by
  obtain ⟨n, k, t, e, rfl, hk, hn, ht, he, hp⟩ := parts_of h
  obtain ⟨_, _, az⟩ := nameD_iff.mp hn
  have fn : s ∉ TL.tl n := fun hm => by
    have z := az s hm
    rw [between_az] at z
    have := of_decide_eq_true z
    omega
  have letters : ∀ w : Str, (w.cps.toList.all fun c => decide (97 ≤ c)) = true → s ∉ TL.tl w := fun w hw hm => by
    have := of_decide_eq_true (List.all_eq_true.mp hw s hm)
    omega
  have fk : s ∉ TL.tl k := by rcases hk with rfl | rfl <;> exact letters _ (by decide +kernel)
  have fd : ∀ m : Nat, s ∉ TL.tl (dg (m : Int)) := fun m => by
    rw [show TL.tl (dg (m : Int)) = TL.numL m from dg_tl m]
    exact TL.numL_free (by omega)
  have fe : s ∉ TL.tl ("entry" : Str) := letters _ (by decide +kernel)
  rw [hp]
  intro p hm
  by_cases h0 : 0 < (e : Int)
  · rw [if_pos h0] at hm
    simp only [List.mem_cons, List.not_mem_nil, or_false] at hm
    rcases hm with rfl | rfl | rfl | rfl | rfl
    · exact fn
    · exact fk
    · exact fd t
    · exact fe
    · exact fd e
  · rw [if_neg h0] at hm
    simp only [List.mem_cons, List.not_mem_nil, or_false] at hm
    rcases hm with rfl | rfl | rfl
    · exact fn
    · exact fk
    · exact fd t
theorem parts_ne {d : PyData} (h : wrD d) : partsOf d ≠ [] := by
  obtain ⟨n, k, t, e, rfl, hk, hn, ht, he, hp⟩ := parts_of h
  rw [hp]
  split <;> simp
theorem line_split {d : PyData} (h : wrD d) : Txt.split (lineOf d) " " = partsOf d :=
  TL.split_join (s := 32) (S := []) (by decide +kernel) (by decide +kernel) (parts_ne h) (parts_free h (by omega))
theorem mem_joinL {s : Nat} {y : List Nat} : ∀ {ps : List (List Nat)}, s ∈ TL.joinL y ps → s ∈ y ∨ ∃ p ∈ ps, s ∈ p
  | [], h => by cases h
  | [p], h => .inr ⟨p, by simp, h⟩
  | p :: q :: r, h => by
    have z : s ∈ p ++ (y ++ TL.joinL y (q :: r)) := h
    rcases List.mem_append.mp z with z | z
    · exact .inr ⟨p, by simp, z⟩
    · rcases List.mem_append.mp z with z | z
      · exact .inl z
      · rcases mem_joinL z with z | ⟨p', hp', z⟩
        · exact .inl z
        · exact .inr ⟨p', List.mem_cons_of_mem _ hp', z⟩
theorem line_free {d : PyData} (h : wrD d) : 10 ∉ TL.tl (lineOf d) := fun hm => by
  unfold lineOf at hm
  rw [TL.join_eq, TL.tl_join] at hm
  rcases mem_joinL hm with z | ⟨p, hp, z⟩
  · exact absurd z (by decide +kernel)
  · obtain ⟨q, hq, rfl⟩ := List.mem_map.mp hp
    exact parts_free h (by omega) q hq z
theorem text_split {js : List PyData} (h : ∀ j ∈ js, wrD j) (ne : js ≠ []) : Txt.split (textOf js) "\n" = js.map lineOf :=
  TL.split_join (s := 10) (S := []) (by decide +kernel) (by decide +kernel) (by simpa using ne) fun p hp => by
    obtain ⟨d, hd, rfl⟩ := List.mem_map.mp hp
    exact line_free (h d hd)
theorem joinL_len {y : List Nat} {m : Nat} : ∀ {ps : List (List Nat)}, (∀ p ∈ ps, p.length ≤ m) → (TL.joinL y ps).length ≤ ps.length * (m + y.length)
  | [], _ => Nat.zero_le _
  | [p], h => by
    have := h p (by simp)
    show p.length ≤ 1 * (m + y.length)
    omega
  | p :: q :: r, h => by
    have h1 := h p (by simp)
    have h2 := joinL_len (y := y) (m := m) (ps := q :: r) fun x hx => h x (List.mem_cons_of_mem _ hx)
    show (p ++ (y ++ TL.joinL y (q :: r))).length ≤ _
    rw [List.length_append, List.length_append, List.length_cons, Nat.succ_mul]
    omega
theorem line_len {d : PyData} (h : wrD d) : (lineOf d).length ≤ 160 := by
  rw [slen]
  show (TL.tl (lineOf d)).length ≤ 160
  unfold lineOf
  rw [TL.join_eq, TL.tl_join]
  refine Nat.le_trans (joinL_len (m := 31) fun p hp => ?_) ?_
  · obtain ⟨q, hq, rfl⟩ := List.mem_map.mp hp
    have := parts_small h q hq
    rw [slen] at this
    exact this
  · obtain ⟨n, k, t, e, rfl, hk, hn, ht, he, hp⟩ := parts_of h
    have l1 : (TL.tl (" " : Str)).length = 1 := by decide +kernel
    rw [List.length_map, hp, l1]
    split
    · exact (show 5 * (31 + 1) ≤ 160 by decide)
    · exact (show 3 * (31 + 1) ≤ 160 by decide)
end Vk
namespace Vk
open PySem PySem.Spec PyProof.Rows L2 GxR
theorem spl_wt (S : List Nat) : ∀ (xs : List Nat) (k : Nat) (acc : List Nat), ((TL.spl S k acc xs).map fun p => p.length + 1).sum ≤ acc.length + xs.length + 1
  | [], k, acc => by
    rw [TL.spl_nil]
    simp
  | c :: r, 0, acc => by
    show ((if TL.pre S (c :: r) = true then acc :: TL.spl S (S.length - 1) [] r else TL.spl S 0 (acc ++ [c]) r).map fun p => p.length + 1).sum ≤ _
    split
    · have z := spl_wt S r (S.length - 1) []
      rw [List.map_cons, List.sum_cons, List.length_cons]
      simp only [List.length_nil] at z
      omega
    · have z := spl_wt S r 0 (acc ++ [c])
      rw [List.length_append, List.length_singleton] at z
      rw [List.length_cons]
      omega
  | c :: r, k + 1, acc => by
    have z := spl_wt S r k acc
    show ((TL.spl S k acc r).map fun p => p.length + 1).sum ≤ _
    rw [List.length_cons]
    omega
/-- signs and ends of words -/
def wt (ws : List Str) : Nat := (ws.map fun s => s.length + 1).sum
theorem wt_nil : wt [] = 0 := rfl
theorem wt_cons (s : Str) (ws : List Str) : wt (s :: ws) = s.length + 1 + wt ws := by
  unfold wt
  rw [List.map_cons, List.sum_cons]
theorem wt_app (a b : List Str) : wt (a ++ b) = wt a + wt b := by
  unfold wt
  rw [List.map_append, List.sum_append]
theorem wt_mem {s : Str} : ∀ {ws : List Str}, s ∈ ws → s.length + 1 ≤ wt ws
  | x :: ws, h => by
    rw [wt_cons]
    rcases List.mem_cons.mp h with rfl | h
    · omega
    · have := wt_mem h
      omega
theorem wt_len : ∀ ws : List Str, ws.length ≤ wt ws
  | [] => Nat.zero_le _
  | x :: ws => by
    have := wt_len ws
    rw [wt_cons, List.length_cons]
    omega
theorem wt_set (x : Str) : ∀ (ws : List Str) (i : Nat), wt (ws.set i x) ≤ wt ws + (x.length + 1)
  | [], _ => by rw [List.set_nil, wt_nil]; omega
  | y :: ws, 0 => by
    rw [List.set_cons_zero, wt_cons, wt_cons]
    omega
  | y :: ws, i + 1 => by
    have := wt_set x ws i
    rw [List.set_cons_succ, wt_cons, wt_cons]
    omega
theorem wt_erase : ∀ (ws : List Str) (i : Nat), wt (ws.eraseIdx i) ≤ wt ws
  | [], _ => by rw [List.eraseIdx_nil]; exact Nat.le_refl _
  | y :: ws, 0 => by
    rw [List.eraseIdx_zero, List.tail_cons, wt_cons]
    omega
  | y :: ws, i + 1 => by
    have := wt_erase ws i
    rw [List.eraseIdx_cons_succ, wt_cons, wt_cons]
    omega
theorem wt_ins (x : Str) (ws : List Str) (i : Nat) : wt (ws.take i ++ [x] ++ ws.drop i) = wt ws + (x.length + 1) := by
  have e : wt ws = wt (ws.take i) + wt (ws.drop i) := by rw [← wt_app, List.take_append_drop]
  rw [wt_app, wt_app, e, wt_cons, wt_nil]
  omega
theorem wt_sum : ∀ ws : List Str, (ws.map (·.length)).sum + ws.length * 1 = wt ws
  | [] => rfl
  | x :: ws => by
    have := wt_sum ws
    rw [wt_cons, List.map_cons, List.sum_cons, List.length_cons]
    omega
theorem split_wt (x : Str) {b : List Nat} (hb : b ≠ []) (hk : b.all (· < 256) = true) : wt (Txt.split x (SX.S b)) ≤ x.length + 1 := by
  have e : x = SX.S x.cps.toList := rfl
  rw [e, SX.split_S hb hk, ← e]
  have z := spl_wt b x.cps.toList 0 []
  unfold wt
  rw [List.map_map]
  have e2 : ((fun s : Str => s.length + 1) ∘ SX.S) = fun p : List Nat => p.length + 1 := by
    funext p
    show (SX.S p).length + 1 = p.length + 1
    rw [SX.S_len]
  rw [e2]
  simp only [List.length_nil] at z
  have : x.length = x.cps.toList.length := slen
  omega
theorem split_sp (x : Str) : wt (Txt.split x " ") ≤ x.length + 1 := by
  have z := split_wt x (b := [32]) (by simp) (by decide)
  rw [show SX.S [32] = (" " : Str) from by decide +kernel] at z
  exact z
theorem split_nl (x : Str) : wt (Txt.split x "\n") ≤ x.length + 1 := by
  have z := split_wt x (b := [10]) (by simp) (by decide)
  rw [show SX.S [10] = ("\n" : Str) from by decide +kernel] at z
  exact z
theorem split_ne (x : Str) {b : List Nat} (hb : b ≠ []) (hk : b.all (· < 256) = true) : Txt.split x (SX.S b) ≠ [] := by
  have e : x = SX.S x.cps.toList := rfl
  rw [e, SX.split_S hb hk]
  have ne : ∀ (xs : List Nat) (k : Nat) (acc : List Nat), TL.spl b k acc xs ≠ [] := by
    intro xs
    induction xs with
    | nil => intro k acc; rw [TL.spl_nil]; simp
    | cons c r ih =>
      intro k acc
      cases k with
      | zero =>
        show (if TL.pre b (c :: r) = true then acc :: TL.spl b (b.length - 1) [] r else TL.spl b 0 (acc ++ [c]) r) ≠ []
        split
        · simp
        · exact ih _ _
      | succ k => exact ih k acc
  simpa using ne _ _ _
theorem split_sp_ne (x : Str) : Txt.split x " " ≠ [] := by
  have z := split_ne x (b := [32]) (by simp) (by decide)
  rw [show SX.S [32] = (" " : Str) from by decide +kernel] at z
  exact z
theorem joinL_sum (y : List Nat) : ∀ ps : List (List Nat), (TL.joinL y ps).length ≤ (ps.map (·.length)).sum + ps.length * y.length
  | [] => Nat.zero_le _
  | [p] => by
    show p.length ≤ _
    simp
  | p :: q :: r => by
    have h2 := joinL_sum y (q :: r)
    show (p ++ (y ++ TL.joinL y (q :: r))).length ≤ _
    rw [List.length_append, List.length_append, List.map_cons, List.sum_cons, List.length_cons (a := p), Nat.succ_mul]
    omega
theorem join_wt {a : Str} (ws : List Str) (h : a.length = 1) : (Txt.join a ws).length ≤ wt ws := by
  rw [slen]
  show (TL.tl (Txt.join a ws)).length ≤ _
  rw [TL.join_eq, TL.tl_join]
  have z := joinL_sum (TL.tl a) (ws.map TL.tl)
  have e1 : (TL.tl a).length = 1 := by rw [← h, slen]
  have e2 : (ws.map TL.tl).map (·.length) = ws.map (·.length) := by
    rw [List.map_map]
    refine List.map_congr_left fun s _ => ?_
    show (TL.tl s).length = s.length
    rw [slen]
  rw [e1, e2, List.length_map, wt_sum] at z
  exact z
end Vk
namespace Vk
open PySem PySem.Spec PyProof.Rows L2 GxR
theorem cut3 {a b c : V} {l : List V} : cutV (a :: b :: c :: l) (some 3) none = l := by
  have e : HT.sIx (a :: b :: c :: l).length 0 (some 3) = 3 := by
    show HT.sIx (a :: b :: c :: l).length 0 (some ((3 : Nat) : Int)) = 3
    rw [HT.sIx_nat]
    simp only [List.length_cons]
    omega
  unfold cutV
  rw [e]
  show l.take ((a :: b :: c :: l).length - 3) = l
  exact List.take_of_length_le (by simp only [List.length_cons]; omega)
theorem cut1 {a : V} {l : List V} : cutV (a :: l) (some 1) none = l := by
  have e : HT.sIx (a :: l).length 0 (some 1) = 1 := by
    show HT.sIx (a :: l).length 0 (some ((1 : Nat) : Int)) = 1
    rw [HT.sIx_nat]
    simp only [List.length_cons]
    omega
  unfold cutV
  rw [e]
  show l.take ((a :: l).length - 1) = l
  exact List.take_of_length_le (by simp only [List.length_cons]; omega)
/-- an entry of the words behind an arrival -/
def entryW : List Str → Option Int
  | [] => some 0
  | x :: r => if x = "entry" then countW r else none
def optD : Option Int → PyData
  | some i => .int i
  | none => .none
theorem dp_opt {K : PySem.W.Frag} {H : Hp} : ∀ o : Option Int, Dp K H (optV o) (optD o)
  | some i => .int i
  | none => .non
/-- what the words of a line say -/
def jobW : List Str → PyData
  | a :: k :: n :: r => .tuple [.str a, .tuple [.str k, optD (numD n)], optD (entryW r)]
  | _ => .none
def readW (ws : List Str) : PyData := if jobD (jobW ws) = true then jobW ws else .none
def readD (ln : Str) : PyData := readW (Txt.split ln " ")
theorem readW_short {ws : List Str} (h : ws.length < 3) : readW ws = .none := by
  match ws, h with
  | [], _ => rfl
  | [_], _ => rfl
  | [_, _], _ => rfl
theorem readW_or (ws : List Str) : readW ws = .none ∨ jobD (readW ws) = true := by
  unfold readW
  by_cases h : jobD (jobW ws) = true
  · rw [if_pos h]
    exact .inr h
  · rw [if_neg h]
    exact .inl rfl
section
variable {P : Program} {w : World} {K : PySem.W.Frag} {mg : Str → Option Value} {base : Heap}
theorem eq_strV (x s : Str) : decide (V.str x = V.str s) = decide (x = s) := by
  by_cases h : x = s
  · rw [h, decide_eq_true rfl, decide_eq_true rfl]
  · rw [decide_eq_false h, decide_eq_false (fun z => h (V.str.inj z))]
def spReadEntry (K : PySem.W.Frag) (T : Addr) : Sp := fun vs H Q _ => ∃ (p : Addr) (ws : List Str), vs = [.ref p] ∧ SqL K H p (ws.map V.str) ∧ (∀ x ∈ ws, x.length ≤ sizeLine) ∧ TabG H T ∧ ∀ H', Same H H' → Q (optV (entryW ws)) H'
theorem scReadEntry : FnScope ["words"] ["words"] (defScope sReadEntry) := ⟨rfl, rfl, rfl, by decide +kernel, rfl, by decide +kernel, by decide +kernel⟩
theorem ok_readEntry {T : Addr} (D : Df K mg "read_entry" sReadEntry ["words"]) (C : Cl P w K mg base CX0 2 "read_count" ["words"] (spReadCount K T)) : Cl P w K mg base CX0 3 "read_entry" ["words"] (spReadEntry K T) := by
  refine cl0 D scReadEntry (fun vs H Q E h => ?_) (fun f cdv A outer s H vs Q E hr h => ?_)
  · obtain ⟨p, e, rfl, _⟩ := h
    rfl
  · obtain ⟨p, ws, rfl, hp, sm, tg, k⟩ := h
    refine ⟨_, pss_cons (ps_if (pt_not (pt_truth (pv 0) (by intro _; rfl))) (pss_one (ps_ret pe_int)) pss_nil)
      (pss_one (ps_ret (pe_ifExp (pt_cmpR op_eq (pe_ix ix_list (pv 0) pe_int (fun _ _ => rfl)) pe_str (nomark _)) (pc C hr (by decide) (pa_cons (pe_slice sl_list (pv 0) (po_some pe_int) po_none) pa_nil)) pe_non))), ?_⟩
    match ws, hp, sm, k with
    | [], hp, sm, k =>
      exact ⟨_, rfl, false, .inl ⟨_, hp, rfl⟩, iteT (k H (Same.refl H))⟩
    | x :: r, hp, sm, k =>
      refine ⟨_, rfl, true, .inl ⟨_, hp, rfl⟩, iteF ?_⟩
      refine ⟨_, rfl, p, _, 0, .str x, rfl, rfl, hp, atI_nat (j := 0) rfl, rfl, _, rfl, ?_⟩
      rw [eq_strV]
      have e : entryW (x :: r) = if x = "entry" then countW r else none := rfl
      by_cases h0 : x = "entry"
      · rw [decide_eq_true h0]
        rw [e, if_pos h0] at k
        refine iteT ⟨_, rfl, _, rfl, ?_⟩
        dsimp only [tNoPart]
        refine ⟨p, _, rfl, hp, fun q nq => ?_⟩
        have sq := same_new (o := .lst (r.map V.str)) nq
        refine ⟨q, r, rfl, SqL.of (by rw [List.map_cons, cut1]; exact upd_same), fun y hy => sm y (List.mem_cons_of_mem _ hy), ?_, fun H1 s1 => ?_⟩
        · rw [List.map_cons, cut1]
          exact sq.tab T tg
        · rw [List.map_cons, cut1] at s1
          exact k H1 (sq.trans s1)
      · rw [decide_eq_false h0]
        rw [e, if_neg h0] at k
        exact iteF (k H (Same.refl H))
def spReadJob (K : PySem.W.Frag) (T T2 : Addr) : Sp := fun vs H Q _ => ∃ (x : Str) (l : Addr), vs = [.str x] ∧ x.length ≤ 50000 ∧ H l ≠ none ∧ TabG H T ∧ TabG H T2 ∧ ∀ v H', Same H H' → Dp K (Off l H') v (readD x) → Q v H'
theorem scReadJob : FnScope ["line", "words", "job"] ["line"] (defScope sReadJob) := ⟨rfl, rfl, rfl, by decide +kernel, rfl, by decide +kernel, by decide +kernel⟩
theorem ok_readJob {T T2 : Addr} (D : Df K mg "read_job" sReadJob ["line"]) (B : Blt mg) (N : Cl P w K mg base CX0 1 "read_number" ["word"] (spNum T2)) (RE : Cl P w K mg base CX0 3 "read_entry" ["words"] (spReadEntry K T2)) (J : Cl P w K mg base CX0 3 "is_job" ["job"] (spIsJob K T)) :
    Cl P w K mg base CX0 4 "read_job" ["line"] (spReadJob K T T2) := by
  refine cl0 D scReadJob (fun vs H Q E h => ?_) (fun f cdv A outer s H vs Q E hr h => ?_)
  · obtain ⟨d, l, rfl, _⟩ := h
    rfl
  · obtain ⟨x, l, rfl, lx, hl, tg, tg2, k⟩ := h
    refine ⟨_, pss_cons (ps_set (i := 1) scReadJob.nd rfl (Or.inl rfl) (pe_split (pv 0) pe_str))
      (pss_cons (ps_if (pt_cmpR op_lt (pe_callB call_len_seq (by rfl) B.len PySem.boot_len (pa_cons (pv 1) pa_nil)) pe_int (nomark _)) (pss_one (ps_ret pe_non)) pss_nil)
      (pss_cons (ps_set (i := 2) scReadJob.nd rfl (Or.inl rfl) (pe_tup (pa_cons (pe_ix ix_list (pv 1) pe_int (fun _ _ => rfl)) (pa_cons (pe_tup (pa_cons (pe_ix ix_list (pv 1) pe_int (fun _ _ => rfl)) (pa_cons (pc N hr (by decide) (pa_cons (pe_ix ix_list (pv 1) pe_int (fun _ _ => rfl)) pa_nil)) pa_nil)))
          (pa_cons (pc RE hr (by decide) (pa_cons (pe_slice sl_list (pv 1) (po_some pe_int) po_none) pa_nil)) pa_nil)))))
      (pss_one (ps_ret (pe_ifExp (pt_val (pc J hr (by decide) (pa_cons (pv 2) pa_nil))) (pv 2) pe_non))))), ?_⟩
    refine ⟨_, rfl, ⟨_, rfl⟩, _, " ", rfl, rfl, by decide +kernel, Nat.le_trans (show _ + 2 ≤ 50002 by omega) (by decide), fun p np => ?_⟩
    have wsm : ∀ y ∈ Txt.split x " ", y.length ≤ 50000 := fun y hy => by
      have z1 := wt_mem hy
      have z2 := split_sp x
      omega
    unfold readD at k
    generalize Txt.split x " " = ws at wsm k ⊢
    have s1 := same_new (o := .lst (ws.map V.str)) np
    have hp1 : upd H p (.lst (ws.map V.str)) p = some (.lst (ws.map V.str)) := upd_same
    have tg1 := s1.tab T tg
    have tg21 := s1.tab T2 tg2
    generalize upd H p (.lst (ws.map V.str)) = H1 at s1 hp1 tg1 tg21 ⊢
    refine ⟨_, rfl, p, _, rfl, .inl (SqL.of hp1), _, _, rfl, rfl, _, rfl, ?_⟩
    by_cases h3 : ws.length < 3
    · rw [decide_eq_true (show (((ws.map V.str).length : Nat) : Int) < 3 by rw [List.length_map]; omega)]
      rw [readW_short h3] at k
      exact iteT (k .non H1 s1 .non)
    rw [decide_eq_false (show ¬ (((ws.map V.str).length : Nat) : Int) < 3 by rw [List.length_map]; omega)]
    refine iteF ?_
    obtain ⟨n, kd, t, rest, rfl⟩ : ∃ n kd t rest, ws = n :: kd :: t :: rest := by
      match ws, h3 with
      | [], h => exact absurd (show 0 < 3 by decide) h
      | [_], h => exact absurd (show 1 < 3 by decide) h
      | [_, _], h => exact absurd (show 2 < 3 by decide) h
      | a :: b :: c :: r, _ => exact ⟨a, b, c, r, rfl⟩
    have hp1' : H1 p = some (.lst (V.str n :: V.str kd :: V.str t :: rest.map V.str)) := hp1
    have big : ∀ {m : Nat}, m ≤ 50000 → m ≤ sizeLine := fun h => Nat.le_trans h (by decide)
    refine ⟨_, rfl, p, _, 0, _, rfl, rfl, SqL.of hp1', atI_nat (j := 0) rfl, _, rfl, p, _, 1, _, rfl, rfl, SqL.of hp1', atI_nat (j := 1) rfl, _, rfl, p, _, 2, _, rfl, rfl, SqL.of hp1', atI_nat (j := 2) rfl, t, rfl, big (wsm t (by simp)), tg21, fun H2 s2 => ?_⟩
    refine ⟨(by show 2 ≤ sizeLine; decide), fun q nq => ?_⟩
    have s3 := same_new (o := .tup [V.str kd, optV (numD t)]) nq
    have s23 := s2.trans s3
    refine ⟨_, rfl, _, rfl, ?_⟩
    dsimp only [tNoPart]
    refine ⟨p, _, rfl, SqL.of (s23.at hp1'), fun r nr => ?_⟩
    rw [cut3]
    have s4 := same_new (o := .lst (rest.map V.str)) nr
    refine ⟨r, rest, rfl, SqL.of upd_same, fun y hy => big (wsm y (by simp [hy])), s4.tab T2 (s23.tab T2 tg21), fun H5 s5 => ?_⟩
    have s45 := s4.trans s5
    refine ⟨(by show 3 ≤ sizeLine; decide), fun z nz => ?_⟩
    have s6 := same_new (o := .tup [V.str n, .ref q, optV (entryW rest)]) nz
    have hq6 := (s45.trans s6).at (upd_same (H := H2) (a := q) (o := .tup [V.str kd, optV (numD t)]))
    have ql : q ≠ l := ne_has (s2.has l (s1.has l hl)) nq
    have zl : z ≠ l := ne_has ((s23.trans s45).has l (s1.has l hl)) nz
    have dz' : Dp K (Off l (upd H5 z (.tup [.str n, .ref q, optV (entryW rest)]))) (.ref z) (jobW (n :: kd :: t :: rest)) :=
      .tup (SqT.of (by rw [off_ne zl, upd_same])) (.cons (.str n) (.cons (.tup (SqT.of (by rw [off_ne ql]; exact hq6)) (.cons (.str kd) (.cons (dp_opt _) .nil))) (.cons (dp_opt _) .nil)))
    have dz := dp_same (off_sub l _) dz'
    have sAll := (s23.trans s45).trans s6
    have nice : niceJob (jobW (n :: kd :: t :: rest)) := ⟨Nat.le_trans (wsm n (by simp)) (by decide), rfl⟩
    refine ⟨_, rfl, .ref z, _, rfl, dz, nice, sAll.tab T tg1, fun H7 s7 => ?_⟩
    refine ⟨_, rfl, ?_⟩
    have e : readW (n :: kd :: t :: rest) = if jobD (jobW (n :: kd :: t :: rest)) = true then jobW (n :: kd :: t :: rest) else .none := rfl
    rw [e] at k
    cases jd : jobD (jobW (n :: kd :: t :: rest)) with
    | true =>
      rw [jd, if_pos rfl] at k
      exact iteT ⟨_, rfl, k _ H7 ((s1.trans sAll).trans s7) (dp_same (off_mono s7) dz')⟩
    | false =>
      rw [jd, if_neg Bool.false_ne_true] at k
      exact iteF (k .non H7 ((s1.trans sAll).trans s7) .non)
end
end Vk
namespace Vk
open PySem PySem.Spec PyProof.Rows L2 GxR
abbrev sTextInit : Stmt := inClass (top 9) 0
def linesOf (tx : Str) : List Str := if tx.length = 0 then [] else Txt.split tx "\n"
def dsOf (tx : Str) : List PyData := (linesOf tx).map readD
def isN : PyData → Bool
  | .none => true
  | _ => false
def noAt (ds : List PyData) (i : Nat) : Bool := match ds[i]? with
  | some d => isN d
  | none => false
def rowPlace (ds : List PyData) : Option Nat := (List.range ds.length).find? (noAt ds)
theorem lines_wt (tx : Str) : wt (linesOf tx) ≤ tx.length + 1 := by
  unfold linesOf
  by_cases h : tx.length = 0
  · rw [if_pos h]
    exact Nat.zero_le _
  · rw [if_neg h]
    exact split_nl tx
theorem ds_or {tx : Str} {d : PyData} (h : d ∈ dsOf tx) : d = .none ∨ jobD d = true := by
  obtain ⟨ln, _, rfl⟩ := List.mem_map.mp h
  exact readW_or _
theorem ds_all {tx : Str} (h : ∀ j < (dsOf tx).length, noAt (dsOf tx) j = false) : ∀ d ∈ dsOf tx, jobD d = true := fun d hd => by
  rcases ds_or hd with rfl | z
  · obtain ⟨j, hj, e⟩ := List.getElem_of_mem hd
    have z := h j hj
    unfold noAt at z
    rw [List.getElem?_eq_getElem hj, e] at z
    cases z
  · exact z
theorem row_all {tx : Str} (h : rowPlace (dsOf tx) = none) : ∀ d ∈ dsOf tx, jobD d = true := ds_all fun j hj => by
  have z := List.find?_eq_none.mp h j (List.mem_range.mpr hj)
  exact Bool.eq_false_iff.mpr z
section
variable {P : Program} {w : World} {K : PySem.W.Frag} {mg : Str → Option Value} {base : Heap}
theorem scTextInit : FnScope ["self", "row"] ["self", "row"] (defScope sTextInit) := ⟨rfl, rfl, rfl, by decide +kernel, rfl, by decide +kernel, by decide +kernel⟩
theorem ok_textInit {C fI : Addr} {fd : FuncData} (F : Fun K "__init__" "NoText.__init__" sTextInit fI fd) (T : OexC K C) (no : PySem.W.findIn K (.ref C) "row" = some none) : FnOk P w K mg base CX0 1 fI fd ["self", "row"] (spIni C "row") := by
  refine F.ok scTextInit (fun vs H Q E h => ?_) (fun cdv A outer s H vs Q E hr h => ?_)
  · obtain ⟨a, v, rfl, _⟩ := h
    rfl
  · obtain ⟨a, v, rfl, ha, k⟩ := h
    refine ⟨_, pss_one (ps_ost (pv 0) (pv 1)), ?_⟩
    exact ⟨_, rfl, _, rfl, a, C, rfl, T, no, .inl ⟨ha, fun dx n1 n2 => k dx n1 n2⟩⟩
theorem erc_text {C : Addr} (g : mg "NoText" = some (.ref C)) (T : OexC K C) (no : PySem.W.findIn K (.ref C) "row" = some none) (N : Nit K "NoText" "NoText.__init__" "row" sTextInit C) : ErC P w K mg base "NoText" "row" C := by
  obtain ⟨fI, fd, h1, h2, h3, h4⟩ := N.ex
  exact ⟨g, T, fI, fd, h1, h2, h4, ok_textInit h3 T no⟩
def spReadJobs (K : PySem.W.Frag) (T T2 C Ct : Addr) : Sp := fun vs H Q E => ∃ (tx : Str), vs = [.str tx] ∧ tx.length ≤ 49999 ∧ TabG H T ∧ TabG H T2 ∧
  (∀ i, rowPlace (dsOf tx) = some i → ∀ (dx : Addr) (H' : Hp), Same H H' → H' dx = some (.xd [(("row" : Str), .int (i : Int))]) → E (.ref Ct) (some dx) H') ∧
  (rowPlace (dsOf tx) = none → jobsPlace (.tuple (dsOf tx)) = none → ∀ v H', Same H H' → Dp K H' v (.tuple (dsOf tx)) → Q v H') ∧
  (rowPlace (dsOf tx) = none → ∀ i, jobsPlace (.tuple (dsOf tx)) = some i → ∀ (dx : Addr) (H' : Hp), Same H H' → H' dx = some (.xd [(("place" : Str), .int i)]) → E (.ref C) (some dx) H')
theorem scReadJobs : FnScope ["text", "lines", "jobs", "row", "line", "job"] ["text"] (defScope sReadJobs) := ⟨rfl, rfl, rfl, by decide +kernel, rfl, by decide +kernel, by decide +kernel⟩
theorem ok_readJobs {T T2 C Ct : Addr} (D : Df K mg "read_jobs" sReadJobs ["text"]) (B : Blt mg) (ER : ErC P w K mg base "NoText" "row" Ct) (CH : Cl P w K mg base (L2.CX P w) 5 "check_jobs" ["jobs"] (spCheck K T C)) (RJ : Cl P w K mg base CX0 4 "read_job" ["line"] (spReadJob K T T2)) : Cl P w K mg base (L2.CX P w) 6 "read_jobs" ["text"] (spReadJobs K T T2 C Ct) := by
  refine clX D scReadJobs (fun vs H Q E h => ?_) (fun f cdv A outer s H vs Q E hr h => ?_)
  · obtain ⟨js, rfl, _⟩ := h
    rfl
  · obtain ⟨tx, rfl, ltx, tg, tg2, kR, kN, kE⟩ := h
    obtain ⟨fE, fdE, mE, kpE, bE, FE⟩ := CH.ex
    refine ⟨_, pss_cons (ps_set (i := 1) scReadJobs.nd rfl (Or.inl rfl) (pe_ifExp (pt_truth (pv 0) (by intro _; rfl)) (pe_split (pv 0) pe_str) (pe_lst pa_nil)))
      (pss_cons (ps_set (i := 2) scReadJobs.nd rfl (Or.inl rfl) (pe_lst pa_nil))
      (pss_cons (ps_for (passes_of rfl) rfl (pi_enum (by rfl) B.enum (pa_cons (pv 1) pa_nil)) (pg_tup rfl (pgs_cons (pg_name (i := 3) scReadJobs.nd rfl (.inl rfl)) (pgs_cons (pg_name (i := 4) scReadJobs.nd rfl (.inl rfl)) pgs_nil)))
        (pss_cons (ps_set (i := 5) scReadJobs.nd rfl (Or.inl rfl) (pc RJ hr (by decide) (pa_cons (pv 4) pa_nil)))
        (pss_cons (ps_if (pt_cmpR op_isN (pv 5) pe_non (nomark _)) (pss_one (ps_raiseE ER rfl hr (by decide) (takes_of rfl rfl rfl rfl) (pv 3))) pss_nil)
        (pss_one (ps_expr (pe_bm PySem.F.plainAttrs_list PySem.F.slot_list_append PySem.F.type_list_append mt_append (pv 2) (pa_cons (pv 5) pa_nil)))))))
      (pss_cons (ps_expr (pe_call (E := E) FE hr rfl mE kpE bE .nil (passes_call (W := fun cls d _ H => E cls d H) (takes_of rfl rfl rfl rfl) (fun _ _ _ _ h => h)) (pa_cons (pe_callTy call_tuple_of (by rfl) B.tuple (by decide +kernel) (pa_cons (pv 2) pa_nil)) pa_nil)))
      (pss_one (ps_ret (pe_callTy call_tuple_of (by rfl) B.tuple (by decide +kernel) (pa_cons (pv 2) pa_nil))))))), ?_⟩
    have lw := lines_wt tx
    have ll_ := wt_len (linesOf tx)
    have dl : (dsOf tx).length = (linesOf tx).length := List.length_map ..
    apply cutR (α := L2.St → Hp → Prop) (F := fun R => ∀ (ll : Addr) (H1 : Hp), Same H H1 → H1 ll = some (.lst ((linesOf tx).map V.str)) → R [some (.str tx), some (.ref ll), none, none, none, none] H1)
    · intro cont
      refine ⟨_, rfl, _, ⟨Nat.le_trans ltx (by decide), rfl⟩, ?_⟩
      unfold linesOf at cont
      by_cases e0 : tx.length = 0
      · rw [if_pos e0] at cont
        rw [show (((tx.length : Nat) : Int) != 0) = false from by rw [e0]; rfl]
        exact iteF ⟨(by show 0 ≤ sizeLine; decide), fun ll nll => cont ll _ (same_new nll) upd_same⟩
      · rw [if_neg e0] at cont
        rw [show (((tx.length : Nat) : Int) != 0) = true from by simp [e0]]
        exact iteT ⟨_, rfl, ⟨_, rfl⟩, _, _, rfl, rfl, by decide +kernel, Nat.le_trans (show _ + 2 ≤ 50001 by omega) (by decide), fun ll nll => cont ll _ (same_new nll) upd_same⟩
    intro ll H1 s1 hll
    refine ⟨(by show 0 ≤ sizeLine; decide), fun lj nlj => ?_⟩
    have llj : ll ≠ lj := fun e => by rw [← e, hll] at nlj; cases nlj
    have s2 := same_new (o := .lst []) nlj
    refine ⟨_, rfl, ll, _, rfl, SqL.of (s2.at hll), for_it (walk_enum (K := K) (a := ll) (xs := (linesOf tx).map V.str)) (fun i σ G => ∃ (u3 u4 u5 : Option V) (vs : List V), σ = [some (.str tx), some (.ref ll), some (.ref lj), u3, u4, u5] ∧ Same H1 (Off lj G) ∧ G lj = some (.lst vs) ∧ DpAll K (Off lj G) vs ((dsOf tx).take i) ∧ ∀ j < i, noAt (dsOf tx) j = false)
      ⟨_, _, _, [], rfl, by rw [off_upd, off_none nlj]; exact Same.refl H1, upd_same, .nil, fun j hj => absurd hj (Nat.not_lt_zero _)⟩ (fun i σ G _ ⟨_, _, _, _, _, s, _⟩ => SqL.of ((s.trans (off_sub lj G)).at hll)) ?_ ?_⟩
    · rintro i v1 σ G G2 hi ⟨u3, u4, u5, vs, rfl, sG, hG, dG, ok⟩ ⟨TT, x1, y1, rfl, nT, rfl, ex, ey⟩
      cases ex
      rw [List.length_map] at hi
      replace ey : ((linesOf tx).map V.str)[i]? = some y1 := ey
      rw [List.getElem?_map] at ey
      obtain ⟨ln, hln, rfl⟩ := Option.map_eq_some_iff.mp ey
      have hd : (dsOf tx)[i]? = some (readD ln) := by
        unfold dsOf
        rw [List.getElem?_map, hln]
        rfl
      have lln : ln.length ≤ 50000 := by
        have z := wt_mem (List.mem_of_getElem? hln)
        omega
      have s3 := same_new (o := .tup [V.int (i : Nat), V.str ln]) nT
      have sg3 := (sG.trans (off_sub lj G)).trans s3
      have hG3 := s3.at hG
      refine ⟨TT, _, rfl, SqT.of upd_same, rfl, _, _, rfl, _, _, rfl, rfl, ?_⟩
      refine ⟨_, rfl, ln, lj, rfl, lln, has_of hG3, sg3.tab T (s1.tab T tg), sg3.tab T2 (s1.tab T2 tg2), fun v H4 s4 dv => ?_⟩
      have nAt : noAt (dsOf tx) i = isN (readD ln) := by
        unfold noAt
        rw [hd]
      have vl := dps_len dG
      rw [List.length_take] at vl
      have hG4 := s4.at hG3
      rcases readW_or (Txt.split ln " ") with e | e
      · have e' : readD ln = .none := e
        rw [e'] at dv nAt
        have ev := dp_none dv
        subst ev
        refine ⟨_, rfl, rfl, _, rfl, iteT ⟨_, rfl, ?_⟩⟩
        refine raise_go fun dx H5 s5 _ hx => kR i ?_ dx H5 (((s1.trans sg3).trans s4).trans s5) hx
        exact find_at (by rw [dl]; exact hi) nAt ok
      · have e' : jobD (readD ln) = true := e
        obtain ⟨pv, rfl⟩ : ∃ p, v = .ref p := by
          obtain ⟨n, k, t, e, e2, _⟩ := job_parts e'
          rw [e2] at dv
          obtain ⟨p, _, _, _, e, _⟩ := dp_three dv
          exact ⟨p, e⟩
        refine ⟨_, rfl, rfl, _, rfl, iteF ?_⟩
        refine ⟨_, rfl, .inl ⟨rfl, _, SqL.of hG4⟩, _, rfl, lj, _, _, rfl, rfl, hG4, Nat.lt_of_le_of_lt (show vs.length ≤ 50000 by omega) (by decide), _, _, _, vs ++ [.ref pv], rfl, ?_, upd_same, ?_, fun j hj => ?_⟩
        · rw [off_upd]
          exact (sG.trans (off_mono s3)).trans (off_mono s4)
        · rw [off_upd, List.take_add_one, hd]
          exact dps_app (dps_same (off_mono (s3.trans s4)) dG) (.cons dv .nil)
        · by_cases z : j = i
          · subst z
            rw [nAt]
            obtain ⟨n, k, t, e, e2, _⟩ := job_parts e'
            rw [e2]
            rfl
          · exact ok j (by omega)
    · rintro σ G ⟨u3, u4, u5, vs, rfl, sG, hG, dG, ok⟩
      rw [List.length_map, ← dl] at ok
      rw [List.length_map, ← dl, List.take_length] at dG
      have all := ds_all ok
      have rp : rowPlace (dsOf tx) = none := find_no ok
      have dG1 := dps_same (off_sub lj G) dG
      have sg := sG.trans (off_sub lj G)
      refine ⟨_, rfl, lj, vs, rfl, .inl ⟨SqL.of hG, fun tp ntp => ?_⟩⟩
      have s5 := same_new (o := .tup vs) ntp
      have d5 : Dp K (upd G tp (.tup vs)) (.ref tp) (.tuple (dsOf tx)) := .tup (SqT.of upd_same) (dps_same s5 dG1)
      refine ⟨.ref tp, _, rfl, d5, ⟨fun d hd => nice_of (all d hd), by omega⟩, (sg.trans s5).tab T (s1.tab T tg), fun pn H6 s6 => ?_, fun i e dx H6 s6 hx => kE rp i e dx H6 (((s1.trans sg).trans s5).trans s6) hx⟩
      have hG6 := s6.at (s5.at hG)
      refine ⟨_, rfl, lj, vs, rfl, .inl ⟨SqL.of hG6, fun tq ntq => ?_⟩⟩
      have s7 := same_new (o := .tup vs) ntq
      exact kN rp pn (.ref tq) _ ((((s1.trans sg).trans s5).trans s6).trans s7) (.tup (SqT.of upd_same) (dps_same ((s5.trans s6).trans s7) dG1))
end
end Vk
namespace Vk
open PySem PySem.Spec PyProof.Rows L2 GxR
def d09 : Str := "0123456789"
theorem d09_list : d09.cps.toList = List.range' 48 10 := by decide +kernel
theorem mem_d09 (c : Nat) : decide (c ∈ d09.cps.toList) = between "0" "9" c := by
  rw [between_09, d09_list]
  congr 1
  rw [List.mem_range'_1]
  exact propext ⟨fun h => by omega, fun h => by omega⟩
section
variable {P : Program} {w : World} {K : PySem.W.Frag} {mg : Str → Option Value} {base : Heap}
def spNumL : Sp := fun vs H Q _ => ∃ (s : Str), vs = [.str s] ∧ s.length ≤ sizeLine ∧ ∀ H', Same H H' → Q (optV (numD s)) H'
theorem scNumberL : FnScope ["word", "char"] ["word"] (defScope sNumberL) := ⟨rfl, rfl, rfl, by decide +kernel, rfl, by decide +kernel, by decide +kernel⟩
theorem ok_numberL (D : Df K mg "_law_number" sNumberL ["word"]) (B : Blt mg) : Cl P w K mg base CX0 1 "_law_number" ["word"] spNumL := by
  refine cl0 D scNumberL (fun vs H Q E h => ?_) (fun f cdv A outer s H vs Q E hr h => ?_)
  · obtain ⟨x, rfl, _⟩ := h
    rfl
  · obtain ⟨x, rfl, sm, k⟩ := h
    refine ⟨_, pss_cons (ps_if (PW.pt (pw_or (pt_not (pt_chain op_le op_le pe_int (pe_callB call_len (by rfl) B.len PySem.boot_len (pa_cons (pv 0) pa_nil)) pe_int))
        (pw_or1 (pt_cmpR (op_neNilL (Nat.lt_of_succ_lt (hu_of hr))) (pe_lc (own := [("char", 1)]) (g := gName 1) (tt := tTest (tOp (fun x y H Q => ∃ (c : Nat) (z : Str), x = .str ⟨#[c]⟩ ∧ y = .str z ∧ Q (.bl (!decide (c ∈ z.cps.toList))) H) (tVar 1) (tC (.str d09)))) (te := tVar 1) (by rfl) scNumberL.nd (pi_str (pv 0))
          (blkOk_by (own := [("char", 1)]) (N := ["word", "char"]) (sc := defScope sNumberL) (by decide +kernel)) (fun _ _ _ _ _ => pg_name (i := 1) scNumberL.nd rfl (Or.inl rfl)) (fun _ _ _ _ _ => pts_one (pt_cmpR op_notIn_sign (pv 1) pe_str (by rfl))) (fun _ _ _ _ _ => pv 1))
          (pe_lst pa_nil) (nomark _))))) (pss_one (ps_ret pe_non)) pss_nil)
      (pss_cons (ps_if (PW.pt (pw_and (pt_cmpR op_eq (pe_ix ix_str (pv 0) pe_int (fun _ _ => rfl)) pe_str (nomark _)) (pw_and1 (pt_cmpR op_ne (pv 0) pe_str (nomark _))))) (pss_one (ps_ret pe_non)) pss_nil)
      (pss_one (ps_ret (pe_callTy call_int_str (by rfl) B.int (by decide +kernel) (pa_cons (pv 0) pa_nil))))), ?_⟩
    have no : okNum x = false → ∀ H', Same H H' → Q .non H' := fun h H' s1 => by
      have z := k H' s1
      unfold numD at z
      rw [h] at z
      exact z
    refine ⟨_, rfl, .str x, x.length, rfl, ⟨sm, rfl⟩, _, _, rfl, rfl, _, rfl, ?_⟩
    refine ite2 (fun z1 => ?_) (fun z1 => ?_)
    case refine_2 =>
      have z2 : ¬ 1 ≤ x.length := fun y => z1 (decide_eq_true (by omega))
      refine ⟨_, rfl, iteT (iteT (no ?_ H (Same.refl H)))⟩
      unfold okNum
      rw [decide_eq_false z2]
      rfl
    have z2 : (1 : Int) ≤ (x.length : Nat) := of_decide_eq_true z1
    have e1 : decide (1 ≤ x.length) = true := decide_eq_true (by omega)
    refine ⟨_, _, rfl, rfl, _, rfl, ?_⟩
    by_cases z3 : x.length ≤ 31
    case neg =>
      rw [decide_eq_false (show ¬ ((x.length : Nat) : Int) ≤ 31 by omega)]
      refine iteT (iteT (no ?_ H (Same.refl H)))
      unfold okNum
      rw [decide_eq_false z3, Bool.false_and, Bool.and_false]
    rw [decide_eq_true (show ((x.length : Nat) : Int) ≤ 31 by omega)]
    refine iteF ⟨_, rfl, x, rfl, fun D0 nD => ?_⟩
    refine lc_it (walk_str (z := x)) (fun m Hc => ∃ acc, Same H Hc ∧ Hc D0 = some (.lst acc) ∧ acc.length ≤ m ∧ (acc = [] ↔ ∀ c ∈ x.cps.toList.take m, between "0" "9" c = true))
      ⟨[], same_new nD, upd_same, Nat.le_refl _, Iff.intro (fun _ c hc => absurd hc (by simp)) (fun _ => rfl)⟩ (fun _ _ _ _ => True.intro) ?_ ?_
    · rintro m y1 Hc0 Hc hm ⟨acc, s1, hD, hacc, iff⟩ ⟨rfl, c, hc, rfl⟩
      have hc2 : x.cps.toList[m]? = some c := by rw [Array.getElem?_toList]; exact hc
      have tk : x.cps.toList.take (m + 1) = x.cps.toList.take m ++ [c] := by
        rw [List.take_add_one, hc2]
        rfl
      have hm8 : m ≤ 31 := by
        have z : x.cps.size = x.length := rfl
        omega
      refine ⟨rfl, _, rfl, c, d09, rfl, rfl, _, rfl, ?_⟩
      rw [mem_d09]
      cases hb : between "0" "9" c with
      | true =>
        refine iteF ⟨acc, s1, hD, by omega, ?_⟩
        rw [iff, tk]
        refine Iff.intro (fun h x hx => ?_) (fun h x hx => h x (List.mem_append_left _ hx))
        rcases List.mem_append.mp hx with hx | hx
        · exact h x hx
        · rw [List.mem_singleton.mp hx]
          exact hb
      | false =>
        refine iteT ⟨_, rfl, acc, hD, Nat.lt_of_le_of_lt hacc (Nat.lt_of_le_of_lt hm8 (by decide)), acc ++ [.str ⟨#[c]⟩], same_put s1 nD, upd_same, by rw [List.length_append, List.length_singleton]; omega, ?_⟩
        refine Iff.intro (fun h => absurd h (by simp)) (fun h => ?_)
        have z := h c (by rw [tk]; simp)
        rw [hb] at z
        cases z
    · rintro Hc ⟨acc, s1, hD, hacc, iff⟩
      have full : x.cps.toList.take x.cps.size = x.cps.toList := List.take_of_length_le (by simp)
      rw [full] at iff
      refine ⟨(by show 0 ≤ sizeLine; decide), fun e9 ne9 => ?_⟩
      have s2 := s1.trans (same_new (o := .lst []) ne9)
      refine ⟨D0, e9, acc, rfl, rfl, SqL.of ((same_new ne9).at hD), SqL.of upd_same, _, rfl, ?_⟩
      cases acc with
      | cons q1 q2 =>
        refine iteT (no ?_ _ s2)
        have z : x.cps.toList.all (between "0" "9") = false := by
          refine Bool.eq_false_iff.mpr fun h => ?_
          have y := iff.mpr (List.all_eq_true.mp h)
          cases y
        unfold okNum
        rw [z, Bool.false_and, Bool.and_false, Bool.and_false]
      | nil =>
        have ha : x.cps.toList.all (between "0" "9") = true := List.all_eq_true.mpr (iff.mp rfl)
        obtain ⟨n, hn⟩ := num_some (by omega) z3 ha
        have o : okNum x = (decide (x = "0") || !decide (x.cps.toList.head? = some 48)) := by
          unfold okNum
          rw [e1, decide_eq_true z3, ha]
          rfl
        generalize upd Hc e9 (.lst []) = H2 at s2 ⊢
        have yes : (decide (x = "0") || !decide (x.cps.toList.head? = some 48)) = true → ∃ a n, [V.str x] = [V.str a] ∧ intText? a = some n ∧ a.length ≤ 640 ∧ Q (.int n) H2 := fun h => by
          refine ⟨x, n, rfl, hn, by omega, ?_⟩
          have z := k H2 s2
          unfold numD at z
          rw [o, h, hn] at z
          exact z
        have hp : 0 < x.cps.toList.length := by
          rw [Array.length_toList]
          exact (show 1 ≤ x.length by omega)
        have hat : atI x.cps.toList 0 = some (x.cps.toList[0]'hp) := atI_nat (j := 0) (List.getElem?_eq_getElem hp)
        have hd : x.cps.toList.head? = some (x.cps.toList[0]'hp) := by
          rw [List.head?_eq_getElem?, List.getElem?_eq_getElem hp]
        generalize x.cps.toList[0]'hp = c0 at hat hd
        refine iteF ⟨_, rfl, x, 0, c0, rfl, rfl, sm, hat, rfl, _, rfl, ?_⟩
        have e0 : decide (V.str (⟨#[c0]⟩ : Str) = V.str ("0" : Str)) = decide (x.cps.toList.head? = some 48) := by
          rw [hd]
          by_cases h : c0 = 48
          · subst h
            rw [decide_eq_true (show some 48 = some 48 from rfl)]
            decide +kernel
          · rw [decide_eq_false (fun z => h (Option.some.inj z)), decide_eq_false (fun z => h ?_)]
            have q := congrArg (fun s : Str => s.cps.toList) (V.str.inj z)
            have q2 : [c0] = [48] := q.trans (by decide +kernel)
            exact (List.cons.inj q2).1
        rw [e0]
        cases h4 : decide (x.cps.toList.head? = some 48) with
        | false => exact iteF (iteF ⟨_, rfl, yes (by rw [h4]; simp)⟩)
        | true =>
          refine iteT ⟨_, rfl, rfl, _, rfl, ?_⟩
          rw [eq_strV]
          cases h0 : decide (x = "0") with
          | true => exact iteF ⟨_, rfl, yes (by rw [h0]; rfl)⟩
          | false =>
            refine iteT (no ?_ H2 s2)
            rw [o, h0, h4]
            rfl
end
end Vk
namespace Vk
open PySem PySem.Spec PyProof.Rows L2 GxR
theorem eq_sym_str (s x : Str) : (s == x) = decide (x = s) := by
  rw [BEq.comm, Bool.eq_iff_iff]
  simp
theorem inV_at (k : Str) : inV (.str k) [.str ("at" : Str), .str ("after" : Str)] = (decide (k = "at") || decide (k = "after")) := by
  show (("at" : Str) == k || (("after" : Str) == k || false)) = _
  rw [Bool.or_false, eq_sym_str, eq_sym_str]
theorem inV_35 (n : Nat) : inV (.int (n : Int)) [.int 3, .int 5] = (decide (n = 3) || decide (n = 5)) := by
  show ((3 : Int) == (n : Int) || ((5 : Int) == (n : Int) || false)) = _
  rw [Bool.or_false]
  rw [Bool.eq_iff_iff]
  simp
  omega
theorem jobD_eq (a k : Str) (x e : PyData) : jobD (.tuple [.str a, .tuple [.str k, x], e]) = (nameD (.str a) && ((if atS "at" (.str k) = true then integerD 0 x else (atS "after" (.str k) && integerD 1 x)) && (integerD 0 e && le9 e))) := rfl
theorem readW_not {ws : List Str} (h : jobD (jobW ws) = false) : readW ws = .none := by
  unfold readW
  rw [h, if_neg Bool.false_ne_true]
theorem readW_noE {a k n : Str} {r : List Str} (h : entryW r = none) : readW (a :: k :: n :: r) = .none := readW_not (by
  show jobD (.tuple [.str a, .tuple [.str k, optD (numD n)], optD (entryW r)]) = false
  rw [h, jobD_eq]
  show (_ && (_ && (false && _))) = false
  rw [Bool.false_and, Bool.and_false, Bool.and_false])
theorem readW_noN {a k n : Str} {r : List Str} (h : numD n = none) : readW (a :: k :: n :: r) = .none := readW_not (by
  show jobD (.tuple [.str a, .tuple [.str k, optD (numD n)], optD (entryW r)]) = false
  rw [h, jobD_eq]
  show (_ && ((if atS "at" (.str k) = true then false else (atS "after" (.str k) && false)) && _)) = false
  rw [Bool.and_false, ite_self, Bool.false_and, Bool.and_false])
theorem readW_noK {a k n : Str} {r : List Str} (h : (decide (k = "at") || decide (k = "after")) = false) : readW (a :: k :: n :: r) = .none := readW_not (by
  show jobD (.tuple [.str a, .tuple [.str k, optD (numD n)], optD (entryW r)]) = false
  obtain ⟨h1, h2⟩ := Bool.or_eq_false_iff.mp h
  rw [jobD_eq, show atS "at" (.str k) = false from h1, show atS "after" (.str k) = false from h2, if_neg Bool.false_ne_true, Bool.false_and, Bool.false_and, Bool.and_false])
theorem readW_len {ws : List Str} (h : (decide (ws.length = 3) || decide (ws.length = 5)) = false) : readW ws = .none := by
  match ws, h with
  | [], _ => rfl
  | [_], _ => rfl
  | [_, _], _ => rfl
  | [_, _, _], h => cases h
  | [a, k, n, e], _ =>
    refine readW_noE ?_
    show (if e = "entry" then (none : Option Int) else none) = none
    rw [ite_self]
  | [_, _, _, _, _], h => cases h
  | a :: k :: n :: e :: m :: o :: r, _ =>
    refine readW_noE ?_
    show (if e = "entry" then (none : Option Int) else none) = none
    rw [ite_self]
section
variable {P : Program} {w : World} {K : PySem.W.Frag} {mg : Str → Option Value} {base : Heap}
def spReadL (K : PySem.W.Frag) : Sp := fun vs H Q _ => ∃ (x : Str) (l : Addr), vs = [.str x] ∧ x.length ≤ 50000 ∧ H l ≠ none ∧ ∀ v H', Same H H' → Dp K (Off l H') v (readD x) → Q v H'
theorem scReadL : FnScope ["line", "words", "number", "door", "job"] ["line"] (defScope sReadL) := ⟨rfl, rfl, rfl, by decide +kernel, rfl, by decide +kernel, by decide +kernel⟩
theorem ok_readL (D : Df K mg "_law_read" sReadL ["line"]) (B : Blt mg) (N : Cl P w K mg base CX0 1 "_law_number" ["word"] spNumL) (J : Cl P w K mg base CX0 2 "_law_is_job" ["job"] (spIsJobL K)) :
    Cl P w K mg base CX0 3 "_law_read" ["line"] (spReadL K) := by
  refine cl0 D scReadL (fun vs H Q E h => ?_) (fun f cdv A outer s H vs Q E hr h => ?_)
  · obtain ⟨d, l, rfl, _⟩ := h
    rfl
  · obtain ⟨x, l, rfl, lx, hl, k⟩ := h
    refine ⟨_, pss_cons (ps_set (i := 1) scReadL.nd rfl (Or.inl rfl) (pe_split (pv 0) pe_str))
      (pss_cons (ps_if (PW.pt (pw_or (pt_cmpR op_notIn_seq (pe_callB call_len_seq (by rfl) B.len PySem.boot_len (pa_cons (pv 1) pa_nil)) (pe_tup (pa_cons pe_int (pa_cons pe_int pa_nil))) (by rfl))
          (pw_or1 (pt_cmpR op_notIn_seq (pe_ix ix_list (pv 1) pe_int (fun _ _ => rfl)) (pe_tup (pa_cons pe_str (pa_cons pe_str pa_nil))) (by rfl))))) (pss_one (ps_ret pe_non)) pss_nil)
      (pss_cons (ps_set (i := 2) scReadL.nd rfl (Or.inl rfl) (pc N hr (by decide) (pa_cons (pe_ix ix_list (pv 1) pe_int (fun _ _ => rfl)) pa_nil)))
      (pss_cons (ps_set (i := 3) scReadL.nd rfl (Or.inl rfl) pe_int)
      (pss_cons (ps_if (pt_cmpR op_eq (pe_callB call_len_seq (by rfl) B.len PySem.boot_len (pa_cons (pv 1) pa_nil)) pe_int (nomark _))
        (pss_cons (ps_set (i := 3) scReadL.nd rfl (Or.inl rfl) (pc N hr (by decide) (pa_cons (pe_ix ix_list (pv 1) pe_int (fun _ _ => rfl)) pa_nil)))
        (pss_one (ps_if (PW.pt (pw_or (pt_cmpR op_ne (pe_ix ix_list (pv 1) pe_int (fun _ _ => rfl)) pe_str (nomark _)) (pw_or (pt_cmpR op_isN (pv 3) pe_non (nomark _)) (pw_or1 (pt_cmpR op_eq (pv 3) pe_int (nomark _)))))) (pss_one (ps_ret pe_non)) pss_nil))) pss_nil)
      (pss_cons (ps_set (i := 4) scReadL.nd rfl (Or.inl rfl) (pe_tup (pa_cons (pe_ix ix_list (pv 1) pe_int (fun _ _ => rfl)) (pa_cons (pe_tup (pa_cons (pe_ix ix_list (pv 1) pe_int (fun _ _ => rfl)) (pa_cons (pv 2) pa_nil))) (pa_cons (pv 3) pa_nil)))))
      (pss_one (ps_ret (pe_ifExp (PW.pt (pw_and (pt_cmpR op_notN (pv 2) pe_non (nomark _)) (pw_and1 (pt_val (pc J hr (by decide) (pa_cons (pv 4) pa_nil)))))) (pv 4) pe_non)))))))), ?_⟩
    refine ⟨_, rfl, ⟨_, rfl⟩, _, " ", rfl, rfl, by decide +kernel, Nat.le_trans (show _ + 2 ≤ 50002 by omega) (by decide), fun p np => ?_⟩
    have wsm : ∀ y ∈ Txt.split x " ", y.length ≤ 50000 := fun y hy => by
      have z1 := wt_mem hy
      have z2 := split_sp x
      omega
    unfold readD at k
    generalize Txt.split x " " = ws at wsm k ⊢
    have s1 := same_new (o := .lst (ws.map V.str)) np
    have hp1 : upd H p (.lst (ws.map V.str)) p = some (.lst (ws.map V.str)) := upd_same
    generalize upd H p (.lst (ws.map V.str)) = H1 at s1 hp1 ⊢
    refine ⟨_, rfl, p, _, rfl, .inl (SqL.of hp1), (by show 2 ≤ sizeLine; decide), fun t1 nt1 => ?_⟩
    have s2 := same_new (o := .tup [V.int 3, V.int 5]) nt1
    refine ⟨t1, _, rfl, .inr (SqT.of upd_same), rfl, rfl, _, rfl, ?_⟩
    show if (!inV (.int ((ws.map V.str).length : Nat)) [.int 3, .int 5]) = true then _ else _
    rw [List.length_map, inV_35]
    cases h35 : (decide (ws.length = 3) || decide (ws.length = 5)) with
    | false =>
      rw [readW_len h35] at k
      exact iteT (iteT (k .non _ (s1.trans s2) .non))
    | true =>
    refine iteF ?_
    obtain ⟨a, kd, n, r, rfl⟩ : ∃ a kd n r, ws = a :: kd :: n :: r := by
      match ws, h35 with
      | [], h => cases h
      | [_], h => cases h
      | [_, _], h => cases h
      | a :: b :: c :: r, _ => exact ⟨a, b, c, r, rfl⟩
    have hp2 : upd H1 t1 (.tup [V.int 3, V.int 5]) p = some (.lst (V.str a :: V.str kd :: V.str n :: r.map V.str)) := s2.at hp1
    have s12 := s1.trans s2
    generalize upd H1 t1 (.tup [V.int 3, V.int 5]) = H2 at hp2 s12 ⊢
    refine ⟨_, rfl, p, _, 1, _, rfl, rfl, SqL.of hp2, atI_nat (j := 1) rfl, (by show 2 ≤ sizeLine; decide), fun t2 nt2 => ?_⟩
    have s3 := same_new (o := .tup [V.str ("at" : Str), V.str ("after" : Str)]) nt2
    refine ⟨t2, _, rfl, .inr (SqT.of upd_same), rfl, rfl, _, rfl, ?_⟩
    show if (!inV (.str kd) [.str ("at" : Str), .str ("after" : Str)]) = true then _ else _
    rw [inV_at]
    have s13 := s12.trans s3
    cases hk : (decide (kd = "at") || decide (kd = "after")) with
    | false =>
      rw [readW_noK hk] at k
      exact iteT (k .non _ s13 .non)
    | true =>
    have hp3 := s3.at hp2
    generalize upd H2 t2 (.tup [V.str ("at" : Str), V.str ("after" : Str)]) = H3 at hp3 s13 ⊢
    have big : ∀ {m : Nat}, m ≤ 50000 → m ≤ sizeLine := fun h => Nat.le_trans h (by decide)
    refine iteF ⟨_, rfl, p, _, 2, _, rfl, rfl, SqL.of hp3, atI_nat (j := 2) rfl, n, rfl, big (wsm n (by simp)), fun H4 s4 => ?_⟩
    have hp4 := s4.at hp3
    have s14 := s13.trans s4
    refine ⟨_, rfl, p, _, rfl, .inl (SqL.of hp4), rfl, _, rfl, ?_⟩
    -- behind the door
    apply cutR (α := L2.St → Hp → Prop) (F := fun R => ∀ (o : Option Int) (G : Hp), entryW r = o → o ≠ none → Same H4 G → R [some (.str x), some (.ref p), some (optV (numD n)), some (optV o), none] G)
    · intro cont
      have sh : r = [] ∨ ∃ e m, r = [e, m] := by
        match r, h35 with
        | [], _ => exact .inl rfl
        | [_], h => cases h
        | [e, m], _ => exact .inr ⟨e, m, rfl⟩
        | _ :: _ :: _ :: _, h => simp at h
      rcases sh with er | ⟨e, m, er⟩
      · rw [show decide (V.int (((V.str a :: V.str kd :: V.str n :: r.map V.str).length : Nat) : Int) = V.int 5) = false from by rw [er]; rfl]
        exact iteF (cont (some 0) H4 (by rw [er]; rfl) (fun z => nomatch z) (Same.refl H4))
      · rw [show decide (V.int (((V.str a :: V.str kd :: V.str n :: r.map V.str).length : Nat) : Int) = V.int 5) = true from by rw [er]; rfl]
        refine iteT ⟨_, rfl, p, _, 4, .str m, rfl, rfl, SqL.of hp4, atI_nat (j := 4) (by rw [er]; rfl), m, rfl, big (wsm m (by rw [er]; simp)), fun H5 s5 => ?_⟩
        have s15 := s14.trans s5
        refine ⟨_, rfl, p, _, 3, .str e, rfl, rfl, SqL.of (s5.at hp4), atI_nat (j := 3) (by rw [er]; rfl), rfl, _, rfl, ?_⟩
        rw [eq_strV]
        have ew : entryW r = if e = "entry" then (if numD m = some 0 then none else numD m) else none := by rw [er]; rfl
        by_cases he : e = "entry"
        · rw [decide_eq_true he]
          rw [if_pos he] at ew
          refine iteF ⟨_, rfl, rfl, _, rfl, ?_⟩
          cases hm : numD m with
          | none =>
            rw [hm] at ew
            rw [readW_noE (ew.trans rfl)] at k
            exact iteT (iteT (k .non _ s15 .non))
          | some d =>
            rw [hm] at ew
            refine iteF ⟨_, rfl, rfl, _, rfl, ?_⟩
            by_cases h0 : d = 0
            · subst h0
              rw [readW_noE (ew.trans rfl)] at k
              exact iteT (k .non _ s15 .non)
            · rw [if_neg (fun z => h0 (Option.some.inj z))] at ew
              rw [show decide (optV (some d) = V.int 0) = false from decide_eq_false (fun e => h0 (V.int.inj e))]
              exact iteF (cont (some d) H5 ew (fun z => nomatch z) s5)
        · rw [decide_eq_false he]
          rw [if_neg he] at ew
          rw [readW_noE ew] at k
          exact iteT (iteT (k .non _ s15 .non))
    intro o G eo no s5
    have hp5 := s5.at hp4
    have s15 := s14.trans s5
    have hlG := s15.has l hl
    refine ⟨_, rfl, p, _, 0, _, rfl, rfl, SqL.of hp5, atI_nat (j := 0) rfl, _, rfl, p, _, 1, _, rfl, rfl, SqL.of hp5, atI_nat (j := 1) rfl, _, rfl, (by show 2 ≤ sizeLine; decide), fun q nq => ?_⟩
    have s6 := same_new (o := .tup [V.str kd, optV (numD n)]) nq
    refine ⟨_, rfl, (by show 3 ≤ sizeLine; decide), fun z nz => ?_⟩
    have s7 := same_new (o := .tup [V.str a, .ref q, optV o]) nz
    have ql : q ≠ l := ne_has hlG nq
    have zl : z ≠ l := ne_has (s6.has l hlG) nz
    have ej : jobW (a :: kd :: n :: r) = .tuple [.str a, .tuple [.str kd, optD (numD n)], optD o] := by
      rw [← eo]
      rfl
    have dz' : Dp K (Off l (upd (upd G q (.tup [V.str kd, optV (numD n)])) z (.tup [.str a, .ref q, optV o]))) (.ref z) (jobW (a :: kd :: n :: r)) := by
      rw [ej]
      exact .tup (SqT.of (by rw [off_ne zl, upd_same])) (.cons (.str a) (.cons (.tup (SqT.of (by rw [off_ne ql]; exact s7.at upd_same)) (.cons (.str kd) (.cons (dp_opt _) .nil))) (.cons (dp_opt _) .nil)))
    have dz := dp_same (off_sub l _) dz'
    have s17 := s15.trans (s6.trans s7)
    refine ⟨_, rfl, rfl, _, rfl, ?_⟩
    cases hn : numD n with
    | none =>
      rw [readW_noN hn] at k
      rw [hn] at s17
      exact iteF (iteF (k .non _ s17 .non))
    | some nn =>
      rw [hn] at dz dz' s17
      have nice : niceJob (jobW (a :: kd :: n :: r)) := by
        rw [ej]
        exact ⟨Nat.le_trans (wsm a (by simp)) (by decide), rfl⟩
      refine iteT ⟨_, rfl, .ref z, _, rfl, dz, nice, fun H8 s8 => ⟨_, rfl, ?_⟩⟩
      have e : readW (a :: kd :: n :: r) = if jobD (jobW (a :: kd :: n :: r)) = true then jobW (a :: kd :: n :: r) else .none := rfl
      rw [e] at k
      cases jd : jobD (jobW (a :: kd :: n :: r)) with
      | true =>
        rw [jd, if_pos rfl] at k
        exact iteT ⟨_, rfl, k _ H8 (s17.trans s8) (dp_same (off_mono s8) dz')⟩
      | false =>
        rw [jd, if_neg Bool.false_ne_true] at k
        exact iteF (k .non H8 (s17.trans s8) .non)
end
end Vk
namespace Vk
open PySem PySem.Spec PyProof.Rows L2 GxR
theorem shape_job {d : PyData} (h : jobD d = true) : PyData.canLay0 d = true ∧ PyData.depth d ≤ 4 := by
  obtain ⟨n, k, t, e, rfl, hn, hk⟩ := job_parts h
  obtain ⟨_, n8, az⟩ := nameD_iff.mp hn
  have okS : ∀ s : Str, (∀ c ∈ s.cps.toList, c < 256) → PyData.strOk s = true := fun s hs => by
    unfold PyData.strOk
    first
    | (rw [← Array.all_toList, List.all_eq_true]; intro c hc; have := hs c hc; simp; omega)
    | (simp; intro c hc; have := hs c hc; omega)
  have o1 : PyData.strOk n = true := okS n fun c hc => by
    have z := az c hc
    rw [between_az] at z
    have := of_decide_eq_true z
    omega
  have o2 : PyData.strOk k = true := by rcases hk with rfl | rfl <;> decide +kernel
  refine ⟨?_, ?_⟩
  · simp [PyData.canLay0, PyData.canLayAll0, o1, o2]
  · simp [PyData.depth, PyData.depthAll]
theorem shape_or {d : PyData} (h : d = .none ∨ jobD d = true) : PyData.canLay0 d = true ∧ PyData.depth d ≤ 4 := by
  rcases h with rfl | h
  · refine ⟨?_, ?_⟩
    · simp [PyData.canLay0]
    · simp [PyData.depth]
  · exact shape_job h
theorem shape_all : ∀ {js : List PyData}, (∀ j ∈ js, j = .none ∨ jobD j = true) → PyData.canLayAll0 js = true ∧ PyData.depthAll js ≤ 4
  | [], _ => ⟨rfl, by simp [PyData.depthAll]⟩
  | j :: js, h => by
    obtain ⟨a1, a2⟩ := shape_or (h j (by simp))
    obtain ⟨b1, b2⟩ := shape_all (js := js) fun x hx => h x (List.mem_cons_of_mem _ hx)
    refine ⟨?_, ?_⟩
    · simp [PyData.canLayAll0, a1, b1]
    · simp [PyData.depthAll]
      omega
theorem shaped_list {js : List PyData} (h : ∀ j ∈ js, j = .none ∨ jobD j = true) : SeqAt.shaped (.list js) = true := by
  obtain ⟨a, b⟩ := shape_all h
  unfold SeqAt.shaped
  rw [show PyData.canLay0 (.list js) = true from by simp [PyData.canLay0, a], Bool.true_and]
  refine decide_eq_true ?_
  simp [PyData.depth]
  omega
theorem shaped_tup {js : List PyData} (h : ∀ j ∈ js, j = .none ∨ jobD j = true) : SeqAt.shaped (.tuple js) = true := by
  obtain ⟨a, b⟩ := shape_all h
  unfold SeqAt.shaped
  rw [show PyData.canLay0 (.tuple js) = true from by simp [PyData.canLay0, a], Bool.true_and]
  refine decide_eq_true ?_
  simp [PyData.depth]
  omega
theorem shaped_non : SeqAt.shaped .none = true := by decide +kernel
theorem eqv_non {d : PyData} (h : d = .none ∨ jobD d = true) : PyData.eqv d .none = isN d := by
  rcases h with rfl | h
  · rfl
  · obtain ⟨n, k, t, e, rfl, hn, hk⟩ := job_parts h
    rfl
theorem find_some {n i : Nat} {p : Nat → Bool} (h : (List.range n).find? p = some i) : i < n ∧ p i = true ∧ ∀ j < i, p j = false := by
  rw [List.find?_range_eq_some] at h
  obtain ⟨h1, h2, h3⟩ := h
  refine ⟨List.mem_range.mp h2, h1, fun j hj => ?_⟩
  have z := h3 j hj
  cases hp : p j with
  | false => rfl
  | true =>
    rw [hp] at z
    cases z
theorem any_row {tx : Str} : ((dsOf tx).any fun z => PyData.eqv z .none) = (rowPlace (dsOf tx)).isSome := by
  rw [Bool.eq_iff_iff, List.any_eq_true]
  constructor
  · rintro ⟨d, hd, e⟩
    rw [eqv_non (ds_or hd)] at e
    obtain ⟨j, hj, ed⟩ := List.getElem_of_mem hd
    cases hr : rowPlace (dsOf tx) with
    | some i => rfl
    | none =>
      have z := List.find?_eq_none.mp hr j (List.mem_range.mpr hj)
      refine absurd ?_ z
      unfold noAt
      rw [List.getElem?_eq_getElem hj, ed]
      exact e
  · intro h
    obtain ⟨i, hi⟩ := Option.isSome_iff_exists.mp h
    obtain ⟨h1, h2, _⟩ := find_some hi
    unfold noAt at h2
    rw [List.getElem?_eq_getElem h1] at h2
    exact ⟨_, List.getElem_mem h1, by rw [eqv_non (ds_or (List.getElem_mem h1))]; exact h2⟩
/-- what is due of a text -/
def dueD (tx : Str) : PyData := match rowPlace (dsOf tx) with
  | some i => .list [.str "text", .int (i : Int)]
  | none => match jobsPlace (.tuple (dsOf tx)) with
    | some i => .list [.str "jobs", .int i]
    | none => .tuple (dsOf tx)
theorem due_nil : dueD "" = .tuple [] := rfl
theorem units65 {k : Nat} {A : Around} (r : Room k A) : A.units + 65 < cLine := by have := r.un; omega
section
variable {P : Program} {w : World} {K : PySem.W.Frag} {mg : Str → Option Value} {base : Heap}
def spDue (K : PySem.W.Frag) : Sp := fun vs H Q _ => ∃ (tx : Str), vs = [.str tx] ∧ tx.length ≤ 49999 ∧ ∀ v H', Same H H' → Dp K H' v (dueD tx) → Q v H'
theorem scDue : FnScope ["text", "jobs", "fault", "line"] ["text"] (defScope sDue) := ⟨rfl, rfl, rfl, by decide +kernel, rfl, by decide +kernel, by decide +kernel⟩
theorem ok_due (D : Df K mg "_law_due" sDue ["text"]) (B : Blt mg) (RL : Cl P w K mg base CX0 3 "_law_read" ["line"] (spReadL K)) (FA : Cl P w K mg base CX0 3 "_law_fault" ["jobs"] (spFault K)) :
    Cl P w K mg base CX0 4 "_law_due" ["text"] (spDue K) := by
  refine cl0 D scDue (fun vs H Q E h => ?_) (fun f cdv A outer s H vs Q E hr h => ?_)
  · obtain ⟨d, rfl, _⟩ := h
    rfl
  · obtain ⟨tx, rfl, lx, k⟩ := h
    refine ⟨_, pss_cons (ps_if (pt_cmpR op_eq (pv 0) pe_str (nomark _)) (pss_one (ps_ret (pe_tup pa_nil))) pss_nil)
      (pss_cons (ps_setLc (i := 1) (own := [("line", 3)]) (g := gName 3) (tt := tYes) (te := tCal (spReadL K) (tCons (tVar 3) tNil)) rfl scDue.nd rfl rfl (sw_true rfl rfl rfl (by decide +kernel)) (pi_list (pe_split (pv 0) pe_str)) (blkOk_by (own := [("line", 3)]) (N := ["text", "jobs", "fault", "line"]) (sc := defScope sDue) (by decide +kernel))
        (fun _ _ _ _ _ => pg_name (i := 3) scDue.nd rfl (Or.inl rfl)) (fun _ _ _ _ _ => pts_nil) (fun _ _ _ _ _ => pc RL hr (by decide) (pa_cons (pv 3) pa_nil)))
      (pss_cons (ps_if (pt_cmpR (op_inD (units65 hr)) pe_non (pv 1) (by rfl)) (pss_one (ps_ret (pe_lst (pa_cons pe_str (pa_cons (pe_bm PySem.F.plainAttrs_list PySem.F.slot_list_index PySem.F.type_list_index (mt_indexD (units65 hr)) (pv 1) (pa_cons pe_non pa_nil)) pa_nil))))) pss_nil)
      (pss_cons (ps_set (i := 2) scDue.nd rfl (Or.inl rfl) (pc FA hr (by decide) (pa_cons (pe_callTy call_tuple_of (by rfl) B.tuple (by decide +kernel) (pa_cons (pv 1) pa_nil)) pa_nil)))
      (pss_cons (ps_if (pt_cmpR op_notN (pv 2) pe_non (nomark _)) (pss_one (ps_ret (pe_lst (pa_cons pe_str (pa_cons (pv 2) pa_nil))))) pss_nil)
      (pss_one (ps_ret (pe_callTy call_tuple_of (by rfl) B.tuple (by decide +kernel) (pa_cons (pv 1) pa_nil)))))))), ?_⟩
    refine ⟨_, rfl, rfl, _, rfl, ?_⟩
    rw [eq_strV]
    by_cases h0 : tx = ""
    · rw [decide_eq_true h0]
      rw [h0, due_nil] at k
      refine iteT ⟨(by show 0 ≤ sizeLine; decide), fun t nt => ?_⟩
      exact k _ _ (same_new nt) (.tup (SqT.of upd_same) .nil)
    rw [decide_eq_false h0]
    have e0 : tx.length ≠ 0 := fun e => h0 (by
      refine TL.ext_tl ?_
      rw [slen] at e
      exact (List.eq_nil_of_length_eq_zero e).trans (by decide +kernel))
    have el : linesOf tx = Txt.split tx "\n" := if_neg e0
    have lw := lines_wt tx
    have ll_ := wt_len (linesOf tx)
    have dl : (dsOf tx).length = (linesOf tx).length := List.length_map ..
    refine iteF ⟨_, rfl, ⟨_, rfl⟩, _, _, rfl, rfl, by decide +kernel, Nat.le_trans (show _ + 2 ≤ 50001 by omega) (by decide), fun ll nll => ?_⟩
    rw [← el]
    have s1 := same_new (o := .lst ((linesOf tx).map V.str)) nll
    have hl1 : upd H ll (.lst ((linesOf tx).map V.str)) ll = some (.lst ((linesOf tx).map V.str)) := upd_same
    generalize upd H ll (.lst ((linesOf tx).map V.str)) = H1 at s1 hl1 ⊢
    refine ⟨ll, rfl, ⟨_, SqL.of hl1⟩, fun D1 nD1 => ?_⟩
    refine lc_it (walk_list (K := K) (a := ll) (xs := (linesOf tx).map V.str)) (fun m Hc => ∃ acc, Same H1 (Off D1 Hc) ∧ Hc D1 = some (.lst acc) ∧ DpAll K (Off D1 Hc) acc ((dsOf tx).take m))
      ⟨[], by rw [off_upd, off_none nD1]; exact Same.refl H1, upd_same, .nil⟩ (fun m Hc _ ⟨acc, s2, _⟩ => SqL.of ((s2.trans (off_sub D1 Hc)).at hl1)) ?_ ?_
    · rintro m y1 Hc0 Hc hm ⟨acc, s2, hD, dac⟩ ⟨rfl, hy1⟩
      rw [List.length_map] at hm
      rw [List.getElem?_map] at hy1
      obtain ⟨ln, hln, rfl⟩ := Option.map_eq_some_iff.mp hy1
      have hd : (dsOf tx)[m]? = some (readD ln) := by
        unfold dsOf
        rw [List.getElem?_map, hln]
        rfl
      have lln : ln.length ≤ 50000 := by
        have z := wt_mem (List.mem_of_getElem? hln)
        omega
      have al := dps_len dac
      rw [List.length_take] at al
      refine ⟨rfl, _, rfl, ln, D1, rfl, lln, has_of hD, fun v H4 s4 dv => ?_⟩
      refine ⟨acc, s4.at hD, Nat.lt_of_le_of_lt (show acc.length ≤ 50000 by omega) (by decide), acc ++ [v], ?_, upd_same, ?_⟩
      · rw [off_upd]
        exact s2.trans (off_mono s4)
      · rw [off_upd, List.take_add_one, hd]
        exact dps_app (dps_same (off_mono s4) dac) (.cons dv .nil)
    · rintro Hc ⟨acc, s2, hD, dac⟩
      rw [List.length_map, ← dl, List.take_length] at dac
      have al := dps_len dac
      have sub := off_sub D1 Hc
      have s12 := s1.trans (s2.trans sub)
      have dac1 := dps_same sub dac
      have dL : Dp K Hc (.ref D1) (.list (dsOf tx)) := .lst (SqL.of hD) dac1
      have shL := shaped_list (js := dsOf tx) fun j hj => ds_or hj
      refine ⟨_, rfl, .none, dsOf tx, .non, dL, shaped_non, shL, _, rfl, ?_⟩
      rw [any_row]
      cases hr : rowPlace (dsOf tx) with
      | some i =>
        obtain ⟨i1, i2, i3⟩ := find_some hr
        have hz := List.getElem?_eq_getElem i1
        have at_ : ∀ m (z' : PyData), (dsOf tx)[m]? = some z' → PyData.eqv z' .none = noAt (dsOf tx) m := fun m z' e => by
          unfold noAt
          rw [e]
          exact eqv_non (ds_or (List.mem_of_getElem? e))
        refine iteT ⟨_, rfl, .inl ⟨rfl, _, SqL.of hD⟩, D1, .non, .none, dsOf tx, i, _, rfl, rfl, dL, .non, shL, shaped_non, hz, ?_, fun m z' hm e => ?_, ?_⟩
        · rw [at_ i _ hz]
          exact i2
        · rw [at_ m _ e]
          exact i3 m hm
        refine ⟨(by show 2 ≤ sizeLine; decide), fun t nt => ?_⟩
        have e : dueD tx = .list [.str "text", .int (i : Int)] := by
          unfold dueD
          rw [hr]
        rw [e] at k
        exact k _ _ (s12.trans (same_new nt)) (.lst (SqL.of upd_same) (.cons (.str _) (.cons (.int _) .nil)))
      | none =>
        have all := row_all hr
        have e : dueD tx = match jobsPlace (.tuple (dsOf tx)) with
          | some i => .list [.str "jobs", .int i]
          | none => .tuple (dsOf tx) := by
          unfold dueD
          rw [hr]
        refine iteF ⟨_, rfl, D1, acc, rfl, .inl ⟨SqL.of hD, fun tp ntp => ?_⟩⟩
        have s3 := same_new (o := .tup acc) ntp
        have d3 : Dp K (upd Hc tp (.tup acc)) (.ref tp) (.tuple (dsOf tx)) := .tup (SqT.of upd_same) (dps_same s3 dac1)
        refine ⟨.ref tp, _, rfl, d3, ⟨fun d hd => nice_of (all d hd), by omega⟩, fun H5 s5 => ?_⟩
        have s35 := s3.trans s5
        have s15 := s12.trans s35
        cases hp : jobsPlace (.tuple (dsOf tx)) with
        | some i =>
          rw [hp] at e
          rw [e] at k
          refine ⟨_, rfl, rfl, _, rfl, iteT ⟨_, rfl, (by show 2 ≤ sizeLine; decide), fun t nt => ?_⟩⟩
          exact k _ _ (s15.trans (same_new nt)) (.lst (SqL.of upd_same) (.cons (.str _) (.cons (.int _) .nil)))
        | none =>
          rw [hp] at e
          rw [e] at k
          refine ⟨_, rfl, rfl, _, rfl, iteF ⟨_, rfl, D1, acc, rfl, .inl ⟨SqL.of (s35.at hD), fun tq ntq => ?_⟩⟩⟩
          have s6 := same_new (o := .tup acc) ntq
          exact k _ _ (s15.trans s6) (.tup (SqT.of upd_same) (dps_same (s35.trans s6) dac1))
end
end Vk
namespace Vk
open PySem PySem.Spec PyProof.Rows L2
section
variable {P : Program} {w : World} {K : PySem.W.Frag} {mg : Str → Option Value} {base : Heap}
def spKindT (C : Addr) : Sp := fun vs H Q _ => ∃ (a dd : Addr) (v : V), vs = [.ref a] ∧ H a = some (Xco a (.ref C) (some dd)) ∧ H dd = some (.xd [(("row" : Str), v)]) ∧
  ∀ (t : Addr) (H' : Hp), Same H H' → H' t = some (.tup [.str ("text" : Str), v]) → Q (.ref t) H'
def spKind2 (C Ct : Addr) : Sp := fun vs H Q E => spKind C 0 vs H Q E ∨ spKindT Ct vs H Q E
theorem ok_kind2 {C0 Ct : Addr} {i7 : Nat} (h7 : i7 = 7) (D : Df K mg "_law_kind" sKind ["caught"]) (B : Blt mg) (N0 : Kn K mg C0 0) (N7 : Kn K mg Ct i7) (noR : PySem.W.findIn K (.ref Ct) "row" = some none) : Cl P w K mg base CX0 1 "_law_kind" ["caught"] (spKind2 C0 Ct) := by
  refine cl0 D scKind (fun vs H Q E h => ?_) (fun f cdv A outer s H vs Q E hr h => ?_)
  · rcases h with ⟨a, dd, v, rfl, _⟩ | ⟨a, dd, v, rfl, _⟩
    · rfl
    · rfl
  rcases h with h | h
  · obtain ⟨a, dd, v, rfl, ha, hdd, k⟩ := h
    obtain ⟨i, hi0⟩ : ∃ i : Nat, i = 0 := ⟨0, rfl⟩
    have hi : i < 7 := by omega
    rw [← hi0] at N0 k
    revert N0
    generalize C0 = C at ha
    intro N
    obtain ⟨S, mS, kS, _⟩ := N.se
    obtain ⟨D0, m0, k0⟩ := N.c0
    obtain ⟨D1, m1, k1⟩ := N.c1
    obtain ⟨D2, m2, k2⟩ := N.c2
    obtain ⟨D3, m3, k3⟩ := N.c3
    obtain ⟨D4, m4, k4⟩ := N.c4
    obtain ⟨D5, m5, k5⟩ := N.c5
    obtain ⟨D6, m6, k6⟩ := N.c6
    obtain ⟨D7, m7, k7⟩ := N.c7
    obtain ⟨D8, m8, k8⟩ := N.c8
    obtain ⟨D9, m9, k9⟩ := N.c9
    obtain ⟨D10, m10, k10⟩ := N.c10
    obtain ⟨D11, m11, k11⟩ := N.c11
    refine ⟨_, pss_cons (ps_set (i := 1) scKind.nd rfl (Or.inl rfl) (pe_lst (pa_cons (pe_callB call_isX (by rfl) B.isi (by decide +kernel) (pa_cons (pv 0) (pa_cons (pe_glob rfl m0 (show RelV (.ref _) _ from rfl)) pa_nil))) (pa_cons (pe_callB call_isX (by rfl) B.isi (by decide +kernel) (pa_cons (pv 0) (pa_cons (pe_glob rfl m1 (show RelV (.ref _) _ from rfl)) pa_nil))) (pa_cons (pe_callB call_isX (by rfl) B.isi (by decide +kernel) (pa_cons (pv 0) (pa_cons (pe_glob rfl m2 (show RelV (.ref _) _ from rfl)) pa_nil))) pa_nil)))))
      (pss_cons (ps_set (i := 1) scKind.nd rfl (Or.inl rfl) (pe_op op_cat (pv 1) (pe_lst (pa_cons (pe_callB call_isX (by rfl) B.isi (by decide +kernel) (pa_cons (pv 0) (pa_cons (pe_glob rfl m3 (show RelV (.ref _) _ from rfl)) pa_nil))) (pa_cons (pe_callB call_isX (by rfl) B.isi (by decide +kernel) (pa_cons (pv 0) (pa_cons (pe_glob rfl m4 (show RelV (.ref _) _ from rfl)) pa_nil))) (pa_cons (pe_callB call_isX (by rfl) B.isi (by decide +kernel) (pa_cons (pv 0) (pa_cons (pe_glob rfl m5 (show RelV (.ref _) _ from rfl)) pa_nil))) pa_nil))))))
      (pss_cons (ps_set (i := 1) scKind.nd rfl (Or.inl rfl) (pe_op op_cat (pv 1) (pe_lst (pa_cons (pe_callB call_isX (by rfl) B.isi (by decide +kernel) (pa_cons (pv 0) (pa_cons (pe_glob rfl m6 (show RelV (.ref _) _ from rfl)) pa_nil))) (pa_cons (pe_callB call_isX (by rfl) B.isi (by decide +kernel) (pa_cons (pv 0) (pa_cons (pe_glob rfl m7 (show RelV (.ref _) _ from rfl)) pa_nil))) (pa_cons (pe_callB call_isX (by rfl) B.isi (by decide +kernel) (pa_cons (pv 0) (pa_cons (pe_glob rfl m8 (show RelV (.ref _) _ from rfl)) pa_nil))) pa_nil))))))
      (pss_cons (ps_set (i := 1) scKind.nd rfl (Or.inl rfl) (pe_op op_cat (pv 1) (pe_lst (pa_cons (pe_callB call_isX (by rfl) B.isi (by decide +kernel) (pa_cons (pv 0) (pa_cons (pe_glob rfl m9 (show RelV (.ref _) _ from rfl)) pa_nil))) (pa_cons (pe_callB call_isX (by rfl) B.isi (by decide +kernel) (pa_cons (pv 0) (pa_cons (pe_glob rfl m10 (show RelV (.ref _) _ from rfl)) pa_nil))) (pa_cons (pe_callB call_isX (by rfl) B.isi (by decide +kernel) (pa_cons (pv 0) (pa_cons (pe_glob rfl m11 (show RelV (.ref _) _ from rfl)) pa_nil))) pa_nil))))))
      (pss_cons (ps_if (PW.pt (pw_or (pt_not (pt_val (pe_callB call_isX (by rfl) B.isi (by decide +kernel) (pa_cons (pv 0) (pa_cons (pe_glob rfl mS (show RelV (.ref _) _ from rfl)) pa_nil))))) (pw_or (pt_not (pt_val (pe_callB call_isX (by rfl) B.isi (by decide +kernel) (pa_cons (pv 0) (pa_cons (pe_bltn (v := .ty "ValueError") (u := .type "ValueError") (by rfl) N.ve (by decide +kernel) rfl) pa_nil)))))
        (pw_or1 (pt_cmpR op_ne (pe_bm PySem.F.plainAttrs_list PySem.F.slot_list_count PySem.F.type_list_count mt_countV (pv 1) (pa_cons pe_bl pa_nil)) pe_int (nomark _)))))) (pss_one (ps_ret (pe_tup (pa_cons pe_str (pa_cons pe_int pa_nil))))) pss_nil)
      (pss_cons (ps_set (i := 2) scKind.nd rfl (Or.inl rfl) (pe_bm PySem.F.plainAttrs_list PySem.F.slot_list_index PySem.F.type_list_index mt_index (pv 1) (pa_cons pe_bl pa_nil)))
      (pss_cons (ps_if (pt_cmpR op_lt (pv 2) pe_int (nomark _)) (pss_one (ps_ret (pe_tup (pa_cons (pe_ix ix_list (pe_lst (pa_cons pe_str (pa_cons pe_str (pa_cons pe_str (pa_cons pe_str (pa_cons pe_str (pa_cons pe_str (pa_cons pe_str pa_nil)))))))) (pv 2) (fun _ _ => rfl)) (pa_cons (pe_xp (pv 0)) pa_nil))))) pss_nil)
      (pss_cons ps_never (pss_cons ps_never (pss_cons ps_never (pss_one ps_never)))))))))), ?_⟩
    refine ⟨_, rfl, a, C, some dd, _, _, _, rfl, (Same.refl H).at ha, (fun d2 e2 => by cases e2; exact ⟨_, (Same.refl H).at hdd⟩), N.ex, .own _, k0,
      _, rfl, a, C, some dd, _, _, _, rfl, (Same.refl H).at ha, (fun d2 e2 => by cases e2; exact ⟨_, (Same.refl H).at hdd⟩), N.ex, .own _, k1,
      _, rfl, a, C, some dd, _, _, _, rfl, (Same.refl H).at ha, (fun d2 e2 => by cases e2; exact ⟨_, (Same.refl H).at hdd⟩), N.ex, .own _, k2, (by show 3 ≤ sizeLine; decide), fun p1 n1 => ?_⟩
    have s1 := same_new (o := .lst [.bl (decide (0 = i)), .bl (decide (1 = i)), .bl (decide (2 = i))]) n1
    refine ⟨_, rfl, _, rfl, a, C, some dd, _, _, _, rfl, s1.at ha, (fun d2 e2 => by cases e2; exact ⟨_, s1.at hdd⟩), N.ex, .own _, k3,
      _, rfl, a, C, some dd, _, _, _, rfl, s1.at ha, (fun d2 e2 => by cases e2; exact ⟨_, s1.at hdd⟩), N.ex, .own _, k4,
      _, rfl, a, C, some dd, _, _, _, rfl, s1.at ha, (fun d2 e2 => by cases e2; exact ⟨_, s1.at hdd⟩), N.ex, .own _, k5, (by show 3 ≤ sizeLine; decide), fun q1 m1' => ?_⟩
    have t1 := same_new (o := .lst [.bl (decide (3 = i)), .bl (decide (4 = i)), .bl (decide (5 = i))]) m1'
    refine ⟨p1, q1, _, _, rfl, rfl, t1.at upd_same, upd_same, (by show 3 + 3 ≤ sizeLine; decide), fun p2 n2 => ?_⟩
    have s2 := (s1.trans t1).trans (same_new (o := .lst ([.bl (decide (0 = i)), .bl (decide (1 = i)), .bl (decide (2 = i))] ++ [.bl (decide (3 = i)), .bl (decide (4 = i)), .bl (decide (5 = i))])) n2)
    refine ⟨_, rfl, _, rfl, a, C, some dd, _, _, _, rfl, s2.at ha, (fun d2 e2 => by cases e2; exact ⟨_, s2.at hdd⟩), N.ex, .own _, k6,
      _, rfl, a, C, some dd, _, _, _, rfl, s2.at ha, (fun d2 e2 => by cases e2; exact ⟨_, s2.at hdd⟩), N.ex, .own _, k7,
      _, rfl, a, C, some dd, _, _, _, rfl, s2.at ha, (fun d2 e2 => by cases e2; exact ⟨_, s2.at hdd⟩), N.ex, .own _, k8, (by show 3 ≤ sizeLine; decide), fun q2 m2' => ?_⟩
    have t2 := same_new (o := .lst [.bl (decide (6 = i)), .bl (decide (7 = i)), .bl (decide (8 = i))]) m2'
    refine ⟨p2, q2, _, _, rfl, rfl, t2.at upd_same, upd_same, (by show 6 + 3 ≤ sizeLine; decide), fun p3 n3 => ?_⟩
    have s3 := (s2.trans t2).trans (same_new (o := .lst (([.bl (decide (0 = i)), .bl (decide (1 = i)), .bl (decide (2 = i))] ++ [.bl (decide (3 = i)), .bl (decide (4 = i)), .bl (decide (5 = i))]) ++ [.bl (decide (6 = i)), .bl (decide (7 = i)), .bl (decide (8 = i))])) n3)
    refine ⟨_, rfl, _, rfl, a, C, some dd, _, _, _, rfl, s3.at ha, (fun d2 e2 => by cases e2; exact ⟨_, s3.at hdd⟩), N.ex, .own _, k9,
      _, rfl, a, C, some dd, _, _, _, rfl, s3.at ha, (fun d2 e2 => by cases e2; exact ⟨_, s3.at hdd⟩), N.ex, .own _, k10,
      _, rfl, a, C, some dd, _, _, _, rfl, s3.at ha, (fun d2 e2 => by cases e2; exact ⟨_, s3.at hdd⟩), N.ex, .own _, k11, (by show 3 ≤ sizeLine; decide), fun q3 m3' => ?_⟩
    have t3 := same_new (o := .lst [.bl (decide (9 = i)), .bl (decide (10 = i)), .bl (decide (11 = i))]) m3'
    refine ⟨p3, q3, _, _, rfl, rfl, t3.at upd_same, upd_same, (by show 9 + 3 ≤ sizeLine; decide), fun p4 n4 => ?_⟩
    have s4 := (s3.trans t3).trans (same_new (o := .lst ((([.bl (decide (0 = i)), .bl (decide (1 = i)), .bl (decide (2 = i))] ++ [.bl (decide (3 = i)), .bl (decide (4 = i)), .bl (decide (5 = i))]) ++ [.bl (decide (6 = i)), .bl (decide (7 = i)), .bl (decide (8 = i))]) ++ [.bl (decide (9 = i)), .bl (decide (10 = i)), .bl (decide (11 = i))])) n4)
    have e12 : ((([.bl (decide (0 = i)), .bl (decide (1 = i)), .bl (decide (2 = i))] ++ [.bl (decide (3 = i)), .bl (decide (4 = i)), .bl (decide (5 = i))]) ++ [.bl (decide (6 = i)), .bl (decide (7 = i)), .bl (decide (8 = i))]) ++ [.bl (decide (9 = i)), .bl (decide (10 = i)), .bl (decide (11 = i))]) = bits i := rfl
    refine ⟨_, rfl, a, C, some dd, _, _, _, rfl, s4.at ha, (fun d2 e2 => by cases e2; exact ⟨_, s4.at hdd⟩), N.ex, .own _, kS, _, rfl, iteF ?_⟩
    refine ⟨_, rfl, a, C, some dd, _, _, _, rfl, s4.at ha, (fun d2 e2 => by cases e2; exact ⟨_, s4.at hdd⟩), N.ex, .ty "ValueError", N.kv, _, rfl, iteF ?_⟩
    refine ⟨_, rfl, .inl ⟨rfl, _, SqL.of upd_same⟩, p4, _, _, rfl, rfl, SqL.of upd_same, rfl, ?_, ?_⟩
    · rw [e12]
      exact bits_flat i
    rw [e12]
    have ec : (bits i).countP (fun z => eqV z (.bl true)) = 1 := bits_cnt ⟨i, by omega⟩
    rw [ec]
    refine ⟨rfl, _, rfl, iteF ?_⟩
    refine ⟨_, rfl, .inl ⟨rfl, _, SqL.of upd_same⟩, p4, _, _, i, .bl (decide (i = i)), rfl, rfl, SqL.of upd_same, rfl, bits_flat i, bits_get (by omega), by rw [decide_eq_true rfl]; rfl, fun m z' hm hz => ?_, ?_⟩
    · rw [bits_get (by omega)] at hz
      cases hz
      rw [decide_eq_false (by omega)]
      rfl
    refine ⟨_, rfl, _, _, rfl, rfl, _, rfl, ?_⟩
    rw [decide_eq_true (show (i : Int) < 7 by omega)]
    refine iteT ⟨(by show 7 ≤ sizeLine; decide), fun l nl => ?_⟩
    have s5 := s4.trans (same_new (o := .lst (words7.map V.str)) nl)
    have ew : (words7.map V.str)[i]? = some (.str (words7.getD i "")) := by
      rw [List.getElem?_map, List.getD_eq_getElem?_getD]
      have hl : i < words7.length := hi
      rw [List.getElem?_eq_getElem hl]
      rfl
    refine ⟨_, rfl, l, _, _, _, rfl, rfl, SqL.of upd_same, atI_nat ew, _, rfl, a, C, dd, _, v, rfl, s5.at ha, s5.at hdd, by simp [List.lookup], N.xf, N.noP, (by show 2 ≤ sizeLine; decide), fun t nt => ?_⟩
    exact k t _ (s5.trans (same_new nt)) upd_same
  · obtain ⟨a, dd, v, rfl, ha, hdd, k⟩ := h
    revert N7 noR h7
    generalize i7 = i
    generalize Ct = C at ha
    intro h7 N noR
    obtain ⟨S, mS, kS, _⟩ := N.se
    obtain ⟨D0, m0, k0⟩ := N.c0
    obtain ⟨D1, m1, k1⟩ := N.c1
    obtain ⟨D2, m2, k2⟩ := N.c2
    obtain ⟨D3, m3, k3⟩ := N.c3
    obtain ⟨D4, m4, k4⟩ := N.c4
    obtain ⟨D5, m5, k5⟩ := N.c5
    obtain ⟨D6, m6, k6⟩ := N.c6
    obtain ⟨D7, m7, k7⟩ := N.c7
    obtain ⟨D8, m8, k8⟩ := N.c8
    obtain ⟨D9, m9, k9⟩ := N.c9
    obtain ⟨D10, m10, k10⟩ := N.c10
    obtain ⟨D11, m11, k11⟩ := N.c11
    refine ⟨_, pss_cons (ps_set (i := 1) scKind.nd rfl (Or.inl rfl) (pe_lst (pa_cons (pe_callB call_isX (by rfl) B.isi (by decide +kernel) (pa_cons (pv 0) (pa_cons (pe_glob rfl m0 (show RelV (.ref _) _ from rfl)) pa_nil))) (pa_cons (pe_callB call_isX (by rfl) B.isi (by decide +kernel) (pa_cons (pv 0) (pa_cons (pe_glob rfl m1 (show RelV (.ref _) _ from rfl)) pa_nil))) (pa_cons (pe_callB call_isX (by rfl) B.isi (by decide +kernel) (pa_cons (pv 0) (pa_cons (pe_glob rfl m2 (show RelV (.ref _) _ from rfl)) pa_nil))) pa_nil)))))
      (pss_cons (ps_set (i := 1) scKind.nd rfl (Or.inl rfl) (pe_op op_cat (pv 1) (pe_lst (pa_cons (pe_callB call_isX (by rfl) B.isi (by decide +kernel) (pa_cons (pv 0) (pa_cons (pe_glob rfl m3 (show RelV (.ref _) _ from rfl)) pa_nil))) (pa_cons (pe_callB call_isX (by rfl) B.isi (by decide +kernel) (pa_cons (pv 0) (pa_cons (pe_glob rfl m4 (show RelV (.ref _) _ from rfl)) pa_nil))) (pa_cons (pe_callB call_isX (by rfl) B.isi (by decide +kernel) (pa_cons (pv 0) (pa_cons (pe_glob rfl m5 (show RelV (.ref _) _ from rfl)) pa_nil))) pa_nil))))))
      (pss_cons (ps_set (i := 1) scKind.nd rfl (Or.inl rfl) (pe_op op_cat (pv 1) (pe_lst (pa_cons (pe_callB call_isX (by rfl) B.isi (by decide +kernel) (pa_cons (pv 0) (pa_cons (pe_glob rfl m6 (show RelV (.ref _) _ from rfl)) pa_nil))) (pa_cons (pe_callB call_isX (by rfl) B.isi (by decide +kernel) (pa_cons (pv 0) (pa_cons (pe_glob rfl m7 (show RelV (.ref _) _ from rfl)) pa_nil))) (pa_cons (pe_callB call_isX (by rfl) B.isi (by decide +kernel) (pa_cons (pv 0) (pa_cons (pe_glob rfl m8 (show RelV (.ref _) _ from rfl)) pa_nil))) pa_nil))))))
      (pss_cons (ps_set (i := 1) scKind.nd rfl (Or.inl rfl) (pe_op op_cat (pv 1) (pe_lst (pa_cons (pe_callB call_isX (by rfl) B.isi (by decide +kernel) (pa_cons (pv 0) (pa_cons (pe_glob rfl m9 (show RelV (.ref _) _ from rfl)) pa_nil))) (pa_cons (pe_callB call_isX (by rfl) B.isi (by decide +kernel) (pa_cons (pv 0) (pa_cons (pe_glob rfl m10 (show RelV (.ref _) _ from rfl)) pa_nil))) (pa_cons (pe_callB call_isX (by rfl) B.isi (by decide +kernel) (pa_cons (pv 0) (pa_cons (pe_glob rfl m11 (show RelV (.ref _) _ from rfl)) pa_nil))) pa_nil))))))
      (pss_cons (ps_if (PW.pt (pw_or (pt_not (pt_val (pe_callB call_isX (by rfl) B.isi (by decide +kernel) (pa_cons (pv 0) (pa_cons (pe_glob rfl mS (show RelV (.ref _) _ from rfl)) pa_nil))))) (pw_or (pt_not (pt_val (pe_callB call_isX (by rfl) B.isi (by decide +kernel) (pa_cons (pv 0) (pa_cons (pe_bltn (v := .ty "ValueError") (u := .type "ValueError") (by rfl) N.ve (by decide +kernel) rfl) pa_nil)))))
        (pw_or1 (pt_cmpR op_ne (pe_bm PySem.F.plainAttrs_list PySem.F.slot_list_count PySem.F.type_list_count mt_countV (pv 1) (pa_cons pe_bl pa_nil)) pe_int (nomark _)))))) (pss_one (ps_ret (pe_tup (pa_cons pe_str (pa_cons pe_int pa_nil))))) pss_nil)
      (pss_cons (ps_set (i := 2) scKind.nd rfl (Or.inl rfl) (pe_bm PySem.F.plainAttrs_list PySem.F.slot_list_index PySem.F.type_list_index mt_index (pv 1) (pa_cons pe_bl pa_nil)))
      (pss_cons (ps_if (pt_cmpR op_lt (pv 2) pe_int (nomark _)) (pss_one ps_never) pss_nil)
      (pss_cons (ps_if (pt_cmpR op_eq (pv 2) pe_int (nomark _)) (pss_one (ps_ret (pe_tup (pa_cons pe_str (pa_cons (pe_xp (pv 0)) pa_nil))))) pss_nil) (pss_cons ps_never (pss_cons ps_never (pss_one ps_never)))))))))), ?_⟩
    refine ⟨_, rfl, a, C, some dd, _, _, _, rfl, (Same.refl H).at ha, (fun d2 e2 => by cases e2; exact ⟨_, (Same.refl H).at hdd⟩), N.ex, .own _, k0,
      _, rfl, a, C, some dd, _, _, _, rfl, (Same.refl H).at ha, (fun d2 e2 => by cases e2; exact ⟨_, (Same.refl H).at hdd⟩), N.ex, .own _, k1,
      _, rfl, a, C, some dd, _, _, _, rfl, (Same.refl H).at ha, (fun d2 e2 => by cases e2; exact ⟨_, (Same.refl H).at hdd⟩), N.ex, .own _, k2, (by show 3 ≤ sizeLine; decide), fun p1 n1 => ?_⟩
    have s1 := same_new (o := .lst [.bl (decide (0 = i)), .bl (decide (1 = i)), .bl (decide (2 = i))]) n1
    refine ⟨_, rfl, _, rfl, a, C, some dd, _, _, _, rfl, s1.at ha, (fun d2 e2 => by cases e2; exact ⟨_, s1.at hdd⟩), N.ex, .own _, k3,
      _, rfl, a, C, some dd, _, _, _, rfl, s1.at ha, (fun d2 e2 => by cases e2; exact ⟨_, s1.at hdd⟩), N.ex, .own _, k4,
      _, rfl, a, C, some dd, _, _, _, rfl, s1.at ha, (fun d2 e2 => by cases e2; exact ⟨_, s1.at hdd⟩), N.ex, .own _, k5, (by show 3 ≤ sizeLine; decide), fun q1 m1' => ?_⟩
    have t1 := same_new (o := .lst [.bl (decide (3 = i)), .bl (decide (4 = i)), .bl (decide (5 = i))]) m1'
    refine ⟨p1, q1, _, _, rfl, rfl, t1.at upd_same, upd_same, (by show 3 + 3 ≤ sizeLine; decide), fun p2 n2 => ?_⟩
    have s2 := (s1.trans t1).trans (same_new (o := .lst ([.bl (decide (0 = i)), .bl (decide (1 = i)), .bl (decide (2 = i))] ++ [.bl (decide (3 = i)), .bl (decide (4 = i)), .bl (decide (5 = i))])) n2)
    refine ⟨_, rfl, _, rfl, a, C, some dd, _, _, _, rfl, s2.at ha, (fun d2 e2 => by cases e2; exact ⟨_, s2.at hdd⟩), N.ex, .own _, k6,
      _, rfl, a, C, some dd, _, _, _, rfl, s2.at ha, (fun d2 e2 => by cases e2; exact ⟨_, s2.at hdd⟩), N.ex, .own _, k7,
      _, rfl, a, C, some dd, _, _, _, rfl, s2.at ha, (fun d2 e2 => by cases e2; exact ⟨_, s2.at hdd⟩), N.ex, .own _, k8, (by show 3 ≤ sizeLine; decide), fun q2 m2' => ?_⟩
    have t2 := same_new (o := .lst [.bl (decide (6 = i)), .bl (decide (7 = i)), .bl (decide (8 = i))]) m2'
    refine ⟨p2, q2, _, _, rfl, rfl, t2.at upd_same, upd_same, (by show 6 + 3 ≤ sizeLine; decide), fun p3 n3 => ?_⟩
    have s3 := (s2.trans t2).trans (same_new (o := .lst (([.bl (decide (0 = i)), .bl (decide (1 = i)), .bl (decide (2 = i))] ++ [.bl (decide (3 = i)), .bl (decide (4 = i)), .bl (decide (5 = i))]) ++ [.bl (decide (6 = i)), .bl (decide (7 = i)), .bl (decide (8 = i))])) n3)
    refine ⟨_, rfl, _, rfl, a, C, some dd, _, _, _, rfl, s3.at ha, (fun d2 e2 => by cases e2; exact ⟨_, s3.at hdd⟩), N.ex, .own _, k9,
      _, rfl, a, C, some dd, _, _, _, rfl, s3.at ha, (fun d2 e2 => by cases e2; exact ⟨_, s3.at hdd⟩), N.ex, .own _, k10,
      _, rfl, a, C, some dd, _, _, _, rfl, s3.at ha, (fun d2 e2 => by cases e2; exact ⟨_, s3.at hdd⟩), N.ex, .own _, k11, (by show 3 ≤ sizeLine; decide), fun q3 m3' => ?_⟩
    have t3 := same_new (o := .lst [.bl (decide (9 = i)), .bl (decide (10 = i)), .bl (decide (11 = i))]) m3'
    refine ⟨p3, q3, _, _, rfl, rfl, t3.at upd_same, upd_same, (by show 9 + 3 ≤ sizeLine; decide), fun p4 n4 => ?_⟩
    have s4 := (s3.trans t3).trans (same_new (o := .lst ((([.bl (decide (0 = i)), .bl (decide (1 = i)), .bl (decide (2 = i))] ++ [.bl (decide (3 = i)), .bl (decide (4 = i)), .bl (decide (5 = i))]) ++ [.bl (decide (6 = i)), .bl (decide (7 = i)), .bl (decide (8 = i))]) ++ [.bl (decide (9 = i)), .bl (decide (10 = i)), .bl (decide (11 = i))])) n4)
    have e12 : ((([.bl (decide (0 = i)), .bl (decide (1 = i)), .bl (decide (2 = i))] ++ [.bl (decide (3 = i)), .bl (decide (4 = i)), .bl (decide (5 = i))]) ++ [.bl (decide (6 = i)), .bl (decide (7 = i)), .bl (decide (8 = i))]) ++ [.bl (decide (9 = i)), .bl (decide (10 = i)), .bl (decide (11 = i))]) = bits i := rfl
    refine ⟨_, rfl, a, C, some dd, _, _, _, rfl, s4.at ha, (fun d2 e2 => by cases e2; exact ⟨_, s4.at hdd⟩), N.ex, .own _, kS, _, rfl, iteF ?_⟩
    refine ⟨_, rfl, a, C, some dd, _, _, _, rfl, s4.at ha, (fun d2 e2 => by cases e2; exact ⟨_, s4.at hdd⟩), N.ex, .ty "ValueError", N.kv, _, rfl, iteF ?_⟩
    refine ⟨_, rfl, .inl ⟨rfl, _, SqL.of upd_same⟩, p4, _, _, rfl, rfl, SqL.of upd_same, rfl, ?_, ?_⟩
    · rw [e12]
      exact bits_flat i
    rw [e12]
    have ec : (bits i).countP (fun z => eqV z (.bl true)) = 1 := bits_cnt ⟨i, by omega⟩
    rw [ec]
    refine ⟨rfl, _, rfl, iteF ?_⟩
    refine ⟨_, rfl, .inl ⟨rfl, _, SqL.of upd_same⟩, p4, _, _, i, .bl (decide (i = i)), rfl, rfl, SqL.of upd_same, rfl, bits_flat i, bits_get (by omega), by rw [decide_eq_true rfl]; rfl, fun m z' hm hz => ?_, ?_⟩
    · rw [bits_get (by omega)] at hz
      cases hz
      rw [decide_eq_false (by omega)]
      rfl
    refine ⟨_, rfl, _, _, rfl, rfl, _, rfl, ?_⟩
    rw [decide_eq_false (show ¬ (i : Int) < 7 by omega)]
    refine iteF ⟨_, rfl, rfl, _, rfl, ?_⟩
    rw [show decide (V.int (i : Int) = V.int 7) = true from decide_eq_true (by rw [h7]; rfl)]
    refine iteT ⟨_, rfl, a, C, dd, _, v, rfl, s4.at ha, s4.at hdd, by simp [List.lookup], N.xf, noR, (by show 2 ≤ sizeLine; decide), fun t nt => ?_⟩
    exact k t _ (s4.trans (same_new nt)) upd_same
end
end Vk
/-! text * number -/
namespace Vk
open PySem PySem.Spec PyProof.Rows L2
def repS (z : Str) (k : Nat) : Str := ⟨(List.replicate k z.cps).foldl (· ++ ·) #[]⟩
def rRepS : R2 := fun x y H Q => ∃ (z : Str) (k : Nat), x = .str z ∧ y = .int (k : Int) ∧ 2 ≤ k ∧ k ≤ 1000 ∧ 1 ≤ z.length ∧ z.length * k ≤ 1000 ∧ (repS z k).length ≤ sizeLine ∧ Q (.str (repS z k)) H
theorem op_rep_str {X : Cx} : OpR X (binaryOp .Mult) rRepS := by
  intro pins s σ H x y v u Q I rx ry h
  obtain ⟨z, k, rfl, rfl, k2, k1000, z1, zk, hl, q⟩ := h
  obtain ⟨t, rfl⟩ := rx
  obtain ⟨t', rfl⟩ := ry
  refine PySem.P.mul_str ?_ (fun _ _ => ?_) (fun _ _ => ?_) ?_
  · rw [decide_eq_false (by omega), decide_eq_false (by omega)]
    rfl
  · have z2 : z.length ≤ 1000 := by
      have := Nat.le_mul_of_pos_right z.length (show 0 < k by omega)
      omega
    have h3 : (1000 : Int) ≤ (2 ^ 63 - 1) / (k : Int) := by
      rw [Int.le_ediv_iff_mul_le (by omega)]
      omega
    omega
  · show decide _ = false
    refine decide_eq_false ?_
    have e : (k : Int).toNat = k := Int.toNat_natCast k
    rw [e]
    have : sizeLine = 16777216 := by decide
    omega
  · rw [if_neg (by omega), if_neg (by simp; omega)]
    rw [Int.toNat_natCast]
    exact ⟨hl, ⟨.str (repS z k), H, I.tok _, ⟨_, rfl⟩, q⟩⟩
end Vk
namespace Vk
open PySem PySem.Spec PyProof.Rows L2 GxR
theorem cutP {R G : Prop} (h : R → G) (c : R) : G := h c
def someL : List Str := ["at", "after", "entry", "At", "0", "00", "01", "1", "-1", "+1", "9", "10", repS "1" 31, repS "1" 32, "", "a", "abcdefgh", "abcdefghi", "ab1", "Ab", repS "9" 31, "x"]
theorem someL_len : ∀ s ∈ someL, s.length ≤ 32 := by
  have z : (someL.all fun s => decide (s.length ≤ 32)) = true := by decide +kernel
  intro s hs
  exact of_decide_eq_true (List.all_eq_true.mp z s hs)
def charL : List Str := [" ", "a", "0", "9", "Z", "_", "-", "\n", ";"]
theorem charL_len : ∀ s ∈ charL, s.length = 1 := by
  have z : (charL.all fun s => decide (s.length = 1)) = true := by decide +kernel
  intro s hs
  exact of_decide_eq_true (List.all_eq_true.mp z s hs)
theorem atI_str {l : List Str} {r : Int} (h0 : 0 ≤ r) (h1 : r < l.length) : ∃ s, atI (l.map V.str) r = some (.str s) ∧ s ∈ l := by
  obtain ⟨x, h2, h3⟩ := atI_mem (xs := l.map V.str) h0 (by rw [List.length_map]; exact h1)
  obtain ⟨s, hs, rfl⟩ := List.mem_map.mp h3
  exact ⟨s, h2, hs⟩
theorem map_erase {α β : Type} (f : α → β) : ∀ (l : List α) (i : Nat), (l.map f).eraseIdx i = (l.eraseIdx i).map f
  | [], _ => rfl
  | x :: l, 0 => rfl
  | x :: l, i + 1 => by
    rw [List.map_cons, List.eraseIdx_cons_succ, List.eraseIdx_cons_succ, List.map_cons, map_erase f l i]
theorem cut_from_len (z : Str) (i : Nat) : (cutS z (some (i : Int)) none).length ≤ z.length - i := by
  have e0 : z.length = z.cps.toList.length := slen
  rw [slen]
  show ((z.cps.toList.drop (HT.sIx z.length 0 (some (i : Int)))).take (z.length - HT.sIx z.length 0 (some (i : Int)))).length ≤ _
  rw [HT.sIx_nat, List.length_take, List.length_drop]
  omega
theorem cut_to_len (z : Str) (i : Nat) : (cutS z none (some (i : Int))).length ≤ i := by
  have e0 : z.length = z.cps.toList.length := slen
  rw [slen]
  show ((z.cps.toList.drop 0).take (HT.sIx z.length z.length (some (i : Int)) - 0)).length ≤ _
  rw [HT.sIx_nat, List.length_take, List.length_drop]
  omega
theorem ixN_at {n : Nat} {i : Int} (h0 : 0 ≤ i) (h : i < n) : ixN n i = some i.toNat := by
  unfold ixN
  rw [if_pos h0, if_pos h]
theorem sq_at {n : Nat} {i : Int} (h0 : 0 ≤ i) (h : i < n) : seqIndex? i n = some i.toNat := by
  unfold seqIndex?
  simp
  omega
section
variable {P : Program} {w : World} {K : PySem.W.Frag} {mg : Str → Option Value} {base : Heap}
def spSpoiltLine : Sp := fun vs H Q _ => ∃ (a sc : Addr) (n : Int) (ln : Str), vs = [.ref a, .str ln] ∧ Sto sc a n H ∧ n ≤ 990000 ∧ ln.length ≤ 10000 ∧
  ∀ (t : Str) (H' : Hp), Sto sc a (n + 10) H' → Kept a H H' → t.length ≤ 3 * ln.length + 60 → Q (.str t) H'
theorem scSpoiltLine : FnScope ["store", "line", "words", "at", "there", "some", "way", "text", "cut", "char", "forms"] ["store", "line"] (defScope sSpoiltLine) := ⟨rfl, rfl, rfl, by decide +kernel, rfl, by decide +kernel, by decide +kernel⟩
theorem ok_spoiltLine (D : Df K mg "_law_spoilt_line" sSpoiltLine ["store", "line"]) (B : Blt mg) (PK : Cl P w K mg base CX0 2 "_law_pick" ["store", "count"] spPick) : Cl P w K mg base CX0 3 "_law_spoilt_line" ["store", "line"] spSpoiltLine := by
  refine cl0 D scSpoiltLine (fun vs H Q E h => ?_) (fun f cdv A outer s H vs Q E hr h => ?_)
  · obtain ⟨a, sc, n, ln, rfl, _⟩ := h
    rfl
  · obtain ⟨a, sc, n, ln, rfl, S, n1, lln, k⟩ := h
    refine ⟨_, pss_cons (ps_set (i := 2) scSpoiltLine.nd rfl (Or.inl rfl) (pe_split (pv 1) pe_str))
      (pss_cons (ps_set (i := 3) scSpoiltLine.nd rfl (Or.inl rfl) (pc PK hr (by decide) (pa_cons (pv 0) (pa_cons (pe_callB call_len_seq (by rfl) B.len PySem.boot_len (pa_cons (pv 2) pa_nil)) pa_nil))))
      (pss_cons (ps_set (i := 4) scSpoiltLine.nd rfl (Or.inl rfl) (pc PK hr (by decide) (pa_cons (pv 0) (pa_cons (pe_callB call_len_seq (by rfl) B.len PySem.boot_len (pa_cons (pv 2) pa_nil)) pa_nil))))
      (pss_cons (ps_set (i := 5) scSpoiltLine.nd rfl (Or.inl rfl) (pe_lst (pa_cons pe_str (pa_cons pe_str (pa_cons pe_str (pa_cons pe_str (pa_cons pe_str (pa_cons pe_str (pa_cons pe_str (pa_cons pe_str (pa_cons pe_str (pa_cons pe_str (pa_cons pe_str (pa_cons pe_str (pa_cons (pe_op op_rep_str pe_str pe_int) (pa_cons (pe_op op_rep_str pe_str pe_int) (pa_cons pe_str pa_nil)))))))))))))))))
      (pss_cons (ps_set (i := 5) scSpoiltLine.nd rfl (Or.inl rfl) (pe_op op_cat (pv 5) (pe_lst (pa_cons pe_str (pa_cons pe_str (pa_cons pe_str (pa_cons pe_str (pa_cons pe_str (pa_cons (pe_op op_rep_str pe_str pe_int) (pa_cons pe_str pa_nil))))))))))
      (pss_cons (ps_set (i := 6) scSpoiltLine.nd rfl (Or.inl rfl) (pc PK hr (by decide) (pa_cons (pv 0) (pa_cons pe_int pa_nil))))
      (pss_cons (ps_if (PW.pt (pw_and (pt_cmpR op_eq (pv 6) pe_int (nomark _)) (pw_and1 (pt_cmpR op_gt (pe_callB call_len_seq (by rfl) B.len PySem.boot_len (pa_cons (pv 2) pa_nil)) pe_int (nomark _)))))
          (pss_one (ps_expr (pe_bm PySem.F.plainAttrs_list PySem.F.slot_list_pop PySem.F.type_list_pop mt_popAt (pv 2) (pa_cons (pv 3) pa_nil))))
        (pss_one (ps_if (pt_cmpR op_eq (pv 6) pe_int (nomark _))
          (pss_one (ps_expr (pe_bm PySem.F.plainAttrs_list PySem.F.slot_list_insert PySem.F.type_list_insert mt_insert (pv 2) (pa_cons (pv 4) (pa_cons (pe_ix ix_list (pv 2) (pv 3) (fun _ _ => rfl)) pa_nil)))))
        (pss_one (ps_if (PW.pt (pw_or (pt_cmpR op_eq (pv 6) pe_int (nomark _)) (pw_or1 (pt_cmpR op_eq (pv 6) pe_int (nomark _)))))
          (pss_one (ps_asg (pe_ix ix_list (pv 5) (pc PK hr (by decide) (pa_cons (pv 0) (pa_cons pe_int pa_nil))) (fun _ _ => rfl)) (pg_sub (pv 2) (pv 3) set_list)))
        (pss_one (ps_if (pt_cmpR op_eq (pv 6) pe_int (nomark _))
          (pss_one (ps_asg (pe_tup (pa_cons (pe_ix ix_list (pv 2) (pv 4) (fun _ _ => rfl)) (pa_cons (pe_ix ix_list (pv 2) (pv 3) (fun _ _ => rfl)) pa_nil))) (pg_tup rfl (pgs_cons (pg_sub (pv 2) (pv 3) set_list) (pgs_cons (pg_sub (pv 2) (pv 4) set_list) pgs_nil)))))
        (pss_one (ps_if (pt_cmpR op_eq (pv 6) pe_int (nomark _))
          (pss_one (ps_set (i := 2) scSpoiltLine.nd rfl (Or.inl rfl) (pe_op op_cat (pv 2) (pe_ix ix_list (pe_lst (pa_cons (pe_lst (pa_cons pe_str (pa_cons (pe_ix ix_list (pv 5) (pc PK hr (by decide) (pa_cons (pv 0) (pa_cons pe_int pa_nil))) (fun _ _ => rfl)) pa_nil))) (pa_cons (pe_lst (pa_cons pe_str pa_nil)) (pa_cons (pe_lst (pa_cons pe_str pa_nil)) (pa_cons (pe_lst (pa_cons pe_str pa_nil)) pa_nil))))) (pc PK hr (by decide) (pa_cons (pv 0) (pa_cons pe_int pa_nil))) (fun _ _ => rfl))))) pss_nil)))))))))
      (pss_cons (ps_set (i := 7) scSpoiltLine.nd rfl (Or.inl rfl) (pe_join pe_str (pv 2)))
      (pss_cons (ps_set (i := 8) scSpoiltLine.nd rfl (Or.inl rfl) (pc PK hr (by decide) (pa_cons (pv 0) (pa_cons (pe_op op_add (pe_callB call_len (by rfl) B.len PySem.boot_len (pa_cons (pv 7) pa_nil)) pe_int) pa_nil))))
      (pss_cons (ps_set (i := 9) scSpoiltLine.nd rfl (Or.inl rfl) (pe_ix ix_list (pe_lst (pa_cons pe_str (pa_cons pe_str (pa_cons pe_str (pa_cons pe_str (pa_cons pe_str (pa_cons pe_str (pa_cons pe_str (pa_cons pe_str (pa_cons pe_str pa_nil)))))))))) (pc PK hr (by decide) (pa_cons (pv 0) (pa_cons pe_int pa_nil))) (fun _ _ => rfl)))
      (pss_cons (ps_if (pt_cmpR op_eq (pv 6) pe_int (nomark _))
          (pss_cons (ps_set (i := 10) scSpoiltLine.nd rfl (Or.inl rfl) (pe_lst (pa_cons (pe_op op_add_str (pe_op op_add_str (pe_slice sl_str (pv 7) po_none (po_some (pv 8))) (pv 9)) (pe_slice sl_str (pv 7) (po_some (pv 8)) po_none))
            (pa_cons (pe_op op_add_str (pe_slice sl_str (pv 7) po_none (po_some (pv 8))) (pe_slice sl_str (pv 7) (po_some (pe_op op_add (pv 8) pe_int)) po_none))
            (pa_cons (pe_op op_add_str (pe_op op_add_str (pe_slice sl_str (pv 7) po_none (po_some (pv 8))) (pv 9)) (pe_slice sl_str (pv 7) (po_some (pe_op op_add (pv 8) pe_int)) po_none)) pa_nil)))))
          (pss_one (ps_set (i := 7) scSpoiltLine.nd rfl (Or.inl rfl) (pe_ix ix_list (pv 10) (pc PK hr (by decide) (pa_cons (pv 0) (pa_cons pe_int pa_nil))) (fun _ _ => rfl))))) pss_nil)
      (pss_one (ps_ret (pv 7))))))))))))), ?_⟩
    refine ⟨_, rfl, ⟨_, rfl⟩, _, " ", rfl, rfl, by decide +kernel, Nat.le_trans (show _ + 2 ≤ 10002 by omega) (by decide), fun p np => ?_⟩
    have wtw := split_sp ln
    have wne := split_sp_ne ln
    generalize Txt.split ln " " = ws at wtw wne ⊢
    have wpos : 0 < ws.length := List.length_pos_iff.mpr wne
    have wlen := wt_len ws
    have pa := S.ne np
    have psc := S.ne2 np
    have s1 := same_new (o := .lst (ws.map V.str)) np
    have S1 := S.same s1
    have K1 : Kept a H (upd H p (.lst (ws.map V.str))) := kept_same s1
    have hp1 : upd H p (.lst (ws.map V.str)) p = some (.lst (ws.map V.str)) := upd_same
    generalize upd H p (.lst (ws.map V.str)) = H1 at S1 K1 hp1 ⊢
    have ml : (ws.map V.str).length = ws.length := List.length_map ..
    refine ⟨_, rfl, _, rfl, p, _, rfl, .inl (SqL.of hp1), a, sc, _, n, rfl, by omega, by omega, S1, by omega, fun at_ H2 a0 a1 S2 K2 => ?_⟩
    have hp2 := K2.at hp1 pa
    refine ⟨_, rfl, _, rfl, p, _, rfl, .inl (SqL.of hp2), a, sc, _, _, rfl, by omega, by omega, S2, by omega, fun th H3 b0 b1 S3 K3 => ?_⟩
    have hp3 := K3.at hp2 pa
    have K13 := (K1.trans K2).trans K3
    rw [ml] at a1 b1
    -- some
    refine ⟨"1", 31, rfl, rfl, by decide, by decide, by decide +kernel, by decide +kernel, by decide +kernel, "1", 32, rfl, rfl, by decide, by decide, by decide +kernel, by decide +kernel, by decide +kernel, (by show 15 ≤ sizeLine; decide), fun q1 nq1 => ?_⟩
    have t1 := same_new (o := .lst (((someL).take 15).map V.str)) nq1
    refine ⟨_, rfl, "9", 31, rfl, rfl, by decide, by decide, by decide +kernel, by decide +kernel, by decide +kernel, (by show 7 ≤ sizeLine; decide), fun q2 nq2 => ?_⟩
    have t2 := same_new (o := .lst (((someL).drop 15).map V.str)) nq2
    refine ⟨q1, q2, _, _, rfl, rfl, t2.at upd_same, upd_same, (by show 15 + 7 ≤ sizeLine; decide), fun q3 nq3 => ?_⟩
    have t3 := same_new (o := .lst (someL.map V.str)) nq3
    have t13 := (t1.trans t2).trans t3
    have S4 := S3.same t13
    have q3a := ((S3.same t1).same t2).ne nq3
    refine ⟨_, rfl, a, sc, 7, _, rfl, by decide, by decide, S4, by omega, fun wy H5 w0 w7 S5 K5 => ?_⟩
    have hp5 := K5.at (t13.at hp3) pa
    have hs5 : H5 q3 = some (.lst (someL.map V.str)) := K5.at upd_same q3a
    have K15 : Kept a H H5 := (K13.trans (kept_same t13)).trans K5
    have pq : p ≠ q3 := ne_of_none ((t1.trans t2).at hp3) nq3
    apply cutR (α := L2.St → Hp → Prop) (F := fun R => ∀ (q : Addr) (us : List Str) (G : Hp), G q = some (.lst (us.map V.str)) → wt us ≤ 3 * ln.length + 50 → Sto sc a (n + 5) G → Kept a H G →
        R [some (.ref a), some (.str ln), some (.ref q), some (.int at_), some (.int th), some (.ref q3), some (.int wy), none, none, none, none] G)
    · intro cont
      have same0 : wt ws ≤ 3 * ln.length + 50 := by omega
      refine ⟨_, rfl, rfl, _, rfl, ?_⟩
      have put : ∀ {G : Hp} {vs : List V} {us : List Str} {m : Int}, Kept a H G → Sto sc a m G → m ≤ n + 5 → vs = us.map V.str → wt us ≤ 3 * ln.length + 50 →
          upd G p (.lst vs) p = some (.lst (us.map V.str)) ∧ wt us ≤ 3 * ln.length + 50 ∧ Sto sc a (n + 5) (upd G p (.lst vs)) ∧ Kept a H (upd G p (.lst vs)) := fun KG SG hm e hw =>
        ⟨by rw [e]; exact upd_same, hw, (SG.other pa psc).more hm, kept_new_put KG np pa⟩
      have small : ∀ s ∈ ws, s.length ≤ ln.length := fun s hs => by
        have := wt_mem hs
        omega
      have big63 : ∀ {i : Int} {m : Nat}, i < m → m ≤ 20000 → i < 2 ^ 63 := fun h1 h2 => by
        have z : (20000 : Int) < 2 ^ 63 := by decide
        omega
      apply cutP
      · intro els
        refine ite2 (fun _ => ?_) (fun _ => iteF els)
        refine ⟨_, rfl, p, _, rfl, .inl (SqL.of hp5), _, _, rfl, rfl, _, rfl, ?_⟩
        refine ite2 (fun _ => ?_) (fun _ => els)
        -- pop
        have hj : at_.toNat < ws.length := by omega
        obtain ⟨z1, z2, z3, z4⟩ := put (us := ws.eraseIdx at_.toNat) (vs := (ws.map V.str).eraseIdx at_.toNat) K15 S5 (by omega) (map_erase _ _ _) (by have := wt_erase ws at_.toNat; omega)
        exact ⟨_, rfl, .inl ⟨rfl, _, SqL.of hp5⟩, _, rfl, p, _, at_, at_.toNat, .str ws[at_.toNat], rfl, rfl, hp5, by omega, big63 a1 (by omega), sq_at a0 (by rw [ml]; exact a1), by rw [List.getElem?_map, List.getElem?_eq_getElem hj]; rfl, cont p _ _ z1 z2 z3 z4⟩
      refine ⟨_, rfl, rfl, _, rfl, ?_⟩
      refine ite2 (fun _ => ?_) (fun _ => ?_)
      · -- insert
        obtain ⟨s, hs, ms⟩ := atI_str (l := ws) a0 a1
        have := small s ms
        obtain ⟨z1, z2, z3, z4⟩ := put (us := ws.take th.toNat ++ [s] ++ ws.drop th.toNat) (vs := (ws.map V.str).take th.toNat ++ [V.str s] ++ (ws.map V.str).drop th.toNat) K15 S5 (by omega) (by simp [List.map_take, List.map_drop]) (by rw [wt_ins]; omega)
        exact ⟨_, rfl, .inl ⟨rfl, _, SqL.of hp5⟩, _, rfl, _, rfl, _, rfl, p, _, _, _, rfl, rfl, SqL.of hp5, hs, p, _, th, _, rfl, rfl, hp5, by rw [ml]; exact Nat.lt_of_le_of_lt (show ws.length ≤ 20000 by omega) (by decide), b0, big63 b1 (by omega), cont p _ _ z1 z2 z3 z4⟩
      apply cutP
      · intro els
        refine ⟨_, rfl, rfl, _, rfl, ?_⟩
        refine ite2 (fun _ => iteT els) (fun _ => ⟨_, rfl, rfl, _, rfl, ?_⟩)
        refine ite2 (fun _ => els) (fun _ => ⟨_, rfl, rfl, _, rfl, ?_⟩)
        refine ite2 (fun _ => ?_) (fun _ => ⟨_, rfl, rfl, _, rfl, ?_⟩)
        · -- swap
          obtain ⟨s, hs, ms⟩ := atI_str (l := ws) a0 a1
          obtain ⟨u, hu, mu⟩ := atI_str (l := ws) b0 b1
          have l1 := small s ms
          have l2 := small u mu
          refine ⟨_, rfl, _, rfl, p, _, _, _, rfl, rfl, SqL.of hp5, hu, _, rfl, _, rfl, p, _, _, _, rfl, rfl, SqL.of hp5, hs, (by show 2 ≤ sizeLine; decide), fun t nt => ?_⟩
          have st := same_new (o := .tup [V.str u, V.str s]) nt
          obtain ⟨z1, z2, z3, z4⟩ := put (us := (ws.set at_.toNat u).set th.toNat s) (vs := ((ws.map V.str).set at_.toNat (.str u)).set th.toNat (.str s)) (K15.trans (kept_same st)) (S5.same st) (by omega) (by rw [List.map_set, List.map_set]) (by
            have h1 := wt_set s (ws.set at_.toNat u) th.toNat
            have h2 := wt_set u ws at_.toNat
            omega)
          refine ⟨t, _, rfl, SqT.of upd_same, rfl, _, _, rfl, _, rfl, _, rfl, p, _, _, _, rfl, rfl, st.at hp5, ixN_at a0 (by rw [ml]; exact a1), _, _, rfl, _, rfl, _, rfl, p, _, _, _, rfl, rfl, upd_same, ixN_at b0 (by rw [List.length_set, ml]; exact b1), rfl, ?_⟩
          have e : ∀ {G : Hp} {x y : HO}, upd (upd G p x) p y = upd G p y := fun {G x y} => by
            funext b
            by_cases h : b = p
            · rw [h, upd_same, upd_same]
            · rw [upd_ne h, upd_ne h, upd_ne h]
          rw [e]
          exact cont p _ _ z1 z2 z3 z4
        refine ite2 (fun _ => ?_) (fun _ => cont p ws H5 hp5 same0 (S5.more (by omega)) K15)
        -- cat
        refine ⟨_, rfl, _, rfl, _, rfl, a, sc, 22, _, rfl, by decide, by decide, S5, by omega, fun x G x0 x22 SG KG => ?_⟩
        obtain ⟨s, hs, ms⟩ := atI_str (l := someL) x0 x22
        have l1 := someL_len s ms
        refine ⟨q3, _, _, _, rfl, rfl, SqL.of (KG.at hs5 q3a), hs, (by show 2 ≤ sizeLine; decide), fun e1 ne1 => ?_⟩
        have g1 := same_new (o := .lst ([("entry" : Str), s].map V.str)) ne1
        refine ⟨(by show 1 ≤ sizeLine; decide), fun e2 ne2 => ?_⟩
        have g2 := same_new (o := .lst ([("at" : Str)].map V.str)) ne2
        refine ⟨(by show 1 ≤ sizeLine; decide), fun e3 ne3 => ?_⟩
        have g3 := same_new (o := .lst ([("" : Str)].map V.str)) ne3
        refine ⟨(by show 1 ≤ sizeLine; decide), fun e4 ne4 => ?_⟩
        have g4 := same_new (o := .lst ([("entry" : Str)].map V.str)) ne4
        refine ⟨(by show 4 ≤ sizeLine; decide), fun e5 ne5 => ?_⟩
        have g5 := same_new (o := .lst [V.ref e1, V.ref e2, V.ref e3, V.ref e4]) ne5
        have g15 := (((g1.trans g2).trans g3).trans g4).trans g5
        have S9 := SG.same g15
        have e1a := SG.ne ne1
        have e2a := (SG.same g1).ne ne2
        have e3a := ((SG.same g1).same g2).ne ne3
        have e4a := (((SG.same g1).same g2).same g3).ne ne4
        have e5a := ((((SG.same g1).same g2).same g3).same g4).ne ne5
        refine ⟨_, rfl, a, sc, 4, _, rfl, by decide, by decide, S9, by omega, fun y G2 y0 y4 SG2 KG2 => ?_⟩
        obtain ⟨v, hv, mv⟩ := atI_mem (xs := [V.ref e1, V.ref e2, V.ref e3, V.ref e4]) y0 y4
        have hpG := KG2.at (g15.at (KG.at hp5 pa)) pa
        have KK : Kept a H G2 := ((K15.trans KG).trans (kept_same g15)).trans KG2
        obtain ⟨e, es, rfl, he, we⟩ : ∃ (e : Addr) (es : List Str), v = .ref e ∧ G2 e = some (.lst (es.map V.str)) ∧ wt es ≤ 45 := by
          simp only [List.mem_cons, List.not_mem_nil, or_false] at mv
          rcases mv with rfl | rfl | rfl | rfl
          · refine ⟨e1, [("entry" : Str), s], rfl, KG2.at (((g2.trans g3).trans (g4.trans g5)).at upd_same) e1a, ?_⟩
            rw [wt_cons, wt_cons, wt_nil, show ("entry" : Str).length = 5 from by decide +kernel]
            omega
          · exact ⟨e2, [("at" : Str)], rfl, KG2.at ((g3.trans (g4.trans g5)).at upd_same) e2a, by decide +kernel⟩
          · exact ⟨e3, [("" : Str)], rfl, KG2.at ((g4.trans g5).at upd_same) e3a, by decide +kernel⟩
          · exact ⟨e4, [("entry" : Str)], rfl, KG2.at (g5.at upd_same) e4a, by decide +kernel⟩
        have wl2 := wt_len es
        refine ⟨e5, _, _, _, rfl, rfl, SqL.of (KG2.at upd_same e5a), hv, p, e, _, _, rfl, rfl, hpG, he, Nat.le_trans (show _ ≤ 20000 by rw [ml, List.length_map]; omega) (by decide), fun q nq => ?_⟩
        have sq := same_new (o := .lst (ws.map V.str ++ es.map V.str)) nq
        refine cont q (ws ++ es) _ (by rw [List.map_append]; exact upd_same) ?_ ((SG2.same sq).more (by omega)) (KK.trans (kept_same sq))
        rw [wt_app]
        omega
      -- set
      refine ⟨_, rfl, _, rfl, a, sc, 22, _, rfl, by decide, by decide, S5, by omega, fun x G x0 x22 SG KG => ?_⟩
      obtain ⟨s, hs, ms⟩ := atI_str (l := someL) x0 x22
      have l1 := someL_len s ms
      obtain ⟨z1, z2, z3, z4⟩ := put (us := ws.set at_.toNat s) (vs := (ws.map V.str).set at_.toNat (.str s)) (K15.trans KG) SG (by omega) (by rw [List.map_set]) (by
        have h2 := wt_set s ws at_.toNat
        omega)
      exact ⟨q3, _, _, _, rfl, rfl, SqL.of (KG.at hs5 q3a), hs, _, rfl, _, rfl, p, _, _, _, rfl, rfl, KG.at hp5 pa, ixN_at a0 (by rw [ml]; exact a1), cont p _ _ z1 z2 z3 z4⟩
    intro q us G hq wu SG KG
    have jl := join_wt (a := " ") us (by decide +kernel)
    refine ⟨⟨_, rfl⟩, _, rfl, _, q, us, rfl, rfl, .inl (SqL.of hq), ?_, ?_⟩
    · rw [show (" " : Str).length = 1 from by decide +kernel, wt_sum]
      omega
    generalize Txt.join " " us = tx at jl ⊢
    have szx : tx.length ≤ sizeLine := Nat.le_trans (show tx.length ≤ 40000 by omega) (by decide)
    refine ⟨_, rfl, _, rfl, .str tx, tx.length, rfl, ⟨szx, rfl⟩, _, _, rfl, rfl, a, sc, _, _, rfl, by omega, by omega, SG, by omega, fun cu G1 c0 c1 SG1 KG1 => ?_⟩
    refine ⟨(by show 9 ≤ sizeLine; decide), fun r nr => ?_⟩
    have sr := same_new (o := .lst (charL.map V.str)) nr
    have ra := SG1.ne nr
    refine ⟨_, rfl, a, sc, 9, _, rfl, by decide, by decide, SG1.same sr, by omega, fun x G2 x0 x9 SG2 KG2 => ?_⟩
    obtain ⟨ch, hch, mch⟩ := atI_str (l := charL) x0 x9
    have lch := charL_len ch mch
    refine ⟨r, _, _, _, rfl, rfl, SqL.of (KG2.at upd_same ra), hch, ?_⟩
    have KK : Kept a H G2 := ((KG.trans KG1).trans (kept_same sr)).trans KG2
    refine ⟨_, rfl, rfl, _, rfl, ?_⟩
    refine ite2 (fun _ => ?_) (fun _ => ⟨_, rfl, k tx G2 (SG2.more (by omega)) KK (by omega)⟩)
    have cl : ∀ lo hi, (cutS tx lo hi).length ≤ tx.length := fun lo hi => cutS_length _ _ _
    have big : ∀ {m : Nat}, m ≤ 100000 → m ≤ sizeLine := fun h => Nat.le_trans h (by decide)
    -- the three
    refine ⟨_, rfl, ?_⟩
    dsimp only [tNoPart]
    have c1' := cl none (some cu)
    have c2' := cl (some cu) none
    have c3' := cl (some (cu + 1)) none
    refine ⟨_, rfl, _, rfl, tx, rfl, szx, _, rfl, _, _, rfl, rfl, big (by omega), ?_⟩
    refine ⟨_, rfl, _, rfl, _, rfl, ?_⟩
    dsimp only [tNoPart]
    refine ⟨tx, rfl, szx, _, _, rfl, rfl, big (by rw [alen]; omega), ?_⟩
    refine ⟨_, rfl, ?_⟩
    dsimp only [tNoPart]
    refine ⟨_, rfl, _, rfl, tx, rfl, szx, ?_⟩
    refine ⟨_, rfl, _, rfl, _, _, rfl, rfl, _, rfl, ?_⟩
    dsimp only [tNoPart]
    refine ⟨tx, rfl, szx, _, _, rfl, rfl, big (by omega), ?_⟩
    refine ⟨_, rfl, ?_⟩
    dsimp only [tNoPart]
    refine ⟨_, rfl, _, rfl, tx, rfl, szx, _, rfl, _, _, rfl, rfl, big (by omega), ?_⟩
    refine ⟨_, rfl, _, rfl, _, _, rfl, rfl, _, rfl, ?_⟩
    dsimp only [tNoPart]
    refine ⟨tx, rfl, szx, _, _, rfl, rfl, big (by rw [alen]; omega), (by show 3 ≤ sizeLine; decide), fun f3 nf3 => ?_⟩
    have lL : ∃ fl : List Str, fl.length = 3 ∧ (∀ s ∈ fl, s.length ≤ 3 * ln.length + 60) ∧ [V.str ((cutS tx none (some cu) ++ ch) ++ cutS tx (some cu) none), .str (cutS tx none (some cu) ++ cutS tx (some (cu + 1)) none), .str ((cutS tx none (some cu) ++ ch) ++ cutS tx (some (cu + 1)) none)] = fl.map V.str := by
      refine ⟨[(cutS tx none (some cu) ++ ch) ++ cutS tx (some cu) none, cutS tx none (some cu) ++ cutS tx (some (cu + 1)) none, (cutS tx none (some cu) ++ ch) ++ cutS tx (some (cu + 1)) none], rfl, fun s hs => ?_, rfl⟩
      obtain ⟨j, rfl⟩ := Int.eq_ofNat_of_zero_le c0
      have d1 := cut_to_len tx j
      have d2 := cut_from_len tx j
      have d3 := cut_from_len tx (j + 1)
      have e3 : ((j + 1 : Nat) : Int) = (j : Int) + 1 := by omega
      rw [e3] at d3
      simp only [List.mem_cons, List.not_mem_nil, or_false] at hs
      rcases hs with rfl | rfl | rfl
      · rw [alen, alen]
        omega
      · rw [alen]
        omega
      · rw [alen, alen]
        omega
    obtain ⟨fl, fl3, fll, efl⟩ := lL
    rw [efl]
    have sf := same_new (o := .lst (fl.map V.str)) nf3
    have fa := SG2.ne nf3
    refine ⟨_, rfl, _, rfl, a, sc, 3, _, rfl, by decide, by decide, SG2.same sf, by omega, fun y G3 y0 y3 SG3 KG3 => ?_⟩
    obtain ⟨s, hs, ms⟩ := atI_str (l := fl) y0 (by rw [fl3]; exact y3)
    exact ⟨f3, _, _, _, rfl, rfl, SqL.of (KG3.at upd_same fa), hs, _, rfl, k s G3 (SG3.more (by omega)) ((KK.trans (kept_same sf)).trans KG3) (fll s ms)⟩
end
end Vk
namespace Vk
open PySem PySem.Spec PyProof.Rows L2 GxR
theorem line_b (n k d : Str) : ((n ++ " ") ++ k) ++ ((Str.empty ++ " ") ++ d) = (((((Str.empty ++ n) ++ " ") ++ k) ++ " ") ++ d) := by
  refine TL.ext_tl ?_
  show (((n ++ " ") ++ k) ++ ((Str.empty ++ " ") ++ d)).cps.toList = (((((Str.empty ++ n) ++ " ") ++ k) ++ " ") ++ d).cps.toList
  simp only [cps_app]
  show ((TL.tl n ++ TL.tl " ") ++ TL.tl k) ++ ((([] : List Nat) ++ TL.tl " ") ++ TL.tl d) = ((((([] : List Nat) ++ TL.tl n) ++ TL.tl " ") ++ TL.tl k) ++ TL.tl " ") ++ TL.tl d
  simp only [List.nil_append, List.append_assoc]
theorem line_b2 (x e : Str) : x ++ ((Str.empty ++ " entry ") ++ e) = ((Str.empty ++ x) ++ " entry ") ++ e := by
  refine TL.ext_tl ?_
  show (x ++ ((Str.empty ++ " entry ") ++ e)).cps.toList = (((Str.empty ++ x) ++ " entry ") ++ e).cps.toList
  simp only [cps_app]
  show TL.tl x ++ ((([] : List Nat) ++ TL.tl " entry ") ++ TL.tl e) = ((([] : List Nat) ++ TL.tl x) ++ TL.tl " entry ") ++ TL.tl e
  simp only [List.nil_append, List.append_assoc]
section
variable {P : Program} {w : World} {K : PySem.W.Frag} {mg : Str → Option Value} {base : Heap}
theorem scJobLine : FnScope ["job", "name", "arrival", "door", "line"] ["job"] (defScope sJobLine) := ⟨rfl, rfl, rfl, by decide +kernel, rfl, by decide +kernel, by decide +kernel⟩
theorem ok_jobLine (D : Df K mg "_law_job_line" sJobLine ["job"]) : Cl P w K mg base CX0 1 "_law_job_line" ["job"] (spShowJob K) := by
  refine cl0 D scJobLine (fun vs H Q E h => ?_) (fun f cdv A outer s H vs Q E hr h => ?_)
  · obtain ⟨v, d, rfl, _⟩ := h
    rfl
  · obtain ⟨v, d, rfl, hd, wd, k⟩ := h
    refine ⟨_, pss_cons (ps_asg (pv 0) (pg_tup rfl (pgs_cons (pg_name (i := 1) scJobLine.nd rfl (.inl rfl)) (pgs_cons (pg_name (i := 2) scJobLine.nd rfl (.inl rfl)) (pgs_cons (pg_name (i := 3) scJobLine.nd rfl (.inl rfl)) pgs_nil)))))
      (pss_cons (ps_set (i := 4) scJobLine.nd rfl (Or.inl rfl) (pe_op op_add_str (pe_op op_add_str (pe_op op_add_str (pv 1) pe_str) (pe_ix ix_tup (pv 2) pe_int (fun _ _ => rfl))) (pe_joined (.cons pe_str (.cons (pe_fmt (pe_ix ix_tup (pv 2) pe_int (fun _ _ => rfl))) .nil)))))
      (pss_cons (ps_if (pt_cmpR op_gt (pv 3) pe_int (nomark _)) (pss_one (ps_set (i := 4) scJobLine.nd rfl (Or.inl rfl) (pe_op op_add_str (pv 4) (pe_joined (.cons pe_str (.cons (pe_fmt (pv 3)) .nil)))))) pss_nil)
      (pss_one (ps_ret (pv 4))))), ?_⟩
    obtain ⟨n, kd, t, e, rfl, hn, hk⟩ := job_parts wd.1
    obtain ⟨t0, e0, e9⟩ := job_nums wd.1
    obtain ⟨p, x, y, z, rfl, q, dn, da, de⟩ := dp_three hd
    obtain ⟨pa, kv, tv, rfl, qa, dk, dt⟩ := dp_two da
    have en := dp_str dn
    subst en
    have ek := dp_str dk
    subst ek
    have et := dp_int dt
    subst et
    have ee := dp_int de
    subst ee
    have t30 := wd.2 _ _ _ _ rfl
    refine ⟨_, rfl, p, _, rfl, q, rfl, _, _, rfl, _, _, rfl, _, _, rfl, rfl, ?_⟩
    obtain ⟨_, n8, _⟩ := nameD_iff.mp hn
    rw [← slen] at n8
    have k5 : kd.length ≤ 5 := by rcases hk with rfl | rfl <;> decide +kernel
    obtain ⟨tn, rfl⟩ := dg_nat t0
    obtain ⟨en, rfl⟩ := dg_nat e0
    have t30' : tn ≤ 10 ^ 30 := by exact_mod_cast t30
    have e30' : en ≤ 10 ^ 30 := Nat.le_trans (show en ≤ 9 by omega) (by decide)
    obtain ⟨_, dt31⟩ := dg_len t30'
    obtain ⟨_, de31⟩ := dg_len e30'
    have b1 : (" " : Str).length = 1 := by decide +kernel
    have b0 : (Str.empty).length = 0 := by decide +kernel
    have b7 : (" entry " : Str).length = 7 := by decide +kernel
    refine ⟨_, rfl, _, _, rfl, rfl, small_le (by omega), ?_⟩
    refine ⟨_, rfl, pa, _, _, _, rfl, rfl, qa, rfl, _, _, rfl, rfl, small_le (by rw [alen]; omega), ?_⟩
    refine ⟨_, rfl, small_le (by rw [alen]; omega), ?_⟩
    refine ⟨_, rfl, pa, _, _, _, rfl, rfl, qa, rfl, .inr ⟨tn, rfl, log_ok t30', dg tn, rfl, small_le (by rw [alen, alen]; omega), ?_⟩⟩
    refine ⟨_, _, rfl, rfl, small_le (by rw [alen, alen, alen, alen]; omega), ?_⟩
    rw [show ((n ++ " ") ++ kd) ++ ((Str.empty ++ " ") ++ dg tn) = _ from line_b n kd (dg tn)]
    have lw : (((((Str.empty ++ n) ++ " ") ++ kd) ++ " ") ++ dg tn).length ≤ 46 := by
      rw [alen, alen, alen, alen, alen]
      omega
    refine ⟨_, rfl, _, _, rfl, rfl, _, rfl, ?_⟩
    refine ite2 (fun hz => ?_) (fun hz => ?_)
    · have h0 : (0 : Int) < en := of_decide_eq_true hz
      have e1 : lineOf (.tuple [.str n, .tuple [.str kd, .int tn], .int en]) = ((Str.empty ++ (((((Str.empty ++ n) ++ " ") ++ kd) ++ " ") ++ dg tn)) ++ " entry ") ++ dg en := by
        rw [← line_tl2]
        show Txt.join " " (if 0 < (en : Int) then _ else _) = _
        rw [if_pos h0]
      rw [e1] at k
      generalize ((((Str.empty ++ n) ++ " ") ++ kd) ++ " ") ++ dg tn = wl at lw k ⊢
      refine ⟨_, rfl, _, rfl, small_le (by rw [alen]; omega), ?_⟩
      refine ⟨_, rfl, .inr ⟨en, rfl, log_ok e30', dg en, rfl, small_le (by rw [alen, alen]; omega), ?_⟩⟩
      refine ⟨_, _, rfl, rfl, small_le (by rw [alen, alen]; omega), ?_⟩
      rw [show wl ++ ((Str.empty ++ " entry ") ++ dg en) = _ from line_b2 wl (dg en)]
      exact ⟨_, rfl, k⟩
    · have h0 : ¬ (0 : Int) < en := fun z => hz (decide_eq_true z)
      have e1 : lineOf (.tuple [.str n, .tuple [.str kd, .int tn], .int en]) = (((((Str.empty ++ n) ++ " ") ++ kd) ++ " ") ++ dg tn) := by
        rw [← line_tl]
        show Txt.join " " (if 0 < (en : Int) then _ else _) = _
        rw [if_neg h0]
      rw [e1] at k
      exact ⟨_, rfl, k⟩
end
end Vk
namespace Vk
open PySem PySem.Spec PyProof.Rows L2 GxR
def rEqNilT (K : PySem.W.Frag) : R2 := fun x y H Q => ∃ p q xs, x = .ref p ∧ y = .ref q ∧ SqT K H p xs ∧ SqT K H q [] ∧ Q (.bl xs.isEmpty) H
theorem op_eqNilT {X : Cx} (hu : X.A.units < cLine) : OpR X (compareOp .Eq) (rEqNilT X.K) := by
  intro pins s σ H x y v u Q I rx ry h
  obtain ⟨p, q, xs, rfl, rfl, hp, hq, k⟩ := h
  cases rx
  cases ry
  obtain ⟨is1, r1, p1, _⟩ := I.tuple hp
  obtain ⟨is2, r2, p2, _⟩ := I.tuple hq
  cases r2
  have z : ((List.range (min is1.toArray.size ([] : List Value).toArray.size)).all (fun _ => true) && is1.toArray.size == ([] : List Value).toArray.size) = xs.isEmpty := by
    cases xs with
    | nil =>
      cases r1
      rfl
    | cons x r =>
      cases r1
      simp
  refine SeqAt.eq_tupleAt (e := fun _ => true) p1 p2 hu (fun j _ h2 => absurd h2 (Nat.not_lt_zero _)) ?_
  rw [z]
  exact ⟨.bl xs.isEmpty, H, I, rfl, k⟩
theorem line_len85 {d : PyData} (h : wrD d) : (lineOf d).length ≤ 85 := by
  obtain ⟨n, k, t, e, rfl, hk, hn, ht, he, hp⟩ := parts_of h
  obtain ⟨_, n8, _⟩ := nameD_iff.mp hn
  rw [← slen] at n8
  have k5 : k.length ≤ 5 := by rcases hk with rfl | rfl <;> decide +kernel
  have l1 := (dg_len ht).2
  have l2 := (dg_len (Nat.le_trans (show e ≤ 9 by omega) (show 9 ≤ 10 ^ 30 by decide))).2
  have l3 : ("entry" : Str).length = 5 := by decide +kernel
  unfold lineOf
  refine Nat.le_trans (join_wt _ (by decide +kernel)) ?_
  rw [hp]
  split
  · rw [wt_cons, wt_cons, wt_cons, wt_cons, wt_cons, wt_nil]
    omega
  · rw [wt_cons, wt_cons, wt_cons, wt_nil]
    omega
/-- how long a line can get -/
def bd : Nat → Nat
  | 0 => 85
  | i + 1 => 3 * bd i + 60
theorem bd_succ (i : Nat) : bd (i + 1) = 3 * bd i + 60 := rfl
theorem bd_pos : ∀ i, 85 ≤ bd i
  | 0 => Nat.le_refl _
  | i + 1 => by
    have := bd_pos i
    rw [bd_succ]
    omega
theorem bd_le {i : Nat} (h : i ≤ 3) : bd i ≤ 3075 := by
  have z : i = 0 ∨ i = 1 ∨ i = 2 ∨ i = 3 := by omega
  rcases z with rfl | rfl | rfl | rfl <;> decide
theorem wt_all {m : Nat} : ∀ {ls : List Str}, (∀ s ∈ ls, s.length ≤ m) → wt ls ≤ ls.length * (m + 1)
  | [], _ => Nat.zero_le _
  | x :: ls, h => by
    have h1 := h x (by simp)
    have h2 := wt_all (ls := ls) fun s hs => h s (List.mem_cons_of_mem _ hs)
    rw [wt_cons, List.length_cons, Nat.succ_mul]
    omega
def shortL : List Str := ["", " ", "a at 0", "a after 1"]
theorem shortL_len : ∀ s ∈ shortL, s.length ≤ 9 := by
  have z : (shortL.all fun s => decide (s.length ≤ 9)) = true := by decide +kernel
  intro s hs
  exact of_decide_eq_true (List.all_eq_true.mp z s hs)
section
variable {P : Program} {w : World} {K : PySem.W.Frag} {mg : Str → Option Value} {base : Heap}
def spSpoiltText (K : PySem.W.Frag) : Sp := fun vs H Q _ => ∃ (a sc : Addr) (n : Int) (v : V) (js : List PyData), vs = [.ref a, v] ∧ Sto sc a n H ∧ n ≤ 980000 ∧ Dp K (Off a H) v (.tuple js) ∧ (∀ j ∈ js, wrD j) ∧ js.length ≤ 12 ∧
  ∀ (t : Str) (H' : Hp), Sto sc a (n + 60) H' → Kept a H H' → t.length ≤ 49999 → Q (.str t) H'
theorem scSpoiltText : FnScope ["store", "jobs", "lines", "k", "at", "way", "text", "job"] ["store", "jobs"] (defScope sSpoiltText) := ⟨rfl, rfl, rfl, by decide +kernel, rfl, by decide +kernel, by decide +kernel⟩
theorem ok_spoiltText (D : Df K mg "_law_spoilt_text" sSpoiltText ["store", "jobs"]) (B : Blt mg) (PK : Cl P w K mg base CX0 2 "_law_pick" ["store", "count"] spPick) (LL : Cl P w K mg base CX0 1 "_law_job_line" ["job"] (spShowJob K))
    (SL : Cl P w K mg base CX0 3 "_law_spoilt_line" ["store", "line"] spSpoiltLine) : Cl P w K mg base CX0 4 "_law_spoilt_text" ["store", "jobs"] (spSpoiltText K) := by
  refine cl0 D scSpoiltText (fun vs H Q E h => ?_) (fun f cdv A outer s H vs Q E hr h => ?_)
  · obtain ⟨a, sc, n, v, js, rfl, _⟩ := h
    rfl
  · obtain ⟨a, sc, n, v, js, rfl, S, n1, dv, wr, l12, k⟩ := h
    refine ⟨_, pss_cons (ps_set (i := 2) scSpoiltText.nd rfl (Or.inl rfl) (pe_op op_cat (pe_lc (own := [("job", 7)]) (g := gName 7) (tt := tYes) (te := tCal (spShowJob K) (tCons (tVar 7) tNil)) (by rfl) scSpoiltText.nd (pi_tup (pv 1)) (blkOk_by (own := [("job", 7)]) (N := ["store", "jobs", "lines", "k", "at", "way", "text", "job"]) (sc := defScope sSpoiltText) (by decide +kernel))
          (fun _ _ _ _ _ => pg_name (i := 7) scSpoiltText.nd rfl (Or.inl rfl)) (fun _ _ _ _ _ => pts_nil) (fun _ _ _ _ _ => pc LL hr (by decide) (pa_cons (pv 7) pa_nil)))
        (pe_op op_rep (pe_lst (pa_cons pe_str pa_nil)) (pe_callTy call_int1 (by rfl) B.int (by decide +kernel) (pa_cons (pe_cmpR (op_eqNilT (Nat.lt_of_succ_lt (hu_of hr))) (pv 1) (pe_tup pa_nil) (nomark _)) pa_nil)))))
      (pss_cons (ps_for PassesOwn.never rfl (pi_range1 rfl B.range (pa_cons (pe_op op_add pe_int (pc PK hr (by decide) (pa_cons (pv 0) (pa_cons pe_int pa_nil)))) pa_nil)) (pg_name (i := 3) scSpoiltText.nd rfl (Or.inl rfl))
        (pss_cons (ps_set (i := 4) scSpoiltText.nd rfl (Or.inl rfl) (pc PK hr (by decide) (pa_cons (pv 0) (pa_cons (pe_callB call_len_seq (by rfl) B.len PySem.boot_len (pa_cons (pv 2) pa_nil)) pa_nil))))
        (pss_cons (ps_set (i := 5) scSpoiltText.nd rfl (Or.inl rfl) (pc PK hr (by decide) (pa_cons (pv 0) (pa_cons pe_int pa_nil))))
        (pss_one (ps_if (PW.pt (pw_and (pt_cmpR op_eq (pv 5) pe_int (nomark _)) (pw_and1 (pt_cmpR op_gt (pe_callB call_len_seq (by rfl) B.len PySem.boot_len (pa_cons (pv 2) pa_nil)) pe_int (nomark _)))))
            (pss_one (ps_expr (pe_bm PySem.F.plainAttrs_list PySem.F.slot_list_pop PySem.F.type_list_pop mt_popAt (pv 2) (pa_cons (pv 4) pa_nil))))
          (pss_one (ps_if (pt_cmpR op_eq (pv 5) pe_int (nomark _))
            (pss_one (ps_expr (pe_bm PySem.F.plainAttrs_list PySem.F.slot_list_insert PySem.F.type_list_insert mt_insert (pv 2) (pa_cons (pc PK hr (by decide) (pa_cons (pv 0) (pa_cons (pe_callB call_len_seq (by rfl) B.len PySem.boot_len (pa_cons (pv 2) pa_nil)) pa_nil))) (pa_cons (pe_ix ix_list (pv 2) (pv 4) (fun _ _ => rfl)) pa_nil)))))
          (pss_one (ps_if (pt_cmpR op_eq (pv 5) pe_int (nomark _))
            (pss_one (ps_asg (pe_ix ix_list (pe_lst (pa_cons pe_str (pa_cons pe_str (pa_cons pe_str (pa_cons pe_str pa_nil))))) (pc PK hr (by decide) (pa_cons (pv 0) (pa_cons pe_int pa_nil))) (fun _ _ => rfl)) (pg_sub (pv 2) (pv 4) set_list)))
            (pss_one (ps_asg (pc SL hr (by decide) (pa_cons (pv 0) (pa_cons (pe_ix ix_list (pv 2) (pv 4) (fun _ _ => rfl)) pa_nil))) (pg_sub (pv 2) (pv 4) set_list))))))))))))
      (pss_cons (ps_set (i := 6) scSpoiltText.nd rfl (Or.inl rfl) (pe_join pe_str (pv 2)))
      (pss_one (ps_ret (pe_ix ix_list (pe_lst (pa_cons (pv 6) (pa_cons (pv 6) (pa_cons (pe_op op_add_str (pv 6) pe_str) (pa_cons (pe_op op_add_str pe_str (pv 6)) (pa_cons (pe_op op_add_str pe_str (pv 6)) (pa_cons (pe_op op_add_str (pv 6) pe_str) pa_nil))))))) (pc PK hr (by decide) (pa_cons (pv 0) (pa_cons pe_int pa_nil))) (fun _ _ => rfl)))))), ?_⟩
    obtain ⟨pj, xs, rfl, qj, rj⟩ := dp_tuple dv
    have xl := dps_len rj
    have sub := off_sub a H
    have qH := same_seqT sub qj
    refine ⟨_, rfl, pj, rfl, ⟨_, qH⟩, fun D1 nD1 => ?_⟩
    refine lc_it (walk_tup (K := K) (a := pj) (xs := xs)) (fun m Hc => Same H Hc ∧ Hc D1 = some (.lst (((js.take m).map lineOf).map V.str)))
      ⟨same_new nD1, upd_same⟩ (fun m Hc _ ⟨s1, _⟩ => same_seqT s1 qH) ?_ ?_
    · rintro m y1 Hc0 Hc hm ⟨s1, hD⟩ ⟨rfl, hy1⟩
      obtain ⟨d1, hd1, dd1⟩ := dps_getV rj hy1
      refine ⟨rfl, _, rfl, y1, d1, rfl, dp_same (sub.trans s1) dd1, wr d1 (List.mem_of_getElem? hd1), _, hD, ?_, same_put s1 nD1, ?_⟩
      · rw [List.length_map, List.length_map, List.length_take]
        exact Nat.lt_of_le_of_lt (show min m js.length ≤ 12 by omega) (by decide)
      · rw [upd_same, List.take_add_one, hd1]
        simp
    rintro Hc ⟨s1, hD⟩
    rw [xl, List.take_length] at hD
    refine ⟨(by show 1 ≤ sizeLine; decide), fun e1 ne1 => ?_⟩
    have g1 := same_new (o := .lst [V.str ("" : Str)]) ne1
    refine ⟨_, rfl, (by show 0 ≤ sizeLine; decide), fun e2 ne2 => ?_⟩
    have g2 := same_new (o := .tup []) ne2
    refine ⟨pj, e2, xs, rfl, rfl, same_seqT ((s1.trans g1).trans g2) qH, SqT.of upd_same, .inr ⟨_, rfl, ?_⟩⟩
    have g12 := g1.trans g2
    have fin : ∀ (es : List Str) (p2 : Addr) (G : Hp) (l : Addr), Same Hc G → 1 ≤ js.length + es.length → js.length + es.length ≤ 12 → (∀ s ∈ es, s.length ≤ 85) → G l = none → H l = none ∧ l ≠ a ∧ l ≠ sc ∧ Sto sc a n (upd G l (.lst (((js.map lineOf).map V.str) ++ es.map V.str))) ∧
        Kept a H (upd G l (.lst (((js.map lineOf).map V.str) ++ es.map V.str))) ∧ upd G l (.lst (((js.map lineOf).map V.str) ++ es.map V.str)) l = some (.lst ((js.map lineOf ++ es).map V.str)) ∧ 1 ≤ (js.map lineOf ++ es).length ∧ (js.map lineOf ++ es).length ≤ 12 ∧ (∀ s ∈ js.map lineOf ++ es, s.length ≤ bd 0) ∧
        ((js.map lineOf).map V.str).length + (es.map V.str).length ≤ sizeLine := fun es p2 G l gG le1 le2 les nl => by
      have ell : (js.map lineOf ++ es).length = js.length + es.length := by rw [List.length_append, List.length_map]
      have sl := same_new (o := .lst (((js.map lineOf).map V.str) ++ es.map V.str)) nl
      have sH : Same H G := s1.trans gG
      have S2 := S.same sH
      refine ⟨sH.free nl, S2.ne nl, S2.ne2 nl, S2.same sl, kept_same (sH.trans sl), by rw [List.map_append]; exact upd_same, by omega, by omega, fun s hs => ?_, Nat.le_trans (show _ ≤ 12 by rw [List.length_map, List.length_map, List.length_map]; omega) (by decide)⟩
      rcases List.mem_append.mp hs with hs | hs
      · obtain ⟨d, hd, rfl⟩ := List.mem_map.mp hs
        exact line_len85 (wr d hd)
      · exact les s hs
    apply cutR (α := L2.St → Hp → Prop) (F := fun R => ∀ (ls : List Str) (l : Addr) (G : Hp), H l = none → l ≠ a → l ≠ sc → Sto sc a n G → Kept a H G → G l = some (.lst (ls.map V.str)) → 1 ≤ ls.length → ls.length ≤ 12 → (∀ s ∈ ls, s.length ≤ bd 0) →
        R [some (.ref a), some (.ref pj), some (.ref l), none, none, none, none, none] G)
    · intro cont
      cases hb : xs.isEmpty with
      | true =>
        refine ⟨e1, _, _, rfl, rfl, g2.at upd_same, by decide, by decide, by decide, fun p np => ?_⟩
        have l0 : js.length = 0 := by
          rw [List.isEmpty_iff.mp hb] at xl
          exact xl.symm
        have sp := same_new (o := .lst ([("" : Str)].map V.str)) np
        refine ⟨D1, p, _, _, rfl, rfl, (g12.trans sp).at hD, upd_same, ?_, fun l nl => ?_⟩
        · rw [List.length_map, List.length_map, l0]
          decide
        obtain ⟨z1, z2, z3, z4, z5, z6, z7, z8, z9, _⟩ := fin [("" : Str)] p _ l (g12.trans sp) (by rw [l0]; decide) (by rw [l0]; decide) (fun s hs => by
          rw [List.mem_singleton.mp hs]
          decide) nl
        exact cont _ l _ z1 z2 z3 z4 z5 z6 z7 z8 z9
      | false =>
        refine ⟨e1, _, _, rfl, rfl, g2.at upd_same, by decide, by decide, by decide, fun p np => ?_⟩
        have l0 : js.length ≠ 0 := fun e => by
          rw [e] at xl
          rw [List.eq_nil_of_length_eq_zero xl] at hb
          cases hb
        have sp := same_new (o := .lst (([] : List Str).map V.str)) np
        refine ⟨D1, p, _, _, rfl, rfl, (g12.trans sp).at hD, upd_same, ?_, fun l nl => ?_⟩
        · rw [List.length_map, List.length_map]
          exact Nat.le_trans (show js.length + 0 ≤ 12 by omega) (by decide)
        obtain ⟨z1, z2, z3, z4, z5, z6, z7, z8, z9, _⟩ := fin [] p _ l (g12.trans sp) (by rw [List.length_nil]; omega) (by rw [List.length_nil]; omega) (fun s hs => absurd hs (by simp)) nl
        exact cont _ l _ z1 z2 z3 z4 z5 z6 z7 z8 z9
    intro ls0 l G0 nlH la lsc S0 K0 hl0 le1 le2 len0
    have big63 : ∀ {i : Int} {m : Nat}, i < m → m ≤ 20000 → i < 2 ^ 63 := fun h1 h2 => by
      have z : (20000 : Int) < 2 ^ 63 := by decide
      omega
    refine ⟨_, rfl, a, sc, 3, _, rfl, by decide, by decide, S0, by omega, fun r G1 r0 r3 S1 K1 => ?_⟩
    refine ⟨_, _, rfl, rfl, 1 + r, rfl, by omega, by omega, ?_⟩
    refine for_range (lo := 0) (n := (1 + r).toNat) (fun i σ G => ∃ (u3 u4 u5 : Option V) (ls : List Str), σ = [some (.ref a), some (.ref pj), some (.ref l), u3, u4, u5, none, none] ∧ Sto sc a (n + 1 + 15 * i) G ∧ Kept a H G ∧ G l = some (.lst (ls.map V.str)) ∧ 1 ≤ ls.length ∧ ls.length ≤ 12 + i ∧ ∀ s ∈ ls, s.length ≤ bd i)
      ⟨none, none, none, ls0, rfl, S1.more (by omega), K0.trans K1, K1.at hl0 la, le1, by omega, len0⟩ ?_ ?_
    · rintro i σ G hi ⟨u3, u4, u5, ls, rfl, SG, KG, hl, ln1, ln2, lnb⟩
      have i2 : i ≤ 2 := by omega
      have bi := bd_le (i := i) (by omega)
      have bp := bd_pos i
      have bs := bd_succ i
      have ml : (ls.map V.str).length = ls.length := List.length_map ..
      have put : ∀ {Gx : Hp} {vs : List V} {us : List Str} {m : Int} {u3 u4 u5 : Option V}, Kept a H Gx → Sto sc a m Gx → m ≤ n + 1 + 15 * ((i + 1 : Nat) : Int) → vs = us.map V.str → 1 ≤ us.length → us.length ≤ 12 + (i + 1) → (∀ s ∈ us, s.length ≤ bd (i + 1)) →
          ∃ (v3 v4 v5 : Option V) (ls : List Str), [some (.ref a), some (.ref pj), some (.ref l), u3, u4, u5, none, none] = [some (.ref a), some (.ref pj), some (.ref l), v3, v4, v5, none, none] ∧ Sto sc a (n + 1 + 15 * ((i + 1 : Nat) : Int)) (upd Gx l (.lst vs)) ∧ Kept a H (upd Gx l (.lst vs)) ∧ (upd Gx l (.lst vs)) l = some (.lst (ls.map V.str)) ∧ 1 ≤ ls.length ∧ ls.length ≤ 12 + (i + 1) ∧ ∀ s ∈ ls, s.length ≤ bd (i + 1) := fun {Gx vs us m u3 u4 u5} KG SG hm e h1 h2 h3 =>
        ⟨u3, u4, u5, us, rfl, (SG.other la lsc).more hm, kept_new_put KG nlH la, by rw [e]; exact upd_same, h1, h2, h3⟩
      refine ⟨_, rfl, _, rfl, l, _, rfl, .inl (SqL.of hl), a, sc, _, _, rfl, by omega, by omega, SG, by omega, fun at_ G2 a0 a1 SG2 KG2 => ?_⟩
      rw [ml] at a1
      have hl2 := KG2.at hl la
      refine ⟨_, rfl, a, sc, 8, _, rfl, by decide, by decide, SG2, by omega, fun wy G3 w0 w8 SG3 KG3 => ?_⟩
      have hl3 := KG3.at hl2 la
      have K3 := (KG.trans KG2).trans KG3
      have hj : at_.toNat < ls.length := by omega
      obtain ⟨s, hs, ms⟩ := atI_str (l := ls) a0 a1
      have hsl := lnb s ms
      refine ⟨_, rfl, rfl, _, rfl, ?_⟩
      apply cutP
      · intro els
        refine ite2 (fun _ => ?_) (fun _ => iteF els)
        refine ⟨_, rfl, l, _, rfl, .inl (SqL.of hl3), _, _, rfl, rfl, _, rfl, ?_⟩
        refine ite2 (fun h2 => ?_) (fun _ => els)
        have h2' : (1 : Int) < ((ls.map V.str).length : Nat) := of_decide_eq_true h2
        rw [ml] at h2'
        exact ⟨_, rfl, .inl ⟨rfl, _, SqL.of hl3⟩, _, rfl, l, _, at_, at_.toNat, .str ls[at_.toNat], rfl, rfl, hl3, by omega, big63 a1 (by omega), sq_at a0 (by rw [ml]; exact a1), by rw [List.getElem?_map, List.getElem?_eq_getElem hj]; rfl,
          put K3 SG3 (by omega) (map_erase _ ls at_.toNat) (by rw [List.length_eraseIdx]; split <;> omega) (by rw [List.length_eraseIdx]; split <;> omega) (fun x hx => by have := lnb x (List.mem_of_mem_eraseIdx hx); omega)⟩
      refine ⟨_, rfl, rfl, _, rfl, ?_⟩
      refine ite2 (fun _ => ?_) (fun _ => ⟨_, rfl, rfl, _, rfl, ?_⟩)
      · refine ⟨_, rfl, .inl ⟨rfl, _, SqL.of hl3⟩, _, rfl, _, rfl, l, _, rfl, .inl (SqL.of hl3), a, sc, _, _, rfl, by omega, by omega, SG3, by omega, fun th G4 b0 b1 SG4 KG4 => ?_⟩
        rw [ml] at b1
        have hl4 := KG4.at hl3 la
        exact ⟨_, rfl, _, rfl, l, _, _, _, rfl, rfl, SqL.of hl4, hs, l, _, th, _, rfl, rfl, hl4, by rw [ml]; exact Nat.lt_of_le_of_lt (show ls.length ≤ 20000 by omega) (by decide), b0, big63 b1 (by omega),
          put (us := ls.take th.toNat ++ [s] ++ ls.drop th.toNat) (K3.trans KG4) SG4 (by omega) (by simp [List.map_take, List.map_drop]) (by simp only [List.length_append, List.length_take, List.length_drop, List.length_singleton]; omega) (by simp only [List.length_append, List.length_take, List.length_drop, List.length_singleton]; omega) (fun x hx => by
            simp only [List.mem_append, List.mem_singleton] at hx
            rcases hx with (hx | rfl) | hx
            · have := lnb x (List.mem_of_mem_take hx)
              omega
            · omega
            · have := lnb x (List.mem_of_mem_drop hx)
              omega)⟩
      have setOk : ∀ x : Str, x.length ≤ bd (i + 1) → ∀ y ∈ ls.set at_.toNat x, y.length ≤ bd (i + 1) := fun x hx y hy => by
        rcases List.mem_or_eq_of_mem_set hy with hy | rfl
        · have := lnb y hy
          omega
        · exact hx
      refine ite2 (fun _ => ?_) (fun _ => ?_)
      · refine ⟨(by show 4 ≤ sizeLine; decide), fun q nq => ?_⟩
        have sq := same_new (o := .lst (shortL.map V.str)) nq
        have qa := SG3.ne nq
        refine ⟨_, rfl, a, sc, 4, _, rfl, by decide, by decide, SG3.same sq, by omega, fun x G4 x0 x4 SG4 KG4 => ?_⟩
        obtain ⟨u, hu, mu⟩ := atI_str (l := shortL) x0 x4
        have ul := shortL_len u mu
        exact ⟨q, _, _, _, rfl, rfl, SqL.of (KG4.at upd_same qa), hu, _, rfl, _, rfl, l, _, _, _, rfl, rfl, KG4.at (sq.at hl3) la, ixN_at a0 (by rw [ml]; exact a1),
          put (us := ls.set at_.toNat u) ((K3.trans (kept_same sq)).trans KG4) SG4 (by omega) (by rw [List.map_set]) (by rw [List.length_set]; exact ln1) (by rw [List.length_set]; omega) (setOk u (by omega))⟩
      · refine ⟨_, rfl, _, rfl, _, rfl, l, _, _, _, rfl, rfl, SqL.of hl3, hs, a, sc, _, s, rfl, SG3, by omega, by omega, fun t G4 SG4 KG4 lt => ?_⟩
        exact ⟨_, rfl, _, rfl, l, _, _, _, rfl, rfl, KG4.at hl3 la, ixN_at a0 (by rw [ml]; exact a1),
          put (us := ls.set at_.toNat t) (K3.trans KG4) SG4 (by omega) (by rw [List.map_set]) (by rw [List.length_set]; exact ln1) (by rw [List.length_set]; omega) (setOk t (by omega))⟩
    · rintro σ G ⟨u3, u4, u5, ls, rfl, SG, KG, hl, ln1, ln2, lnb⟩
      have bi := bd_le (i := (1 + r).toNat) (by omega)
      have wl := wt_all lnb
      have wm : ls.length * (bd (1 + r).toNat + 1) ≤ 15 * 3076 := Nat.mul_le_mul (by omega) (by omega)
      have jl := join_wt (a := "\n") ls (by decide +kernel)
      refine ⟨⟨_, rfl⟩, _, rfl, _, l, ls, rfl, rfl, .inl (SqL.of hl), ?_, ?_⟩
      · rw [show ("\n" : Str).length = 1 from by decide +kernel, wt_sum]
        omega
      generalize Txt.join "\n" ls = tx at jl ⊢
      have big : ∀ {m : Nat}, m ≤ 100000 → m ≤ sizeLine := fun h => Nat.le_trans h (by decide)
      have o1 : ("\n" : Str).length = 1 := by decide +kernel
      have o2 : (" " : Str).length = 1 := by decide +kernel
      refine ⟨_, rfl, _, rfl, _, rfl, _, _, rfl, rfl, big (by omega), _, rfl, _, _, rfl, rfl, big (by omega), _, rfl, _, _, rfl, rfl, big (by omega), _, rfl, _, _, rfl, rfl, big (by omega), (by show 6 ≤ sizeLine; decide), fun q nq => ?_⟩
      have sq := same_new (o := .lst ([tx, tx, tx ++ "\n", "\n" ++ tx, " " ++ tx, tx ++ " "].map V.str)) nq
      have qa := SG.ne nq
      refine ⟨_, rfl, a, sc, 6, _, rfl, by decide, by decide, SG.same sq, by omega, fun x G4 x0 x6 SG4 KG4 => ?_⟩
      obtain ⟨u, hu, mu⟩ := atI_str (l := [tx, tx, tx ++ "\n", "\n" ++ tx, " " ++ tx, tx ++ " "]) x0 x6
      refine ⟨q, _, _, _, rfl, rfl, SqL.of (KG4.at upd_same qa), hu, k u G4 (SG4.more (by omega)) ((KG.trans (kept_same sq)).trans KG4) ?_⟩
      simp only [List.mem_cons, List.not_mem_nil, or_false] at mu
      rcases mu with rfl | rfl | rfl | rfl | rfl | rfl
      · omega
      · omega
      · rw [alen]
        omega
      · rw [alen]
        omega
      · rw [alen]
        omega
      · rw [alen]
        omega
end
end Vk
namespace Vk
open PySem PySem.Spec PyProof.Rows L2 GxR
theorem sh_two {s : Str} {i : Int} (h : PyData.strOk s = true) : SeqAt.shaped (.tuple [.str s, .int i]) = true := by
  have a : PyData.canLay0 (.tuple [.str s, .int i]) = true := by simp [PyData.canLay0, PyData.canLayAll0, h]
  have b : PyData.depth (.tuple [.str s, .int i]) ≤ 64 := by simp [PyData.depth, PyData.depthAll]
  unfold SeqAt.shaped
  rw [a, decide_eq_true b]
  rfl
section
variable {P : Program} {w : World} {K : PySem.W.Frag} {mg : Str → Option Value} {base : Heap}
theorem scRight : FnScope ["text", "due", "caught", "found", "e"] ["text"] (defScope sRight) := ⟨rfl, rfl, rfl, by decide +kernel, rfl, by decide +kernel, by decide +kernel⟩
def spRight (K : PySem.W.Frag) (T T2 : Addr) : Sp := fun vs H Q _ => ∃ (tx : Str), vs = [.str tx] ∧ tx.length ≤ 49999 ∧ TabG H T ∧ TabG H T2 ∧ ∀ H', Same H H' → Q (.bl true) H'
theorem ok_right {T T2 C Ct : Addr} {i7 : Nat} (D : Df K mg "_law_right" sRight ["text"]) (B : Blt mg) (N : Kn K mg C 0) (N7 : Kn K mg Ct i7) (DU : Cl P w K mg base CX0 4 "_law_due" ["text"] (spDue K)) (RD : Cl P w K mg base (L2.CX P w) 6 "read_jobs" ["text"] (spReadJobs K T T2 C Ct))
    (KI : Cl P w K mg base CX0 1 "_law_kind" ["caught"] (spKind2 C Ct)) : Cl P w K mg base CX0 7 "_law_right" ["text"] (spRight K T T2) := by
  refine cl0 D scRight (fun vs H Q E h => ?_) (fun f cdv A outer s H vs Q E hr h => ?_)
  · obtain ⟨v, rfl, _⟩ := h
    rfl
  · obtain ⟨tx, rfl, ltx, tg, tg2, k⟩ := h
    obtain ⟨S, mS, _, exm⟩ := N.se
    obtain ⟨S', mS', _, exm'⟩ := N7.se
    have eS : S' = S := by
      have z := mS'.symm.trans mS
      cases z
      rfl
    subst eS
    obtain ⟨fC, fdC, mC, kpC, bC, FC⟩ := RD.ex
    refine ⟨_, pss_cons (ps_set (i := 1) scRight.nd rfl (Or.inl rfl) (pc DU hr (by decide) (pa_cons (pv 0) pa_nil)))
      (pss_cons (ps_set (i := 2) scRight.nd rfl (Or.inl rfl) pe_non)
      (pss_cons (ps_set (i := 3) scRight.nd rfl (Or.inl rfl) pe_non)
      (pss_cons (ps_try_keep (i := 4) (c := .ref S') (tb := fun W => tAsg (tCallS (spReadJobs K T T2 C Ct) (WE W) (tCons (tVar 0) tNil)) (gName 3)) (ts := fun _ _ _ => tAsg (tVar 4) (gName 2)) rfl rfl rfl scRight.nd rfl rfl rfl mS (by decide)
          (fun W pn xe tk _ => pss_one (ps_set (i := 3) scRight.nd rfl (Or.inl rfl) (by exact (pe_callS FC hr rfl mC kpC bC (fun σ => passAt tk σ) (by exact (pa_cons (pv 0) pa_nil))))))
          (fun a oe cls d pn _ _ => pss_one (ps_set (i := 2) scRight.nd rfl (Or.inl rfl) (by exact (pv 4)))))
      (pss_cons (ps_if (pt_val (pe_callB call_isi (by rfl) B.isi (by decide +kernel) (pa_cons (pv 1) (pa_cons (pe_bltn (v := .ty "tuple") (u := .type "tuple") (by rfl) B.tuple (by decide +kernel) rfl) pa_nil)))) (pss_one (ps_ret (pe_and (pe_cmpR op_isN (pv 2) pe_non (nomark _)) (pe_and (pe_cmpR (op_eqD hr.units) (pv 3) (pv 1) (nomark _)) (pe_one (pe_callB call_isi (by rfl) B.isi (by decide +kernel) (pa_cons (pv 3) (pa_cons (pe_bltn (v := .ty "tuple") (u := .type "tuple") (by rfl) B.tuple (by decide +kernel) rfl) pa_nil)))))))) pss_nil)
      (pss_one (ps_ret (pe_and (pe_cmpR op_notN (pv 2) pe_non (nomark _)) (pe_one (pe_cmpR (op_eqD hr.units) (pc KI hr (by decide) (pa_cons (pv 2) pa_nil)) (pe_tup (pa_cons (pe_ix ix_list (pv 1) pe_int (fun _ _ => rfl)) (pa_cons (pe_ix ix_list (pv 1) pe_int (fun _ _ => rfl)) pa_nil))) (nomark _)))))))))), ?_⟩
    refine ⟨_, rfl, tx, rfl, ltx, fun v H1 s1 dv => ?_⟩
    refine ⟨_, rfl, tx, rfl, ltx, s1.tab T tg, s1.tab T2 tg2, fun i hi dx H2 s2 hx => ?_, fun rp pn v2 H2 s2 d2 => ?_, fun rp i hi dx H2 s2 hx => ?_⟩
    · have e : dueD tx = .list [.str "text", .int (i : Int)] := by
        unfold dueD
        rw [hi]
      rw [e] at dv
      refine ⟨exm', fun a na => ⟨_, rfl, fun na2 => ?_⟩⟩
      have s12 := s2.trans (same_new (o := Xco a (.ref Ct) (some dx)) na2)
      have hx3 : upd H2 a (Xco a (.ref Ct) (some dx)) dx = some (.xd [(("row" : Str), .int (i : Int))]) := by
        rw [upd_ne (ne_of_none hx na2)]
        exact hx
      have dv2 := dp_same s12 dv
      refine ⟨_, rfl, v, _, _, _, _, rfl, .ty "tuple", dp_ty dv2, kit_tup dv2, _, rfl, iteF ?_⟩
      refine ⟨_, rfl, rfl, _, rfl, iteT ?_⟩
      refine ⟨_, rfl, .inr ⟨a, dx, _, rfl, upd_same, hx3, fun t H4 s4 ht => ?_⟩⟩
      have dv4 := dp_same s4 dv2
      obtain ⟨pv', xs, rfl, qv, rv⟩ : ∃ p xs, v = .ref p ∧ SqL K H4 p xs ∧ DpAll K H4 xs [.str "text", .int (i : Int)] := by
        cases dv4 with
        | lst q r => exact ⟨_, _, rfl, q, r⟩
      obtain ⟨x0, h0, q0⟩ := dps_get rv (i := 0) rfl
      obtain ⟨x1, h1, q1⟩ := dps_get rv (i := 1) rfl
      have ex0 := dp_str q0
      subst ex0
      have ex1 := dp_int q1
      subst ex1
      refine ⟨_, rfl, pv', xs, 0, _, rfl, rfl, qv, atI_nat (j := 0) h0, _, rfl, pv', xs, 1, _, rfl, rfl, qv, atI_nat (j := 1) h1, (by show 2 ≤ sizeLine; decide), fun u nu => ?_⟩
      have d1 : Dp K (upd H4 u (.tup [.str ("text" : Str), .int (i : Int)])) (.ref t) (.tuple [.str ("text" : Str), .int (i : Int)]) := .tup (SqT.of ((same_new nu).at ht)) (.cons (.str _) (.cons (.int _) .nil))
      have d2 : Dp K (upd H4 u (.tup [.str ("text" : Str), .int (i : Int)])) (.ref u) (.tuple [.str ("text" : Str), .int (i : Int)]) := .tup (SqT.of upd_same) (.cons (.str _) (.cons (.int _) .nil))
      have sh := sh_two (s := "text") (i := (i : Int)) (by decide +kernel)
      refine ⟨_, _, d1, d2, sh, sh, ?_⟩
      show Q (.bl (PyData.eqv _ _)) _
      rw [SeqAt.eqv_refl _ (SeqAt.canLay_of_shaped sh)]
      exact k _ ((s1.trans s12).trans (s4.trans (same_new nu)))
    · have e : dueD tx = .tuple (dsOf tx) := by
        unfold dueD
        rw [rp]
        show (match jobsPlace (.tuple (dsOf tx)) with
          | some i => PyData.list [.str "jobs", .int i]
          | none => .tuple (dsOf tx)) = _
        rw [pn]
      rw [e] at dv
      have dv2 := dp_same s2 dv
      have sh := shaped_tup (js := dsOf tx) fun j hj => ds_or hj
      refine ⟨_, rfl, v, _, _, _, _, rfl, .ty "tuple", dp_ty dv2, kit_tup dv2, _, rfl, iteT ?_⟩
      refine ⟨_, rfl, rfl, _, rfl, iteT ?_⟩
      refine ⟨_, rfl, _, rfl, _, _, d2, dv2, sh, sh, _, rfl, ?_⟩
      rw [SeqAt.eqv_refl _ (SeqAt.canLay_of_shaped sh)]
      exact iteT ⟨_, rfl, v2, _, _, _, _, rfl, .ty "tuple", dp_ty d2, kit_tup d2, k _ (s1.trans s2)⟩
    · have e : dueD tx = .list [.str "jobs", .int i] := by
        unfold dueD
        rw [rp]
        show (match jobsPlace (.tuple (dsOf tx)) with
          | some i => PyData.list [.str "jobs", .int i]
          | none => .tuple (dsOf tx)) = _
        rw [hi]
      rw [e] at dv
      refine ⟨exm, fun a na => ⟨_, rfl, fun na2 => ?_⟩⟩
      have s12 := s2.trans (same_new (o := Xco a (.ref C) (some dx)) na2)
      have hx3 : upd H2 a (Xco a (.ref C) (some dx)) dx = some (.xd [(("place" : Str), .int i)]) := by
        rw [upd_ne (ne_of_none hx na2)]
        exact hx
      have dv2 := dp_same s12 dv
      refine ⟨_, rfl, v, _, _, _, _, rfl, .ty "tuple", dp_ty dv2, kit_tup dv2, _, rfl, iteF ?_⟩
      refine ⟨_, rfl, rfl, _, rfl, iteT ?_⟩
      refine ⟨_, rfl, .inl ⟨a, dx, _, rfl, upd_same, hx3, fun t H4 s4 ht => ?_⟩⟩
      have dv4 := dp_same s4 dv2
      obtain ⟨pv', xs, rfl, qv, rv⟩ : ∃ p xs, v = .ref p ∧ SqL K H4 p xs ∧ DpAll K H4 xs [.str "jobs", .int i] := by
        cases dv4 with
        | lst q r => exact ⟨_, _, rfl, q, r⟩
      obtain ⟨x0, h0, q0⟩ := dps_get rv (i := 0) rfl
      obtain ⟨x1, h1, q1⟩ := dps_get rv (i := 1) rfl
      have ex0 := dp_str q0
      subst ex0
      have ex1 := dp_int q1
      subst ex1
      refine ⟨_, rfl, pv', xs, 0, _, rfl, rfl, qv, atI_nat (j := 0) h0, _, rfl, pv', xs, 1, _, rfl, rfl, qv, atI_nat (j := 1) h1, (by show 2 ≤ sizeLine; decide), fun u nu => ?_⟩
      have d1 : Dp K (upd H4 u (.tup [.str ("jobs" : Str), .int i])) (.ref t) (.tuple [.str ("jobs" : Str), .int i]) := .tup (SqT.of ((same_new nu).at ht)) (.cons (.str _) (.cons (.int _) .nil))
      have d2 : Dp K (upd H4 u (.tup [.str ("jobs" : Str), .int i])) (.ref u) (.tuple [.str ("jobs" : Str), .int i]) := .tup (SqT.of upd_same) (.cons (.str _) (.cons (.int _) .nil))
      have sh := sh_two (s := "jobs") (i := i) (by decide +kernel)
      refine ⟨_, _, d1, d2, sh, sh, ?_⟩
      show Q (.bl (PyData.eqv _ _)) _
      rw [SeqAt.eqv_refl _ (SeqAt.canLay_of_shaped sh)]
      exact k _ ((s1.trans s12).trans (s4.trans (same_new nu)))
end
end Vk
namespace Vk
open PySem PySem.Spec PyProof.Rows L2 GxR
def fixedL : List Str := ["", "\n", " ", "a at 0\n", "a at 0\na at 1", "a after 1", "a at 0\nb after 2", "a at 0 entry 0", "a at 00"]
theorem fixedL_len : ∀ s ∈ fixedL, s.length ≤ 49999 := by
  have z : (fixedL.all fun s => decide (s.length ≤ 49999)) = true := by decide +kernel
  intro s hs
  exact of_decide_eq_true (List.all_eq_true.mp z s hs)
section
variable {P : Program} {w : World} {K : PySem.W.Frag} {mg : Str → Option Value} {base : Heap}
def spLaw (K : PySem.W.Frag) (T T2 : Addr) : Sp := fun vs H Q _ => ∃ (a : Addr) (ns : List Int), vs = [.ref a] ∧ SqL K H a (ns.map V.int) ∧ ns.length ≤ 63 ∧ TabG H T ∧ TabG H T2 ∧ ∀ H', Q (.bl true) H'
theorem scLaw : FnScope ["script", "store", "turn", "jobs", "k", "text", "fixed"] ["script"] (defScope sLaw) := ⟨rfl, rfl, rfl, by decide +kernel, rfl, by decide +kernel, by decide +kernel⟩
theorem ok_law {f T T2 : Addr} {fd : FuncData} (F : Fun K "law" "law" sLaw f fd) (B : Blt mg) (ST : Cl P w K mg base CX0 1 "_law_store" ["script"] (spStore K)) (JB : Cl P w K mg base CX0 4 "_law_jobs" ["store", "most", "late"] (spJobs K))
    (SX : Cl P w K mg base CX0 4 "_law_spoilt_text" ["store", "jobs"] (spSpoiltText K)) (RT : Cl P w K mg base CX0 7 "_law_right" ["text"] (spRight K T T2)) :
    FnOk P w K mg base CX0 8 f fd ["script"] (spLaw K T T2) := by
  refine F.ok scLaw (fun vs H Q E h => ?_) (fun cdv A outer s H vs Q E hr h => ?_)
  · obtain ⟨a, ns, rfl, _⟩ := h
    rfl
  · obtain ⟨a, ns, rfl, hS, hlen, tg, tg2, k⟩ := h
    refine ⟨_, pss_cons (ps_set (i := 1) scLaw.nd rfl (Or.inl rfl) (pc ST hr (by decide) (pa_cons (pv 0) pa_nil)))
      (pss_cons (ps_for PassesOwn.never rfl (pi_range1 rfl B.range (pa_cons pe_int pa_nil)) (pg_name (i := 2) scLaw.nd rfl (Or.inl rfl))
        (pss_cons (ps_set (i := 3) scLaw.nd rfl (Or.inl rfl) (pc JB hr (by decide) (pa_cons (pv 1) (pa_cons (pe_ix ix_list (pe_lst (pa_cons pe_int (pa_cons pe_int (pa_cons pe_int (pa_cons pe_int (pa_cons pe_int pa_nil)))))) (pv 2) (fun _ _ => rfl)) (pa_cons pe_int pa_nil)))))
        (pss_one (ps_for PassesOwn.never rfl (pi_range1 rfl B.range (pa_cons pe_int pa_nil)) (pg_name (i := 4) scLaw.nd rfl (Or.inl rfl))
          (pss_cons (ps_set (i := 5) scLaw.nd rfl (Or.inl rfl) (pc SX hr (by decide) (pa_cons (pv 1) (pa_cons (pv 3) pa_nil))))
          (pss_one (ps_if (PW.pt (pw_or (pt_not (pt_val (pc RT hr (by decide) (pa_cons (pv 5) pa_nil)))) (pw_or1 (pt_not (pt_val (pc RT hr (by decide) (pa_cons (pv 5) pa_nil))))))) (pss_one (ps_ret pe_bl)) pss_nil)))))))
      (pss_cons (ps_set (i := 6) scLaw.nd rfl (Or.inl rfl) (pe_lst (pa_cons pe_str (pa_cons pe_str (pa_cons pe_str (pa_cons pe_str (pa_cons pe_str (pa_cons pe_str (pa_cons pe_str (pa_cons pe_str (pa_cons pe_str pa_nil)))))))))))
      (pss_one (ps_ret (pe_cmpR (op_eqNilL (Nat.lt_of_succ_lt (hu_of hr))) (pe_lc (own := [("text", 5)]) (g := gName 5) (by rfl) scLaw.nd (pi_list (pv 6)) (blkOk_by (own := [("text", 5)]) (N := ["script", "store", "turn", "jobs", "k", "text", "fixed"]) (sc := defScope sLaw) (by decide +kernel)) (fun _ _ _ _ _ => pg_name (i := 5) scLaw.nd rfl (Or.inl rfl))
          (fun _ _ _ _ _ => pts_one (pt_not (pt_val (pc RT hr (by decide) (pa_cons (pv 5) pa_nil))))) (fun _ _ _ _ _ => pv 5)) (pe_lst pa_nil) (nomark _)))))), ?_⟩
    refine ⟨_, rfl, a, ns, rfl, hS, hlen, fun st sc H1 s1 nst S1 => ?_⟩
    have tg1 := s1.tab T tg
    have tg21 := s1.tab T2 tg2
    refine ⟨5, rfl, by decide, by decide, ?_⟩
    refine for_range (lo := 0) (n := 5) (fun i σ G => ∃ (u2 u3 u4 u5 : Option V), σ = [some (.ref a), some (.ref st), u2, u3, u4, u5, none] ∧ Sto sc st (1200 * i) G ∧ TabG G T ∧ TabG G T2)
      ⟨none, none, none, none, rfl, S1.more (by omega), tg1, tg21⟩ ?_ ?_
    · rintro i σ G hi ⟨u2, u3, u4, u5, rfl, SG, tG, tG2⟩
      refine ⟨_, rfl, (by show 5 ≤ sizeLine; decide), fun q nq => ?_⟩
      have sq := same_new (o := .lst [.int 5, .int 3, .int 1, .int 5, .int 2]) nq
      obtain ⟨mo, hmo, mo0, mo12⟩ : ∃ mo : Int, atI [V.int 5, .int 3, .int 1, .int 5, .int 2] ((0 : Int) + (i : Nat)) = some (.int mo) ∧ 0 ≤ mo ∧ mo ≤ 12 := by
        rw [Int.zero_add]
        match i, hi with
        | 0, _ => exact ⟨5, rfl, by decide, by decide⟩
        | 1, _ => exact ⟨3, rfl, by decide, by decide⟩
        | 2, _ => exact ⟨1, rfl, by decide, by decide⟩
        | 3, _ => exact ⟨5, rfl, by decide, by decide⟩
        | 4, _ => exact ⟨2, rfl, by decide, by decide⟩
      have Sq := SG.same sq
      refine ⟨_, rfl, q, _, _, _, rfl, rfl, SqL.of upd_same, hmo, st, sc, 1200 * i, mo, 30, rfl, Sq, by omega, mo0, mo12, by decide, by decide, fun v js G1 SG1 KG1 dv okj l12 fine bj => ?_⟩
      have wr : ∀ j ∈ js, wrD j := fun j hj => ⟨List.all_eq_true.mp okj j hj, fun n k t e he => bj (.tuple [k, .int t]) (List.mem_map.mpr ⟨j, hj, by rw [he]; rfl⟩) _ _ rfl⟩
      refine ⟨3, rfl, by decide, by decide, ?_⟩
      refine for_range (lo := 0) (n := 3) (fun m σ G => ∃ (u2 u4 u5 : Option V), σ = [some (.ref a), some (.ref st), u2, some v, u4, u5, none] ∧ Sto sc st (1200 * i + 1000 + 60 * m) G ∧ TabG G T ∧ TabG G T2 ∧ Dp K (Off st G) v (.tuple js))
        ⟨_, _, _, rfl, SG1.more (by omega), KG1.tab Sq (sq.tab T tG), KG1.tab Sq (sq.tab T2 tG2), dv⟩ ?_ ?_
      · rintro m σ G2 hm ⟨u2, u4, u5, rfl, SG2, t2, t22, dv2⟩
        refine ⟨_, rfl, _, rfl, st, sc, _, v, js, rfl, SG2, by omega, dv2, wr, l12, fun t G3 SG3 KG3 lt => ?_⟩
        have t3 := KG3.tab SG2 t2
        have t32 := KG3.tab SG2 t22
        refine ⟨_, rfl, t, rfl, lt, t3, t32, fun G4 s4 => ⟨_, rfl, iteF ?_⟩⟩
        refine ⟨_, rfl, t, rfl, lt, s4.tab T t3, s4.tab T2 t32, fun G5 s5 => ⟨_, rfl, iteF ?_⟩⟩
        have s45 := s4.trans s5
        exact ⟨_, _, _, rfl, (SG3.same s45).more (by omega), s45.tab T t3, s45.tab T2 t32, dp_up s45 (dp_same KG3 dv2)⟩
      · rintro σ G2 ⟨u2, u4, u5, rfl, SG2, t2, t22, dv2⟩
        exact ⟨_, _, _, _, rfl, SG2.more (by omega), t2, t22⟩
    · rintro σ G ⟨u2, u3, u4, u5, rfl, SG, tG, tG2⟩
      refine ⟨(by show 9 ≤ sizeLine; decide), fun q nq => ?_⟩
      have sq := same_new (o := .lst (fixedL.map V.str)) nq
      have hq : upd G q (.lst (fixedL.map V.str)) q = some (.lst (fixedL.map V.str)) := upd_same
      refine ⟨_, rfl, q, rfl, ⟨_, SqL.of hq⟩, fun D nD => ?_⟩
      refine lc_it (walk_list (K := K) (a := q) (xs := fixedL.map V.str)) (fun m Hc => Same (upd G q (.lst (fixedL.map V.str))) Hc ∧ Hc D = some (.lst []))
        ⟨same_new nD, upd_same⟩ (fun m Hc _ ⟨s, _⟩ => SqL.of (s.at hq)) ?_ ?_
      · rintro m y1 Hc0 Hc hm ⟨s2, hD⟩ ⟨rfl, hy1⟩
        rw [List.getElem?_map] at hy1
        obtain ⟨t, ht, rfl⟩ := Option.map_eq_some_iff.mp hy1
        have lt := fixedL_len t (List.mem_of_getElem? ht)
        refine ⟨rfl, _, rfl, t, rfl, lt, s2.tab T (sq.tab T tG), s2.tab T2 (sq.tab T2 tG2), fun Hd sd => ⟨_, rfl, iteF ⟨s2.trans sd, sd.at hD⟩⟩⟩
      · rintro Hc ⟨s2, hD⟩
        refine ⟨(by show 0 ≤ sizeLine; decide), fun e ne => ?_⟩
        exact ⟨D, e, [], rfl, rfl, SqL.of ((same_new ne).at hD), SqL.of upd_same, k _⟩
end
end Vk
namespace Vk
open PySem PySem.Spec PyProof.Rows L2
theorem kit_same {K : PySem.W.Frag} {t : Value} : PySem.W.kitOne K t t = some true := by
  unfold PySem.W.kitOne
  rw [if_pos (beq_self_eq_true t)]
theorem kit_sub {K : PySem.W.Frag} {C D : Addr} (h1 : PySem.W.isClsIn K D = true) (h2 : PySem.W.typeIn K (.ref D) = some (.type "type")) (h3 : PySem.W.subIn K (.ref C) (.ref D) = some true) : PySem.W.kitOne K (.ref C) (.ref D) = some true := by
  unfold PySem.W.kitOne
  have e : ((PySem.W.clsIn K D).isSome && PySem.W.typeIn K (.ref D) == some (.type "type")) = true := by
    have h1' : (PySem.W.clsIn K D).isSome = true := h1
    rw [h1', h2]
    rfl
  by_cases z : (Value.ref C == Value.ref D) = true
  · rw [if_pos z]
  · rw [if_neg z]
    show (if ((PySem.W.clsIn K D).isSome && PySem.W.typeIn K (.ref D) == some (.type "type")) = true then PySem.W.subIn K (.ref C) (.ref D) else none) = _
    rw [if_pos e, h3]
theorem kit_ref {K : PySem.W.Frag} {C D : Addr} {b : Bool} (z : (Value.ref C == Value.ref D) = false) (h1 : PySem.W.isClsIn K D = true) (h2 : PySem.W.typeIn K (.ref D) = some (.type "type")) (h3 : PySem.W.subIn K (.ref C) (.ref D) = some b) : PySem.W.kitOne K (.ref C) (.ref D) = some b := by
  unfold PySem.W.kitOne
  have e : ((PySem.W.clsIn K D).isSome && PySem.W.typeIn K (.ref D) == some (.type "type")) = true := by
    have h1' : (PySem.W.clsIn K D).isSome = true := h1
    rw [h1', h2]
    rfl
  rw [if_neg (by rw [z]; exact Bool.false_ne_true)]
  show (if ((PySem.W.clsIn K D).isSome && PySem.W.typeIn K (.ref D) == some (.type "type")) = true then PySem.W.subIn K (.ref C) (.ref D) else none) = _
  rw [if_pos e, h3]
theorem kit_ve {K : PySem.W.Frag} {C : Addr} (h3 : PySem.W.subIn K (.ref C) (.type "ValueError") = some true) : PySem.W.kitOne K (.ref C) (.type "ValueError") = some true := by
  unfold PySem.W.kitOne
  have e : PySem.W.kitMeta "ValueError" = true := by decide +kernel
  rw [if_neg (by intro z; cases z)]
  show (if PySem.W.kitMeta "ValueError" = true then PySem.W.subIn K (.ref C) (.type "ValueError") else none) = _
  rw [if_pos e, h3]
end Vk
namespace Vk
open PySem PySem.Spec PyProof.Rows L2 GxR
/-- what the law needs of a head: the promise of its def, over the empty table of one code object -/
def LawTab (l : PySem.W.OpenLaw) (w : World) (K : PySem.W.Frag) (mg : Str → Option Value) (fa : Addr) : Prop := ∃ (fd : FuncData) (c P c2 P2 : Addr), PySem.W.tabIn K "is_name" = some (c, P) ∧ PySem.W.tabIn K "read_number" = some (c2, P2) ∧ K.lookup P = none ∧ K.lookup P2 = none ∧
  (∀ (s : Shared) (u : Value), BindsTo s fd ⟨[u], []⟩ [("script", u)]) ∧ ∀ base : Heap, K.In base → base.Ns mainGlobals mg → TabB base mg c P → TabB base mg c2 P2 → FnOk l.prog w K mg base CX0 8 fa fd ["script"] (spLaw K P P2)

theorem all_mk {l : PySem.W.OpenLaw} {w : World} {K : PySem.W.Frag} {h : Heap} {mg : Str → Option Value} {fa : Addr} (X : K.In h) (G : h.Ns mainGlobals mg) (hfa : mg "law" = some (.ref fa))
    {f0 : Addr} {oc0 kV0 dc0 pm0 cd0 ct0 : Value} {od0 an0 : Option Addr} {sl0 : Array (Option Value)}
    {f1 : Addr} {oc1 kV1 dc1 pm1 cd1 ct1 : Value} {od1 an1 : Option Addr} {sl1 : Array (Option Value)}
    {f2 : Addr} {oc2 kV2 dc2 pm2 cd2 ct2 : Value} {od2 an2 : Option Addr} {sl2 : Array (Option Value)}
    {f3 : Addr} {oc3 kV3 dc3 pm3 cd3 ct3 : Value} {od3 an3 : Option Addr} {sl3 : Array (Option Value)}
    {f4 : Addr} {oc4 kV4 dc4 pm4 cd4 ct4 : Value} {od4 an4 : Option Addr} {sl4 : Array (Option Value)}
    {f5 : Addr} {oc5 kV5 dc5 pm5 cd5 ct5 : Value} {od5 an5 : Option Addr} {sl5 : Array (Option Value)}
    {f6 : Addr} {oc6 kV6 dc6 pm6 cd6 ct6 : Value} {od6 an6 : Option Addr} {sl6 : Array (Option Value)}
    {f7 : Addr} {oc7 kV7 dc7 pm7 cd7 ct7 : Value} {od7 an7 : Option Addr} {sl7 : Array (Option Value)}
    {f8 : Addr} {oc8 kV8 dc8 pm8 cd8 ct8 : Value} {od8 an8 : Option Addr} {sl8 : Array (Option Value)}
    {f9 : Addr} {oc9 kV9 dc9 pm9 cd9 ct9 : Value} {od9 an9 : Option Addr} {sl9 : Array (Option Value)}
    {f10 : Addr} {oc10 kV10 dc10 pm10 cd10 ct10 : Value} {od10 an10 : Option Addr} {sl10 : Array (Option Value)}
    {f11 : Addr} {oc11 kV11 dc11 pm11 cd11 ct11 : Value} {od11 an11 : Option Addr} {sl11 : Array (Option Value)}
    {f12 : Addr} {oc12 kV12 dc12 pm12 cd12 ct12 : Value} {od12 an12 : Option Addr} {sl12 : Array (Option Value)}
    {f13 : Addr} {oc13 kV13 dc13 pm13 cd13 ct13 : Value} {od13 an13 : Option Addr} {sl13 : Array (Option Value)}
    {f14 : Addr} {oc14 kV14 dc14 pm14 cd14 ct14 : Value} {od14 an14 : Option Addr} {sl14 : Array (Option Value)}
    {f15 : Addr} {oc15 kV15 dc15 pm15 cd15 ct15 : Value} {od15 an15 : Option Addr} {sl15 : Array (Option Value)}
    {f16 : Addr} {oc16 kV16 dc16 pm16 cd16 ct16 : Value} {od16 an16 : Option Addr} {sl16 : Array (Option Value)}
    {f17 : Addr} {oc17 kV17 dc17 pm17 cd17 ct17 : Value} {od17 an17 : Option Addr} {sl17 : Array (Option Value)}
    {f18 : Addr} {oc18 kV18 dc18 pm18 cd18 ct18 : Value} {od18 an18 : Option Addr} {sl18 : Array (Option Value)}
    {f19 : Addr} {oc19 kV19 dc19 pm19 cd19 ct19 : Value} {od19 an19 : Option Addr} {sl19 : Array (Option Value)}
    {f20 : Addr} {oc20 kV20 dc20 pm20 cd20 ct20 : Value} {od20 an20 : Option Addr} {sl20 : Array (Option Value)}
    {f21 : Addr} {oc21 kV21 dc21 pm21 cd21 ct21 : Value} {od21 an21 : Option Addr} {sl21 : Array (Option Value)}
    {f22 : Addr} {oc22 kV22 dc22 pm22 cd22 ct22 : Value} {od22 an22 : Option Addr} {sl22 : Array (Option Value)}
    {f23 : Addr} {oc23 kV23 dc23 pm23 cd23 ct23 : Value} {od23 an23 : Option Addr} {sl23 : Array (Option Value)}
    {f24 : Addr} {oc24 kV24 dc24 pm24 cd24 ct24 : Value} {od24 an24 : Option Addr} {sl24 : Array (Option Value)}
    {f25 : Addr} {oc25 kV25 dc25 pm25 cd25 ct25 : Value} {od25 an25 : Option Addr} {sl25 : Array (Option Value)}
    {f26 : Addr} {oc26 kV26 dc26 pm26 cd26 ct26 : Value} {od26 an26 : Option Addr} {sl26 : Array (Option Value)}
    {f27 : Addr} {oc27 kV27 dc27 pm27 cd27 ct27 : Value} {od27 an27 : Option Addr} {sl27 : Array (Option Value)}
    {f28 : Addr} {oc28 kV28 dc28 pm28 cd28 ct28 : Value} {od28 an28 : Option Addr} {sl28 : Array (Option Value)}
    {S : Addr}
    {E0 : Addr}
    {E1 : Addr}
    {E2 : Addr}
    {E3 : Addr}
    {E4 : Addr}
    {E5 : Addr}
    {E6 : Addr}
    {E7 : Addr}
    {E8 : Addr}
    {E9 : Addr}
    {E10 : Addr}
    {E11 : Addr}
    {fI0 : Addr} {nm0 q0 : Str} {N0 : Addr} {bs0 sb0 : List Value} {sn0 : List Str} {ab0 : Bool} {col0 : Option Bool} {dd0 : Option Addr} {m00 m10 m20 m30 m50 : Option Value} {ocI0 kVI0 dcI0 pmI0 cdI0 ctI0 : Value} {odI0 anI0 : Option Addr} {slI0 : Array (Option Value)}
    {fI7 : Addr} {nm7 q7 : Str} {N7 : Addr} {bs7 sb7 : List Value} {sn7 : List Str} {ab7 : Bool} {col7 : Option Bool} {dd7 : Option Addr} {m07 m17 m27 m37 m57 : Option Value} {ocI7 kVI7 dcI7 pmI7 cdI7 ctI7 : Value} {odI7 anI7 : Option Addr} {slI7 : Array (Option Value)}
    {fN cN PN : Addr} {ocN kVN dcN pmN ctN eN : Value} {odN anN ddN : Option Addr} {slN scN : Array (Option Value)} {vsN : Array Value}
    {fO cO PO : Addr} {ocO kVO dcO pmO ctO eO : Value} {odO anO ddO : Option Addr} {slO scO : Array (Option Value)} {vsO : Array Value} {tMD : Tok}
    (a0 : PySem.W.nsIn K mainGlobals "is_integer" = some (some (.ref f0)))
    (l0 : K.lookup f0 = some ⟨oc0, od0, .func (PySem.W.fnOf "is_integer" "is_integer" (defArgs sInteger) (defBody sInteger) (defScope sInteger) .none kV0 dc0 pm0 an0 cd0 ct0), sl0⟩)
    (c0 : PySem.W.codeIn K cd0 "is_integer" = true)
    (k0 : PySem.W.keepIn K (.ref f0) = true)
    (a1 : PySem.W.nsIn K mainGlobals "is_tuple_of" = some (some (.ref f1)))
    (l1 : K.lookup f1 = some ⟨oc1, od1, .func (PySem.W.fnOf "is_tuple_of" "is_tuple_of" (defArgs sTupleOf) (defBody sTupleOf) (defScope sTupleOf) .none kV1 dc1 pm1 an1 cd1 ct1), sl1⟩)
    (c1 : PySem.W.codeIn K cd1 "is_tuple_of" = true)
    (k1 : PySem.W.keepIn K (.ref f1) = true)
    (a2 : PySem.W.nsIn K mainGlobals "check_jobs" = some (some (.ref f2)))
    (l2 : K.lookup f2 = some ⟨oc2, od2, .func (PySem.W.fnOf "check_jobs" "check_jobs" (defArgs sCheck) (defBody sCheck) (defScope sCheck) .none kV2 dc2 pm2 an2 cd2 ct2), sl2⟩)
    (c2 : PySem.W.codeIn K cd2 "check_jobs" = true)
    (k2 : PySem.W.keepIn K (.ref f2) = true)
    (a3 : PySem.W.nsIn K mainGlobals "read_jobs" = some (some (.ref f3)))
    (l3 : K.lookup f3 = some ⟨oc3, od3, .func (PySem.W.fnOf "read_jobs" "read_jobs" (defArgs sReadJobs) (defBody sReadJobs) (defScope sReadJobs) .none kV3 dc3 pm3 an3 cd3 ct3), sl3⟩)
    (c3 : PySem.W.codeIn K cd3 "read_jobs" = true)
    (k3 : PySem.W.keepIn K (.ref f3) = true)
    (a4 : PySem.W.nsIn K mainGlobals "read_job" = some (some (.ref f4)))
    (l4 : K.lookup f4 = some ⟨oc4, od4, .func (PySem.W.fnOf "read_job" "read_job" (defArgs sReadJob) (defBody sReadJob) (defScope sReadJob) .none kV4 dc4 pm4 an4 cd4 ct4), sl4⟩)
    (c4 : PySem.W.codeIn K cd4 "read_job" = true)
    (k4 : PySem.W.keepIn K (.ref f4) = true)
    (a5 : PySem.W.nsIn K mainGlobals "read_entry" = some (some (.ref f5)))
    (l5 : K.lookup f5 = some ⟨oc5, od5, .func (PySem.W.fnOf "read_entry" "read_entry" (defArgs sReadEntry) (defBody sReadEntry) (defScope sReadEntry) .none kV5 dc5 pm5 an5 cd5 ct5), sl5⟩)
    (c5 : PySem.W.codeIn K cd5 "read_entry" = true)
    (k5 : PySem.W.keepIn K (.ref f5) = true)
    (a6 : PySem.W.nsIn K mainGlobals "read_count" = some (some (.ref f6)))
    (l6 : K.lookup f6 = some ⟨oc6, od6, .func (PySem.W.fnOf "read_count" "read_count" (defArgs sReadCount) (defBody sReadCount) (defScope sReadCount) .none kV6 dc6 pm6 an6 cd6 ct6), sl6⟩)
    (c6 : PySem.W.codeIn K cd6 "read_count" = true)
    (k6 : PySem.W.keepIn K (.ref f6) = true)
    (a7 : PySem.W.nsIn K mainGlobals "_law_job_line" = some (some (.ref f7)))
    (l7 : K.lookup f7 = some ⟨oc7, od7, .func (PySem.W.fnOf "_law_job_line" "_law_job_line" (defArgs sJobLine) (defBody sJobLine) (defScope sJobLine) .none kV7 dc7 pm7 an7 cd7 ct7), sl7⟩)
    (c7 : PySem.W.codeIn K cd7 "_law_job_line" = true)
    (k7 : PySem.W.keepIn K (.ref f7) = true)
    (a8 : PySem.W.nsIn K mainGlobals "check_each_job" = some (some (.ref f8)))
    (l8 : K.lookup f8 = some ⟨oc8, od8, .func (PySem.W.fnOf "check_each_job" "check_each_job" (defArgs sEach) (defBody sEach) (defScope sEach) .none kV8 dc8 pm8 an8 cd8 ct8), sl8⟩)
    (c8 : PySem.W.codeIn K cd8 "check_each_job" = true)
    (k8 : PySem.W.keepIn K (.ref f8) = true)
    (a9 : PySem.W.nsIn K mainGlobals "is_job" = some (some (.ref f9)))
    (l9 : K.lookup f9 = some ⟨oc9, od9, .func (PySem.W.fnOf "is_job" "is_job" (defArgs sIsJob) (defBody sIsJob) (defScope sIsJob) .none kV9 dc9 pm9 an9 cd9 ct9), sl9⟩)
    (c9 : PySem.W.codeIn K cd9 "is_job" = true)
    (k9 : PySem.W.keepIn K (.ref f9) = true)
    (a10 : PySem.W.nsIn K mainGlobals "is_arrival" = some (some (.ref f10)))
    (l10 : K.lookup f10 = some ⟨oc10, od10, .func (PySem.W.fnOf "is_arrival" "is_arrival" (defArgs sArrival) (defBody sArrival) (defScope sArrival) .none kV10 dc10 pm10 an10 cd10 ct10), sl10⟩)
    (c10 : PySem.W.codeIn K cd10 "is_arrival" = true)
    (k10 : PySem.W.keepIn K (.ref f10) = true)
    (a11 : PySem.W.nsIn K mainGlobals "waits_forever" = some (some (.ref f11)))
    (l11 : K.lookup f11 = some ⟨oc11, od11, .func (PySem.W.fnOf "waits_forever" "waits_forever" (defArgs sWaits) (defBody sWaits) (defScope sWaits) .none kV11 dc11 pm11 an11 cd11 ct11), sl11⟩)
    (c11 : PySem.W.codeIn K cd11 "waits_forever" = true)
    (k11 : PySem.W.keepIn K (.ref f11) = true)
    (a12 : PySem.W.nsIn K mainGlobals "_law_mix" = some (some (.ref f12)))
    (l12 : K.lookup f12 = some ⟨oc12, od12, .func (PySem.W.fnOf "_law_mix" "_law_mix" (defArgs sMix) (defBody sMix) (defScope sMix) .none kV12 dc12 pm12 an12 cd12 ct12), sl12⟩)
    (c12 : PySem.W.codeIn K cd12 "_law_mix" = true)
    (k12 : PySem.W.keepIn K (.ref f12) = true)
    (a13 : PySem.W.nsIn K mainGlobals "_law_store" = some (some (.ref f13)))
    (l13 : K.lookup f13 = some ⟨oc13, od13, .func (PySem.W.fnOf "_law_store" "_law_store" (defArgs sStore) (defBody sStore) (defScope sStore) .none kV13 dc13 pm13 an13 cd13 ct13), sl13⟩)
    (c13 : PySem.W.codeIn K cd13 "_law_store" = true)
    (k13 : PySem.W.keepIn K (.ref f13) = true)
    (a14 : PySem.W.nsIn K mainGlobals "_law_pick" = some (some (.ref f14)))
    (l14 : K.lookup f14 = some ⟨oc14, od14, .func (PySem.W.fnOf "_law_pick" "_law_pick" (defArgs sPick) (defBody sPick) (defScope sPick) .none kV14 dc14 pm14 an14 cd14 ct14), sl14⟩)
    (c14 : PySem.W.codeIn K cd14 "_law_pick" = true)
    (k14 : PySem.W.keepIn K (.ref f14) = true)
    (a15 : PySem.W.nsIn K mainGlobals "_law_names" = some (some (.ref f15)))
    (l15 : K.lookup f15 = some ⟨oc15, od15, .func (PySem.W.fnOf "_law_names" "_law_names" (defArgs sNames) (defBody sNames) (defScope sNames) .none kV15 dc15 pm15 an15 cd15 ct15), sl15⟩)
    (c15 : PySem.W.codeIn K cd15 "_law_names" = true)
    (k15 : PySem.W.keepIn K (.ref f15) = true)
    (a16 : PySem.W.nsIn K mainGlobals "_law_before" = some (some (.ref f16)))
    (l16 : K.lookup f16 = some ⟨oc16, od16, .func (PySem.W.fnOf "_law_before" "_law_before" (defArgs sBefore) (defBody sBefore) (defScope sBefore) .none kV16 dc16 pm16 an16 cd16 ct16), sl16⟩)
    (c16 : PySem.W.codeIn K cd16 "_law_before" = true)
    (k16 : PySem.W.keepIn K (.ref f16) = true)
    (a17 : PySem.W.nsIn K mainGlobals "_law_jobs" = some (some (.ref f17)))
    (l17 : K.lookup f17 = some ⟨oc17, od17, .func (PySem.W.fnOf "_law_jobs" "_law_jobs" (defArgs sJobs) (defBody sJobs) (defScope sJobs) .none kV17 dc17 pm17 an17 cd17 ct17), sl17⟩)
    (c17 : PySem.W.codeIn K cd17 "_law_jobs" = true)
    (k17 : PySem.W.keepIn K (.ref f17) = true)
    (a18 : PySem.W.nsIn K mainGlobals "_law_is_int" = some (some (.ref f18)))
    (l18 : K.lookup f18 = some ⟨oc18, od18, .func (PySem.W.fnOf "_law_is_int" "_law_is_int" (defArgs sInt) (defBody sInt) (defScope sInt) .none kV18 dc18 pm18 an18 cd18 ct18), sl18⟩)
    (c18 : PySem.W.codeIn K cd18 "_law_is_int" = true)
    (k18 : PySem.W.keepIn K (.ref f18) = true)
    (a19 : PySem.W.nsIn K mainGlobals "_law_is_job" = some (some (.ref f19)))
    (l19 : K.lookup f19 = some ⟨oc19, od19, .func (PySem.W.fnOf "_law_is_job" "_law_is_job" (defArgs sIsJobL) (defBody sIsJobL) (defScope sIsJobL) .none kV19 dc19 pm19 an19 cd19 ct19), sl19⟩)
    (c19 : PySem.W.codeIn K cd19 "_law_is_job" = true)
    (k19 : PySem.W.keepIn K (.ref f19) = true)
    (a20 : PySem.W.nsIn K mainGlobals "_law_fault" = some (some (.ref f20)))
    (l20 : K.lookup f20 = some ⟨oc20, od20, .func (PySem.W.fnOf "_law_fault" "_law_fault" (defArgs sFault) (defBody sFault) (defScope sFault) .none kV20 dc20 pm20 an20 cd20 ct20), sl20⟩)
    (c20 : PySem.W.codeIn K cd20 "_law_fault" = true)
    (k20 : PySem.W.keepIn K (.ref f20) = true)
    (a21 : PySem.W.nsIn K mainGlobals "_law_kind" = some (some (.ref f21)))
    (l21 : K.lookup f21 = some ⟨oc21, od21, .func (PySem.W.fnOf "_law_kind" "_law_kind" (defArgs sKind) (defBody sKind) (defScope sKind) .none kV21 dc21 pm21 an21 cd21 ct21), sl21⟩)
    (c21 : PySem.W.codeIn K cd21 "_law_kind" = true)
    (k21 : PySem.W.keepIn K (.ref f21) = true)
    (a22 : PySem.W.nsIn K mainGlobals "_law_number" = some (some (.ref f22)))
    (l22 : K.lookup f22 = some ⟨oc22, od22, .func (PySem.W.fnOf "_law_number" "_law_number" (defArgs sNumberL) (defBody sNumberL) (defScope sNumberL) .none kV22 dc22 pm22 an22 cd22 ct22), sl22⟩)
    (c22 : PySem.W.codeIn K cd22 "_law_number" = true)
    (k22 : PySem.W.keepIn K (.ref f22) = true)
    (a23 : PySem.W.nsIn K mainGlobals "_law_read" = some (some (.ref f23)))
    (l23 : K.lookup f23 = some ⟨oc23, od23, .func (PySem.W.fnOf "_law_read" "_law_read" (defArgs sReadL) (defBody sReadL) (defScope sReadL) .none kV23 dc23 pm23 an23 cd23 ct23), sl23⟩)
    (c23 : PySem.W.codeIn K cd23 "_law_read" = true)
    (k23 : PySem.W.keepIn K (.ref f23) = true)
    (a24 : PySem.W.nsIn K mainGlobals "_law_due" = some (some (.ref f24)))
    (l24 : K.lookup f24 = some ⟨oc24, od24, .func (PySem.W.fnOf "_law_due" "_law_due" (defArgs sDue) (defBody sDue) (defScope sDue) .none kV24 dc24 pm24 an24 cd24 ct24), sl24⟩)
    (c24 : PySem.W.codeIn K cd24 "_law_due" = true)
    (k24 : PySem.W.keepIn K (.ref f24) = true)
    (a25 : PySem.W.nsIn K mainGlobals "_law_spoilt_line" = some (some (.ref f25)))
    (l25 : K.lookup f25 = some ⟨oc25, od25, .func (PySem.W.fnOf "_law_spoilt_line" "_law_spoilt_line" (defArgs sSpoiltLine) (defBody sSpoiltLine) (defScope sSpoiltLine) .none kV25 dc25 pm25 an25 cd25 ct25), sl25⟩)
    (c25 : PySem.W.codeIn K cd25 "_law_spoilt_line" = true)
    (k25 : PySem.W.keepIn K (.ref f25) = true)
    (a26 : PySem.W.nsIn K mainGlobals "_law_spoilt_text" = some (some (.ref f26)))
    (l26 : K.lookup f26 = some ⟨oc26, od26, .func (PySem.W.fnOf "_law_spoilt_text" "_law_spoilt_text" (defArgs sSpoiltText) (defBody sSpoiltText) (defScope sSpoiltText) .none kV26 dc26 pm26 an26 cd26 ct26), sl26⟩)
    (c26 : PySem.W.codeIn K cd26 "_law_spoilt_text" = true)
    (k26 : PySem.W.keepIn K (.ref f26) = true)
    (a27 : PySem.W.nsIn K mainGlobals "_law_right" = some (some (.ref f27)))
    (l27 : K.lookup f27 = some ⟨oc27, od27, .func (PySem.W.fnOf "_law_right" "_law_right" (defArgs sRight) (defBody sRight) (defScope sRight) .none kV27 dc27 pm27 an27 cd27 ct27), sl27⟩)
    (c27 : PySem.W.codeIn K cd27 "_law_right" = true)
    (k27 : PySem.W.keepIn K (.ref f27) = true)
    (a28 : PySem.W.nsIn K mainGlobals "law" = some (some (.ref f28)))
    (l28 : K.lookup f28 = some ⟨oc28, od28, .func (PySem.W.fnOf "law" "law" (defArgs sLaw) (defBody sLaw) (defScope sLaw) .none kV28 dc28 pm28 an28 cd28 ct28), sl28⟩)
    (c28 : PySem.W.codeIn K cd28 "law" = true)
    (k28 : PySem.W.keepIn K (.ref f28) = true)
    (z_len : PySem.W.nsIn K mainGlobals "len" = some none)
    (z_isinstance : PySem.W.nsIn K mainGlobals "isinstance" = some none)
    (z_int : PySem.W.nsIn K mainGlobals "int" = some none)
    (z_bool : PySem.W.nsIn K mainGlobals "bool" = some none)
    (z_tuple : PySem.W.nsIn K mainGlobals "tuple" = some none)
    (z_str : PySem.W.nsIn K mainGlobals "str" = some none)
    (z_range : PySem.W.nsIn K mainGlobals "range" = some none)
    (z_enumerate : PySem.W.nsIn K mainGlobals "enumerate" = some none)
    (z_list : PySem.W.nsIn K mainGlobals "list" = some none)
    (z_all : PySem.W.nsIn K mainGlobals "all" = some none)
    (aS : PySem.W.nsIn K mainGlobals "SlotError" = some (some (.ref S)))
    (iS : PySem.W.isClsIn K S = true)
    (hS : PySem.W.hasDictIn K S = true)
    (tS : PySem.W.typeIn K (.ref S) = some (.type "type"))
    (eS : PySem.W.subIn K (.ref S) (.type "BaseException") = some true)
    (spG : PySem.W.specialIn K (.builtin "object.__class__") "__get__" = some (some (.builtin "getset_descriptor.__get__")))
    (tkG : PySem.W.takesIn K (.builtin "object.__class__") = some true)
    (zVE : PySem.W.nsIn K mainGlobals "ValueError" = some none)
    (aE0 : PySem.W.nsIn K mainGlobals "NoJobs" = some (some (.ref E0)))
    (iE0 : PySem.W.isClsIn K E0 = true)
    (tE0 : PySem.W.typeIn K (.ref E0) = some (.type "type"))
    (aE1 : PySem.W.nsIn K mainGlobals "NoRule" = some (some (.ref E1)))
    (iE1 : PySem.W.isClsIn K E1 = true)
    (tE1 : PySem.W.typeIn K (.ref E1) = some (.type "type"))
    (aE2 : PySem.W.nsIn K mainGlobals "NoLengths" = some (some (.ref E2)))
    (iE2 : PySem.W.isClsIn K E2 = true)
    (tE2 : PySem.W.typeIn K (.ref E2) = some (.type "type"))
    (aE3 : PySem.W.nsIn K mainGlobals "NoLog" = some (some (.ref E3)))
    (iE3 : PySem.W.isClsIn K E3 = true)
    (tE3 : PySem.W.typeIn K (.ref E3) = some (.type "type"))
    (aE4 : PySem.W.nsIn K mainGlobals "NoMarks" = some (some (.ref E4)))
    (iE4 : PySem.W.isClsIn K E4 = true)
    (tE4 : PySem.W.typeIn K (.ref E4) = some (.type "type"))
    (aE5 : PySem.W.nsIn K mainGlobals "NoNamed" = some (some (.ref E5)))
    (iE5 : PySem.W.isClsIn K E5 = true)
    (tE5 : PySem.W.typeIn K (.ref E5) = some (.type "type"))
    (aE6 : PySem.W.nsIn K mainGlobals "NoOrder" = some (some (.ref E6)))
    (iE6 : PySem.W.isClsIn K E6 = true)
    (tE6 : PySem.W.typeIn K (.ref E6) = some (.type "type"))
    (aE7 : PySem.W.nsIn K mainGlobals "NoText" = some (some (.ref E7)))
    (iE7 : PySem.W.isClsIn K E7 = true)
    (tE7 : PySem.W.typeIn K (.ref E7) = some (.type "type"))
    (aE8 : PySem.W.nsIn K mainGlobals "NoNumber" = some (some (.ref E8)))
    (iE8 : PySem.W.isClsIn K E8 = true)
    (tE8 : PySem.W.typeIn K (.ref E8) = some (.type "type"))
    (aE9 : PySem.W.nsIn K mainGlobals "NoName" = some (some (.ref E9)))
    (iE9 : PySem.W.isClsIn K E9 = true)
    (tE9 : PySem.W.typeIn K (.ref E9) = some (.type "type"))
    (aE10 : PySem.W.nsIn K mainGlobals "NoUndo" = some (some (.ref E10)))
    (iE10 : PySem.W.isClsIn K E10 = true)
    (tE10 : PySem.W.typeIn K (.ref E10) = some (.type "type"))
    (aE11 : PySem.W.nsIn K mainGlobals "NoLine" = some (some (.ref E11)))
    (iE11 : PySem.W.isClsIn K E11 = true)
    (tE11 : PySem.W.typeIn K (.ref E11) = some (.type "type"))
    (x0_ : K.lookup E0 = some (excClassObj nm0 q0 E0 N0 bs0 [.ref S, .type "ValueError", .type "Exception", .type "BaseException", .type "object"] true sn0 sb0 ab0 col0 dd0 m00 m10 m20 m30 m50 "ValueError.__new__"))
    (sa0 : PySem.W.findIn K (.ref E0) "__setattr__" = some (some (.builtin "object.__setattr__")))
    (ga0 : PySem.W.findIn K (.ref E0) "__getattribute__" = some (some (.builtin "BaseException.__getattribute__")))
    (gg0 : PySem.W.findIn K (.ref E0) "__getattr__" = some none)
    (np0 : PySem.W.findIn K (.ref E0) "place" = some none)
    (in0 : PySem.W.findIn K (.ref E0) "__init__" = some (some (.ref fI0)))
    (ti0 : PySem.W.typeIn K (.ref fI0) = some (.type "function"))
    (li0 : K.lookup fI0 = some ⟨ocI0, odI0, .func (PySem.W.fnOf "__init__" "NoJobs.__init__" (defArgs sJobsInit) (defBody sJobsInit) (defScope sJobsInit) .none kVI0 dcI0 pmI0 anI0 cdI0 ctI0), slI0⟩)
    (ci0 : PySem.W.codeIn K cdI0 "NoJobs.__init__" = true)
    (ki0 : PySem.W.keepIn K (.ref fI0) = true)
    (kc0 : PySem.W.keepIn K (.ref E0) = true)
    (ec0 : PySem.W.subIn K (.ref E0) (.type "BaseException") = some true)
    (hc0 : PySem.W.hasDictIn K E0 = true)
    (cc0 : PySem.W.findIn K (.ref E0) "__class__" = some (some (.builtin "object.__class__")))
    (mc0 : PySem.W.mroIn K E0 (.type "object") = some true)
    (vc0 : PySem.W.subIn K (.ref E0) (.type "ValueError") = some true)
    (sc0 : PySem.W.subIn K (.ref E0) (.ref S) = some true)
    (s0_1 : PySem.W.subIn K (.ref E0) (.ref E1) = some false)
    (n0_1 : (Value.ref E0 == Value.ref E1) = false)
    (s0_2 : PySem.W.subIn K (.ref E0) (.ref E2) = some false)
    (n0_2 : (Value.ref E0 == Value.ref E2) = false)
    (s0_3 : PySem.W.subIn K (.ref E0) (.ref E3) = some false)
    (n0_3 : (Value.ref E0 == Value.ref E3) = false)
    (s0_4 : PySem.W.subIn K (.ref E0) (.ref E4) = some false)
    (n0_4 : (Value.ref E0 == Value.ref E4) = false)
    (s0_5 : PySem.W.subIn K (.ref E0) (.ref E5) = some false)
    (n0_5 : (Value.ref E0 == Value.ref E5) = false)
    (s0_6 : PySem.W.subIn K (.ref E0) (.ref E6) = some false)
    (n0_6 : (Value.ref E0 == Value.ref E6) = false)
    (s0_7 : PySem.W.subIn K (.ref E0) (.ref E7) = some false)
    (n0_7 : (Value.ref E0 == Value.ref E7) = false)
    (s0_8 : PySem.W.subIn K (.ref E0) (.ref E8) = some false)
    (n0_8 : (Value.ref E0 == Value.ref E8) = false)
    (s0_9 : PySem.W.subIn K (.ref E0) (.ref E9) = some false)
    (n0_9 : (Value.ref E0 == Value.ref E9) = false)
    (s0_10 : PySem.W.subIn K (.ref E0) (.ref E10) = some false)
    (n0_10 : (Value.ref E0 == Value.ref E10) = false)
    (s0_11 : PySem.W.subIn K (.ref E0) (.ref E11) = some false)
    (n0_11 : (Value.ref E0 == Value.ref E11) = false)
    (x7_ : K.lookup E7 = some (excClassObj nm7 q7 E7 N7 bs7 [.ref S, .type "ValueError", .type "Exception", .type "BaseException", .type "object"] true sn7 sb7 ab7 col7 dd7 m07 m17 m27 m37 m57 "ValueError.__new__"))
    (sa7 : PySem.W.findIn K (.ref E7) "__setattr__" = some (some (.builtin "object.__setattr__")))
    (ga7 : PySem.W.findIn K (.ref E7) "__getattribute__" = some (some (.builtin "BaseException.__getattribute__")))
    (gg7 : PySem.W.findIn K (.ref E7) "__getattr__" = some none)
    (np7 : PySem.W.findIn K (.ref E7) "row" = some none)
    (npp7 : PySem.W.findIn K (.ref E7) "place" = some none)
    (in7 : PySem.W.findIn K (.ref E7) "__init__" = some (some (.ref fI7)))
    (ti7 : PySem.W.typeIn K (.ref fI7) = some (.type "function"))
    (li7 : K.lookup fI7 = some ⟨ocI7, odI7, .func (PySem.W.fnOf "__init__" "NoText.__init__" (defArgs sTextInit) (defBody sTextInit) (defScope sTextInit) .none kVI7 dcI7 pmI7 anI7 cdI7 ctI7), slI7⟩)
    (ci7 : PySem.W.codeIn K cdI7 "NoText.__init__" = true)
    (ki7 : PySem.W.keepIn K (.ref fI7) = true)
    (kc7 : PySem.W.keepIn K (.ref E7) = true)
    (ec7 : PySem.W.subIn K (.ref E7) (.type "BaseException") = some true)
    (hc7 : PySem.W.hasDictIn K E7 = true)
    (cc7 : PySem.W.findIn K (.ref E7) "__class__" = some (some (.builtin "object.__class__")))
    (mc7 : PySem.W.mroIn K E7 (.type "object") = some true)
    (vc7 : PySem.W.subIn K (.ref E7) (.type "ValueError") = some true)
    (sc7 : PySem.W.subIn K (.ref E7) (.ref S) = some true)
    (s7_0 : PySem.W.subIn K (.ref E7) (.ref E0) = some false)
    (n7_0 : (Value.ref E7 == Value.ref E0) = false)
    (s7_1 : PySem.W.subIn K (.ref E7) (.ref E1) = some false)
    (n7_1 : (Value.ref E7 == Value.ref E1) = false)
    (s7_2 : PySem.W.subIn K (.ref E7) (.ref E2) = some false)
    (n7_2 : (Value.ref E7 == Value.ref E2) = false)
    (s7_3 : PySem.W.subIn K (.ref E7) (.ref E3) = some false)
    (n7_3 : (Value.ref E7 == Value.ref E3) = false)
    (s7_4 : PySem.W.subIn K (.ref E7) (.ref E4) = some false)
    (n7_4 : (Value.ref E7 == Value.ref E4) = false)
    (s7_5 : PySem.W.subIn K (.ref E7) (.ref E5) = some false)
    (n7_5 : (Value.ref E7 == Value.ref E5) = false)
    (s7_6 : PySem.W.subIn K (.ref E7) (.ref E6) = some false)
    (n7_6 : (Value.ref E7 == Value.ref E6) = false)
    (s7_8 : PySem.W.subIn K (.ref E7) (.ref E8) = some false)
    (n7_8 : (Value.ref E7 == Value.ref E8) = false)
    (s7_9 : PySem.W.subIn K (.ref E7) (.ref E9) = some false)
    (n7_9 : (Value.ref E7 == Value.ref E9) = false)
    (s7_10 : PySem.W.subIn K (.ref E7) (.ref E10) = some false)
    (n7_10 : (Value.ref E7 == Value.ref E10) = false)
    (s7_11 : PySem.W.subIn K (.ref E7) (.ref E11) = some false)
    (n7_11 : (Value.ref E7 == Value.ref E11) = false)
    (aN : PySem.W.nsIn K mainGlobals "is_name" = some (some (.ref fN)))
    (lN : K.lookup fN = some ⟨ocN, odN, .func (PySem.W.fnOf "is_name" "is_name" (defArgs sName) (defBody sName) (defScope sName) .none kVN dcN pmN anN (.ref cN) ctN), slN⟩)
    (cNf : PySem.W.codeIn K (.ref cN) "is_name" = true)
    (kNf : PySem.W.keepIn K (.ref fN) = true)
    (hcN : K.lookup cN = some ⟨eN, ddN, .fields vsN, scN⟩)
    (hvN : (vsN[11]? : Option Value) = some (.ref PN))
    (nPN : K.lookup PN = none)
    (aO : PySem.W.nsIn K mainGlobals "read_number" = some (some (.ref fO)))
    (lO : K.lookup fO = some ⟨ocO, odO, .func (PySem.W.fnOf "read_number" "read_number" (defArgs sReadNumber) (defBody sReadNumber) (defScope sReadNumber) .none kVO dcO pmO anO (.ref cO) ctO), slO⟩)
    (cOf : PySem.W.codeIn K (.ref cO) "read_number" = true)
    (kOf : PySem.W.keepIn K (.ref fO) = true)
    (hcO : K.lookup cO = some ⟨eO, ddO, .fields vsO, scO⟩)
    (hvO : (vsO[11]? : Option Value) = some (.ref PO))
    (nPO : K.lookup PO = none)
    (aMD : PySem.W.nsIn K mainGlobals "MOST_DIGITS" = some (some (.int 31 tMD)))
    : LawTab l w K mg fa := by
  have D0 : Df K mg "is_integer" sInteger ["value", "least"] := by
    have F := fun_mk (st := sInteger) l0 c0 k0
    exact ⟨_, _, PySem.W.mg_of X G a0, F, F.binds (ps := ["value", "least"]) fun _ _ _ _ _ _ us hl => match us, hl with | [_, _], _ => rfl⟩
  have D1 : Df K mg "is_tuple_of" sTupleOf ["value", "many"] := by
    have F := fun_mk (st := sTupleOf) l1 c1 k1
    exact ⟨_, _, PySem.W.mg_of X G a1, F, F.binds (ps := ["value", "many"]) fun _ _ _ _ _ _ us hl => match us, hl with | [_, _], _ => rfl⟩
  have D2 : Df K mg "check_jobs" sCheck ["jobs"] := by
    have F := fun_mk (st := sCheck) l2 c2 k2
    exact ⟨_, _, PySem.W.mg_of X G a2, F, F.binds (ps := ["jobs"]) fun _ _ _ _ _ _ us hl => match us, hl with | [_], _ => rfl⟩
  have D3 : Df K mg "read_jobs" sReadJobs ["text"] := by
    have F := fun_mk (st := sReadJobs) l3 c3 k3
    exact ⟨_, _, PySem.W.mg_of X G a3, F, F.binds (ps := ["text"]) fun _ _ _ _ _ _ us hl => match us, hl with | [_], _ => rfl⟩
  have D4 : Df K mg "read_job" sReadJob ["line"] := by
    have F := fun_mk (st := sReadJob) l4 c4 k4
    exact ⟨_, _, PySem.W.mg_of X G a4, F, F.binds (ps := ["line"]) fun _ _ _ _ _ _ us hl => match us, hl with | [_], _ => rfl⟩
  have D5 : Df K mg "read_entry" sReadEntry ["words"] := by
    have F := fun_mk (st := sReadEntry) l5 c5 k5
    exact ⟨_, _, PySem.W.mg_of X G a5, F, F.binds (ps := ["words"]) fun _ _ _ _ _ _ us hl => match us, hl with | [_], _ => rfl⟩
  have D6 : Df K mg "read_count" sReadCount ["words"] := by
    have F := fun_mk (st := sReadCount) l6 c6 k6
    exact ⟨_, _, PySem.W.mg_of X G a6, F, F.binds (ps := ["words"]) fun _ _ _ _ _ _ us hl => match us, hl with | [_], _ => rfl⟩
  have D7 : Df K mg "_law_job_line" sJobLine ["job"] := by
    have F := fun_mk (st := sJobLine) l7 c7 k7
    exact ⟨_, _, PySem.W.mg_of X G a7, F, F.binds (ps := ["job"]) fun _ _ _ _ _ _ us hl => match us, hl with | [_], _ => rfl⟩
  have D8 : Df K mg "check_each_job" sEach ["jobs"] := by
    have F := fun_mk (st := sEach) l8 c8 k8
    exact ⟨_, _, PySem.W.mg_of X G a8, F, F.binds (ps := ["jobs"]) fun _ _ _ _ _ _ us hl => match us, hl with | [_], _ => rfl⟩
  have D9 : Df K mg "is_job" sIsJob ["job"] := by
    have F := fun_mk (st := sIsJob) l9 c9 k9
    exact ⟨_, _, PySem.W.mg_of X G a9, F, F.binds (ps := ["job"]) fun _ _ _ _ _ _ us hl => match us, hl with | [_], _ => rfl⟩
  have D10 : Df K mg "is_arrival" sArrival ["arrival"] := by
    have F := fun_mk (st := sArrival) l10 c10 k10
    exact ⟨_, _, PySem.W.mg_of X G a10, F, F.binds (ps := ["arrival"]) fun _ _ _ _ _ _ us hl => match us, hl with | [_], _ => rfl⟩
  have D11 : Df K mg "waits_forever" sWaits ["job", "jobs"] := by
    have F := fun_mk (st := sWaits) l11 c11 k11
    exact ⟨_, _, PySem.W.mg_of X G a11, F, F.binds (ps := ["job", "jobs"]) fun _ _ _ _ _ _ us hl => match us, hl with | [_, _], _ => rfl⟩
  have D12 : Df K mg "_law_mix" sMix ["number", "turn"] := by
    have F := fun_mk (st := sMix) l12 c12 k12
    exact ⟨_, _, PySem.W.mg_of X G a12, F, F.binds (ps := ["number", "turn"]) fun _ _ _ _ _ _ us hl => match us, hl with | [_, _], _ => rfl⟩
  have D13 : Df K mg "_law_store" sStore ["script"] := by
    have F := fun_mk (st := sStore) l13 c13 k13
    exact ⟨_, _, PySem.W.mg_of X G a13, F, F.binds (ps := ["script"]) fun _ _ _ _ _ _ us hl => match us, hl with | [_], _ => rfl⟩
  have D14 : Df K mg "_law_pick" sPick ["store", "count"] := by
    have F := fun_mk (st := sPick) l14 c14 k14
    exact ⟨_, _, PySem.W.mg_of X G a14, F, F.binds (ps := ["store", "count"]) fun _ _ _ _ _ _ us hl => match us, hl with | [_, _], _ => rfl⟩
  have D15 : Df K mg "_law_names" sNames ["store", "count"] := by
    have F := fun_mk (st := sNames) l15 c15 k15
    exact ⟨_, _, PySem.W.mg_of X G a15, F, F.binds (ps := ["store", "count"]) fun _ _ _ _ _ _ us hl => match us, hl with | [_, _], _ => rfl⟩
  have D16 : Df K mg "_law_before" sBefore ["arrival", "finishes"] := by
    have F := fun_mk (st := sBefore) l16 c16 k16
    exact ⟨_, _, PySem.W.mg_of X G a16, F, F.binds (ps := ["arrival", "finishes"]) fun _ _ _ _ _ _ us hl => match us, hl with | [_, _], _ => rfl⟩
  have D17 : Df K mg "_law_jobs" sJobs ["store", "most", "late"] := by
    have F := fun_mk (st := sJobs) l17 c17 k17
    exact ⟨_, _, PySem.W.mg_of X G a17, F, F.binds (ps := ["store", "most", "late"]) fun _ _ _ _ _ _ us hl => match us, hl with | [_, _, _], _ => rfl⟩
  have D18 : Df K mg "_law_is_int" sInt ["value", "least"] := by
    have F := fun_mk (st := sInt) l18 c18 k18
    exact ⟨_, _, PySem.W.mg_of X G a18, F, F.binds (ps := ["value", "least"]) fun _ _ _ _ _ _ us hl => match us, hl with | [_, _], _ => rfl⟩
  have D19 : Df K mg "_law_is_job" sIsJobL ["job"] := by
    have F := fun_mk (st := sIsJobL) l19 c19 k19
    exact ⟨_, _, PySem.W.mg_of X G a19, F, F.binds (ps := ["job"]) fun _ _ _ _ _ _ us hl => match us, hl with | [_], _ => rfl⟩
  have D20 : Df K mg "_law_fault" sFault ["jobs"] := by
    have F := fun_mk (st := sFault) l20 c20 k20
    exact ⟨_, _, PySem.W.mg_of X G a20, F, F.binds (ps := ["jobs"]) fun _ _ _ _ _ _ us hl => match us, hl with | [_], _ => rfl⟩
  have D21 : Df K mg "_law_kind" sKind ["caught"] := by
    have F := fun_mk (st := sKind) l21 c21 k21
    exact ⟨_, _, PySem.W.mg_of X G a21, F, F.binds (ps := ["caught"]) fun _ _ _ _ _ _ us hl => match us, hl with | [_], _ => rfl⟩
  have D22 : Df K mg "_law_number" sNumberL ["word"] := by
    have F := fun_mk (st := sNumberL) l22 c22 k22
    exact ⟨_, _, PySem.W.mg_of X G a22, F, F.binds (ps := ["word"]) fun _ _ _ _ _ _ us hl => match us, hl with | [_], _ => rfl⟩
  have D23 : Df K mg "_law_read" sReadL ["line"] := by
    have F := fun_mk (st := sReadL) l23 c23 k23
    exact ⟨_, _, PySem.W.mg_of X G a23, F, F.binds (ps := ["line"]) fun _ _ _ _ _ _ us hl => match us, hl with | [_], _ => rfl⟩
  have D24 : Df K mg "_law_due" sDue ["text"] := by
    have F := fun_mk (st := sDue) l24 c24 k24
    exact ⟨_, _, PySem.W.mg_of X G a24, F, F.binds (ps := ["text"]) fun _ _ _ _ _ _ us hl => match us, hl with | [_], _ => rfl⟩
  have D25 : Df K mg "_law_spoilt_line" sSpoiltLine ["store", "line"] := by
    have F := fun_mk (st := sSpoiltLine) l25 c25 k25
    exact ⟨_, _, PySem.W.mg_of X G a25, F, F.binds (ps := ["store", "line"]) fun _ _ _ _ _ _ us hl => match us, hl with | [_, _], _ => rfl⟩
  have D26 : Df K mg "_law_spoilt_text" sSpoiltText ["store", "jobs"] := by
    have F := fun_mk (st := sSpoiltText) l26 c26 k26
    exact ⟨_, _, PySem.W.mg_of X G a26, F, F.binds (ps := ["store", "jobs"]) fun _ _ _ _ _ _ us hl => match us, hl with | [_, _], _ => rfl⟩
  have D27 : Df K mg "_law_right" sRight ["text"] := by
    have F := fun_mk (st := sRight) l27 c27 k27
    exact ⟨_, _, PySem.W.mg_of X G a27, F, F.binds (ps := ["text"]) fun _ _ _ _ _ _ us hl => match us, hl with | [_], _ => rfl⟩
  have D28 : Df K mg "law" sLaw ["script"] := by
    have F := fun_mk (st := sLaw) l28 c28 k28
    exact ⟨_, _, PySem.W.mg_of X G a28, F, F.binds (ps := ["script"]) fun _ _ _ _ _ _ us hl => match us, hl with | [_], _ => rfl⟩
  have oex0 : OexC K E0 := ⟨⟨_, _, _, _, _, _, _, _, _, _, _, _, _, _, _, x0_, rfl⟩, sa0, ec0, tE0, kc0⟩
  have exc0 : ExcC K E0 := ⟨ga0, gg0, ec0, hc0, cc0, spG, tkG, mc0⟩
  have xfc0 : XfC K E0 := ⟨ga0, gg0, ec0, hc0⟩
  have nit0 : Nit K "NoJobs" "NoJobs.__init__" "place" sJobsInit E0 := by
    have F : Fun K "__init__" "NoJobs.__init__" sJobsInit fI0 _ := fun_mk (st := sJobsInit) li0 ci0 ki0
    exact ⟨_, _, in0, ti0, F, F.binds (ps := ["self", "place"]) fun _ _ _ _ _ _ us hl => match us, hl with | [_, _], _ => rfl⟩
  have kn0 : Kn K mg E0 0 := ⟨exc0, xfc0, np0, PySem.W.mg_none_of X G zVE, kit_ve vc0, ⟨S, PySem.W.mg_of X G aS, kit_sub iS tS sc0, PySem.W.exm_ref eS hS tS sc0⟩,
    ⟨_, PySem.W.mg_of X G aE0, by rw [kit_same]; rfl⟩,
    ⟨_, PySem.W.mg_of X G aE1, by rw [kit_ref n0_1 iE1 tE1 s0_1]; rfl⟩,
    ⟨_, PySem.W.mg_of X G aE2, by rw [kit_ref n0_2 iE2 tE2 s0_2]; rfl⟩,
    ⟨_, PySem.W.mg_of X G aE3, by rw [kit_ref n0_3 iE3 tE3 s0_3]; rfl⟩,
    ⟨_, PySem.W.mg_of X G aE4, by rw [kit_ref n0_4 iE4 tE4 s0_4]; rfl⟩,
    ⟨_, PySem.W.mg_of X G aE5, by rw [kit_ref n0_5 iE5 tE5 s0_5]; rfl⟩,
    ⟨_, PySem.W.mg_of X G aE6, by rw [kit_ref n0_6 iE6 tE6 s0_6]; rfl⟩,
    ⟨_, PySem.W.mg_of X G aE7, by rw [kit_ref n0_7 iE7 tE7 s0_7]; rfl⟩,
    ⟨_, PySem.W.mg_of X G aE8, by rw [kit_ref n0_8 iE8 tE8 s0_8]; rfl⟩,
    ⟨_, PySem.W.mg_of X G aE9, by rw [kit_ref n0_9 iE9 tE9 s0_9]; rfl⟩,
    ⟨_, PySem.W.mg_of X G aE10, by rw [kit_ref n0_10 iE10 tE10 s0_10]; rfl⟩,
    ⟨_, PySem.W.mg_of X G aE11, by rw [kit_ref n0_11 iE11 tE11 s0_11]; rfl⟩⟩
  have oex7 : OexC K E7 := ⟨⟨_, _, _, _, _, _, _, _, _, _, _, _, _, _, _, x7_, rfl⟩, sa7, ec7, tE7, kc7⟩
  have exc7 : ExcC K E7 := ⟨ga7, gg7, ec7, hc7, cc7, spG, tkG, mc7⟩
  have xfc7 : XfC K E7 := ⟨ga7, gg7, ec7, hc7⟩
  have nit7 : Nit K "NoText" "NoText.__init__" "row" sTextInit E7 := by
    have F : Fun K "__init__" "NoText.__init__" sTextInit fI7 _ := fun_mk (st := sTextInit) li7 ci7 ki7
    exact ⟨_, _, in7, ti7, F, F.binds (ps := ["self", "row"]) fun _ _ _ _ _ _ us hl => match us, hl with | [_, _], _ => rfl⟩
  have kn7 : Kn K mg E7 7 := ⟨exc7, xfc7, npp7, PySem.W.mg_none_of X G zVE, kit_ve vc7, ⟨S, PySem.W.mg_of X G aS, kit_sub iS tS sc7, PySem.W.exm_ref eS hS tS sc7⟩,
    ⟨_, PySem.W.mg_of X G aE0, by rw [kit_ref n7_0 iE0 tE0 s7_0]; rfl⟩,
    ⟨_, PySem.W.mg_of X G aE1, by rw [kit_ref n7_1 iE1 tE1 s7_1]; rfl⟩,
    ⟨_, PySem.W.mg_of X G aE2, by rw [kit_ref n7_2 iE2 tE2 s7_2]; rfl⟩,
    ⟨_, PySem.W.mg_of X G aE3, by rw [kit_ref n7_3 iE3 tE3 s7_3]; rfl⟩,
    ⟨_, PySem.W.mg_of X G aE4, by rw [kit_ref n7_4 iE4 tE4 s7_4]; rfl⟩,
    ⟨_, PySem.W.mg_of X G aE5, by rw [kit_ref n7_5 iE5 tE5 s7_5]; rfl⟩,
    ⟨_, PySem.W.mg_of X G aE6, by rw [kit_ref n7_6 iE6 tE6 s7_6]; rfl⟩,
    ⟨_, PySem.W.mg_of X G aE7, by rw [kit_same]; rfl⟩,
    ⟨_, PySem.W.mg_of X G aE8, by rw [kit_ref n7_8 iE8 tE8 s7_8]; rfl⟩,
    ⟨_, PySem.W.mg_of X G aE9, by rw [kit_ref n7_9 iE9 tE9 s7_9]; rfl⟩,
    ⟨_, PySem.W.mg_of X G aE10, by rw [kit_ref n7_10 iE10 tE10 s7_10]; rfl⟩,
    ⟨_, PySem.W.mg_of X G aE11, by rw [kit_ref n7_11 iE11 tE11 s7_11]; rfl⟩⟩
  have DN : DfC K mg "is_name" sName ["value"] cN := by
    have F : Fun K "is_name" "is_name" sName fN _ := fun_mk (st := sName) lN cNf kNf
    exact ⟨fN, ocN, odN, kVN, dcN, pmN, anN, ctN, slN, PySem.W.mg_of X G aN, lN, cNf, kNf, F.binds (ps := ["value"]) fun _ _ _ _ _ _ us hl => match us, hl with | [_], _ => rfl⟩
  have tN : PySem.W.tabIn K "is_name" = some (cN, PN) := by
    unfold PySem.W.tabIn
    rw [aN]
    dsimp only
    rw [lN]
    dsimp only [PySem.W.fnOf]
    rw [hcN]
    dsimp only
    rw [hvN]
  have DO : DfC K mg "read_number" sReadNumber ["word"] cO := by
    have F : Fun K "read_number" "read_number" sReadNumber fO _ := fun_mk (st := sReadNumber) lO cOf kOf
    exact ⟨fO, ocO, odO, kVO, dcO, pmO, anO, ctO, slO, PySem.W.mg_of X G aO, lO, cOf, kOf, F.binds (ps := ["word"]) fun _ _ _ _ _ _ us hl => match us, hl with | [_], _ => rfl⟩
  have tO : PySem.W.tabIn K "read_number" = some (cO, PO) := by
    unfold PySem.W.tabIn
    rw [aO]
    dsimp only
    rw [lO]
    dsimp only [PySem.W.fnOf]
    rw [hcO]
    dsimp only
    rw [hvO]
  have B : Blt mg := ⟨PySem.W.mg_none_of X G z_len, PySem.W.mg_none_of X G z_isinstance, PySem.W.mg_none_of X G z_int, PySem.W.mg_none_of X G z_bool, PySem.W.mg_none_of X G z_tuple, PySem.W.mg_none_of X G z_str, PySem.W.mg_none_of X G z_range, PySem.W.mg_none_of X G z_enumerate, PySem.W.mg_none_of X G z_list⟩
  have F := fun_mk (st := sLaw) l28 c28 k28
  have e := hfa.symm.trans (PySem.W.mg_of X G a28)
  cases e
  refine ⟨PySem.W.fnOf "law" "law" (defArgs sLaw) (defBody sLaw) (defScope sLaw) .none kV28 dc28 pm28 an28 cd28 ct28, cN, PN, cO, PO, tN, tO, nPN, nPO, fun s v => .of_eq rfl, fun base _ _ TB TB2 => ?_⟩
  have cI := ok_integer (P := l.prog) (w := w) (base := base) D0 B
  have cT := ok_tupleOf (P := l.prog) (w := w) (base := base) D1 B
  have cA := ok_arrival (P := l.prog) (w := w) (base := base) D10 cT cI
  have cN' := ok_name (P := l.prog) (w := w) (base := base) DN TB B (PySem.W.mg_none_of X G z_all)
  have cJ := ok_isJob (P := l.prog) (w := w) (base := base) D9 cT cI cN' cA
  have cW := ok_waits (P := l.prog) (w := w) (base := base) D11 B
  have er := erc_jobs (P := l.prog) (w := w) (base := base) (PySem.W.mg_of X G aE0) oex0 np0 nit0
  have cE := ok_each (P := l.prog) (w := w) (base := base) D8 B er cJ
  have cK := ok_check (P := l.prog) (w := w) (base := base) D2 B er cE cW
  have erT := erc_text (P := l.prog) (w := w) (base := base) (PySem.W.mg_of X G aE7) oex7 np7 nit7
  have cRN := ok_readNumber (P := l.prog) (w := w) (base := base) DO TB2 B (PySem.W.mg_none_of X G z_all) ⟨_, PySem.W.mg_of X G aMD, ⟨tMD, rfl⟩⟩
  have cRC := ok_readCount (P := l.prog) (w := w) (base := base) D6 B cRN
  have cRE := ok_readEntry (P := l.prog) (w := w) (base := base) D5 cRC
  have cRJ := ok_readJob (P := l.prog) (w := w) (base := base) D4 B cRN cRE cJ
  have cRD := ok_readJobs (P := l.prog) (w := w) (base := base) D3 B erT cK cRJ
  have cLL := ok_jobLine (P := l.prog) (w := w) (base := base) D7
  have cM := ok_mix (P := l.prog) (w := w) (base := base) D12
  have cS := ok_store (P := l.prog) (w := w) (base := base) D13 B.len
  have cP := ok_pick (P := l.prog) (w := w) (base := base) D14 cM B.len
  have cNm := ok_names (P := l.prog) (w := w) (base := base) D15 B cP
  have cB := ok_before (P := l.prog) (w := w) (base := base) D16
  have cG := ok_jobs (P := l.prog) (w := w) (base := base) D17 B cP cNm cB
  have cL := ok_int (P := l.prog) (w := w) (base := base) D18 B
  have cV := ok_isJobL (P := l.prog) (w := w) (base := base) D19 B cL
  have cF := ok_fault (P := l.prog) (w := w) (base := base) D20 B cV cB
  have cKi := ok_kind2 (P := l.prog) (w := w) (base := base) (h7 := rfl) D21 B kn0 kn7 np7
  have cNL := ok_numberL (P := l.prog) (w := w) (base := base) D22 B
  have cRL := ok_readL (P := l.prog) (w := w) (base := base) D23 B cNL cV
  have cDu := ok_due (P := l.prog) (w := w) (base := base) D24 B cRL cF
  have cSL := ok_spoiltLine (P := l.prog) (w := w) (base := base) D25 B cP
  have cST := ok_spoiltText (P := l.prog) (w := w) (base := base) D26 B cP cLL cSL
  have cR := ok_right (P := l.prog) (w := w) (base := base) D27 B kn0 kn7 cDu cRD cKi
  exact ok_law F B cS cG cST cR
end Vk
namespace Vk
open PySem PySem.Spec PyProof.Rows L2 GxR
theorem walkT {l : PySem.W.OpenLaw} {q : Program} {loose : List Str} {XP : (Str → Option Value) → Heap → Prop} {YP : World → Heap → Prop} {d dN dO : DefRec} {K : Params → PySem.W.Frag} (hn : l.most = some 63) (hdf : d.params.defaults = [])
    (hrec : (recsOf q).find? (fun e => e.name == ("is_name" : Str)) = some dN) (hrec2 : (recsOf q).find? (fun e => e.name == ("read_number" : Str)) = some dO) (hY : ∀ (w : World) (h : Heap), YP w h → (K w.params).In h)
    (F : ∀ (w : World) (mg : Str → Option Value) (fa : Addr) (h : Heap), (K w.params).In h → h.Ns mainGlobals mg → mg d.name = some (.ref fa) → LawTab l w (K w.params) mg fa) :
    PySem.W.WalkO q loose XP YP l.row.toRowW d [] (fun f vs => PySem.call f vs) := by
  refine Att.attach_callB hn hdf fun w s₀ s₁ mg mb fa o pm cd doc a vs ns G Y ho hd hcd hmg hobj hints hlen hbits hg => ?_
  have KX := hY w _ Y
  obtain ⟨fd, c, P, c2, P2, ht, ht2, nl, nl2, hb, hF⟩ := F w mg fa _ KX G.T.g hmg
  obtain ⟨hC, hP⟩ := PySem.W.tab_of G.T KX hrec ht
  obtain ⟨hC2, hP2⟩ := PySem.W.tab_of G.T KX hrec2 ht2
  have one : ∀ {C : Addr × Addr → Prop}, C (c, P) → C (c2, P2) → ∀ p ∈ [(c, P), (c2, P2)], C p := fun h h2 p hp => by
    simp only [List.mem_cons, List.not_mem_nil, or_false] at hp
    rcases hp with rfl | rfl
    · exact h
    · exact h2
  have m1 : (c, P) ∈ [(c, P), (c2, P2)] := by simp
  have m2 : (c2, P2) ∈ [(c, P), (c2, P2)] := by simp
  exact LamX.law_callTs (k := 8) (cs := [(c, P), (c2, P2)]) (sp := spLaw (K w.params) P P2) (CX := CX0) KX G.T.g G.T.b G.T.builtins G.T.nolimit hg (one hP hP2) (one nl nl2) (one hC hC2) G.T.bmain hobj hints (Nat.le_trans hlen (by decide)) ⟨rfl, by decide, by decide⟩
    (fun base i n t => let z := t (c, P) m1; let y := t (c2, P2) m2; hF base i n ⟨z.code, z.bm, z.gP⟩ ⟨y.code, y.bm, y.gP⟩) hb (fun H hH hS => ⟨a, ns, rfl, hS, hlen, ⟨#[], hH (c, P) m1, by simp [TriplesOk]⟩, ⟨#[], hH (c2, P2) m2, by simp [TriplesOk]⟩, fun _ => rfl⟩) (fun _ _ _ h => h)
end Vk
open PySem PySem.W PyProof.Rows in
set_option maxRecDepth 100000 in
set_option maxHeartbeats 0 in
theorem PySem.Challenge.cw_blindslots_k05_texts_that_are_no_jobs_holds : PySem.Challenge.rw_blindslots_k05_texts_that_are_no_jobs.Holds := by
  w_on; o_law; k_head; (case hw => w_witness2)
  k_fill
  refine Vk.walkT (l := PySem.Challenge.rw_blindslots_k05_texts_that_are_no_jobs) rfl rfl rfl rfl (fun w h Y => PySem.W.kIn_of Y) ?F
  case F =>
    intro w mg fa h KX G hmg
    refine' Vk.all_mk KX G hmg ?a0 ?l0 ?c0 ?k0 ?a1 ?l1 ?c1 ?k1 ?a2 ?l2 ?c2 ?k2 ?a3 ?l3 ?c3 ?k3 ?a4 ?l4 ?c4 ?k4 ?a5 ?l5 ?c5 ?k5 ?a6 ?l6 ?c6 ?k6 ?a7 ?l7 ?c7 ?k7 ?a8 ?l8 ?c8 ?k8 ?a9 ?l9 ?c9 ?k9 ?a10 ?l10 ?c10 ?k10 ?a11 ?l11 ?c11 ?k11 ?a12 ?l12 ?c12 ?k12 ?a13 ?l13 ?c13 ?k13 ?a14 ?l14 ?c14 ?k14 ?a15 ?l15 ?c15 ?k15 ?a16 ?l16 ?c16 ?k16 ?a17 ?l17 ?c17 ?k17 ?a18 ?l18 ?c18 ?k18 ?a19 ?l19 ?c19 ?k19 ?a20 ?l20 ?c20 ?k20 ?a21 ?l21 ?c21 ?k21 ?a22 ?l22 ?c22 ?k22 ?a23 ?l23 ?c23 ?k23 ?a24 ?l24 ?c24 ?k24 ?a25 ?l25 ?c25 ?k25 ?a26 ?l26 ?c26 ?k26 ?a27 ?l27 ?c27 ?k27 ?a28 ?l28 ?c28 ?k28 ?z_len ?z_isinstance ?z_int ?z_bool ?z_tuple ?z_str ?z_range ?z_enumerate ?z_list ?z_all ?aS ?iS ?hS ?tS ?eS ?spG ?tkG ?zVE ?aE0 ?iE0 ?tE0 ?aE1 ?iE1 ?tE1 ?aE2 ?iE2 ?tE2 ?aE3 ?iE3 ?tE3 ?aE4 ?iE4 ?tE4 ?aE5 ?iE5 ?tE5 ?aE6 ?iE6 ?tE6 ?aE7 ?iE7 ?tE7 ?aE8 ?iE8 ?tE8 ?aE9 ?iE9 ?tE9 ?aE10 ?iE10 ?tE10 ?aE11 ?iE11 ?tE11 ?x0_ ?sa0 ?ga0 ?gg0 ?np0 ?in0 ?ti0 ?li0 ?ci0 ?ki0 ?kc0 ?ec0 ?hc0 ?cc0 ?mc0 ?vc0 ?sc0 ?s0_1 ?n0_1 ?s0_2 ?n0_2 ?s0_3 ?n0_3 ?s0_4 ?n0_4 ?s0_5 ?n0_5 ?s0_6 ?n0_6 ?s0_7 ?n0_7 ?s0_8 ?n0_8 ?s0_9 ?n0_9 ?s0_10 ?n0_10 ?s0_11 ?n0_11 ?x7_ ?sa7 ?ga7 ?gg7 ?np7 ?npp7 ?in7 ?ti7 ?li7 ?ci7 ?ki7 ?kc7 ?ec7 ?hc7 ?cc7 ?mc7 ?vc7 ?sc7 ?s7_0 ?n7_0 ?s7_1 ?n7_1 ?s7_2 ?n7_2 ?s7_3 ?n7_3 ?s7_4 ?n7_4 ?s7_5 ?n7_5 ?s7_6 ?n7_6 ?s7_8 ?n7_8 ?s7_9 ?n7_9 ?s7_10 ?n7_10 ?s7_11 ?n7_11 ?aN ?lN ?cNf ?kNf ?hcN ?hvN ?nPN ?aO ?lO ?cOf ?kOf ?hcO ?hvO ?nPO ?aMD
    (case a0 => k_is)
    (case l0 => k_is)
    (case c0 => k_is)
    (case k0 => k_is)
    (case a1 => k_is)
    (case l1 => k_is)
    (case c1 => k_is)
    (case k1 => k_is)
    (case a2 => k_is)
    (case l2 => k_is)
    (case c2 => k_is)
    (case k2 => k_is)
    (case a3 => k_is)
    (case l3 => k_is)
    (case c3 => k_is)
    (case k3 => k_is)
    (case a4 => k_is)
    (case l4 => k_is)
    (case c4 => k_is)
    (case k4 => k_is)
    (case a5 => k_is)
    (case l5 => k_is)
    (case c5 => k_is)
    (case k5 => k_is)
    (case a6 => k_is)
    (case l6 => k_is)
    (case c6 => k_is)
    (case k6 => k_is)
    (case a7 => k_is)
    (case l7 => k_is)
    (case c7 => k_is)
    (case k7 => k_is)
    (case a8 => k_is)
    (case l8 => k_is)
    (case c8 => k_is)
    (case k8 => k_is)
    (case a9 => k_is)
    (case l9 => k_is)
    (case c9 => k_is)
    (case k9 => k_is)
    (case a10 => k_is)
    (case l10 => k_is)
    (case c10 => k_is)
    (case k10 => k_is)
    (case a11 => k_is)
    (case l11 => k_is)
    (case c11 => k_is)
    (case k11 => k_is)
    (case a12 => k_is)
    (case l12 => k_is)
    (case c12 => k_is)
    (case k12 => k_is)
    (case a13 => k_is)
    (case l13 => k_is)
    (case c13 => k_is)
    (case k13 => k_is)
    (case a14 => k_is)
    (case l14 => k_is)
    (case c14 => k_is)
    (case k14 => k_is)
    (case a15 => k_is)
    (case l15 => k_is)
    (case c15 => k_is)
    (case k15 => k_is)
    (case a16 => k_is)
    (case l16 => k_is)
    (case c16 => k_is)
    (case k16 => k_is)
    (case a17 => k_is)
    (case l17 => k_is)
    (case c17 => k_is)
    (case k17 => k_is)
    (case a18 => k_is)
    (case l18 => k_is)
    (case c18 => k_is)
    (case k18 => k_is)
    (case a19 => k_is)
    (case l19 => k_is)
    (case c19 => k_is)
    (case k19 => k_is)
    (case a20 => k_is)
    (case l20 => k_is)
    (case c20 => k_is)
    (case k20 => k_is)
    (case a21 => k_is)
    (case l21 => k_is)
    (case c21 => k_is)
    (case k21 => k_is)
    (case a22 => k_is)
    (case l22 => k_is)
    (case c22 => k_is)
    (case k22 => k_is)
    (case a23 => k_is)
    (case l23 => k_is)
    (case c23 => k_is)
    (case k23 => k_is)
    (case a24 => k_is)
    (case l24 => k_is)
    (case c24 => k_is)
    (case k24 => k_is)
    (case a25 => k_is)
    (case l25 => k_is)
    (case c25 => k_is)
    (case k25 => k_is)
    (case a26 => k_is)
    (case l26 => k_is)
    (case c26 => k_is)
    (case k26 => k_is)
    (case a27 => k_is)
    (case l27 => k_is)
    (case c27 => k_is)
    (case k27 => k_is)
    (case a28 => k_is)
    (case l28 => k_is)
    (case c28 => k_is)
    (case k28 => k_is)
    (case z_len => k_is)
    (case z_isinstance => k_is)
    (case z_int => k_is)
    (case z_bool => k_is)
    (case z_tuple => k_is)
    (case z_str => k_is)
    (case z_range => k_is)
    (case z_enumerate => k_is)
    (case z_list => k_is)
    (case z_all => k_is)
    (case aS => k_is)
    (case iS => k_is)
    (case hS => k_is)
    (case tS => k_is)
    (case eS => k_is)
    (case spG => k_is)
    (case tkG => k_is)
    (case zVE => k_is)
    (case aE0 => k_is)
    (case iE0 => k_is)
    (case tE0 => k_is)
    (case aE1 => k_is)
    (case iE1 => k_is)
    (case tE1 => k_is)
    (case aE2 => k_is)
    (case iE2 => k_is)
    (case tE2 => k_is)
    (case aE3 => k_is)
    (case iE3 => k_is)
    (case tE3 => k_is)
    (case aE4 => k_is)
    (case iE4 => k_is)
    (case tE4 => k_is)
    (case aE5 => k_is)
    (case iE5 => k_is)
    (case tE5 => k_is)
    (case aE6 => k_is)
    (case iE6 => k_is)
    (case tE6 => k_is)
    (case aE7 => k_is)
    (case iE7 => k_is)
    (case tE7 => k_is)
    (case aE8 => k_is)
    (case iE8 => k_is)
    (case tE8 => k_is)
    (case aE9 => k_is)
    (case iE9 => k_is)
    (case tE9 => k_is)
    (case aE10 => k_is)
    (case iE10 => k_is)
    (case tE10 => k_is)
    (case aE11 => k_is)
    (case iE11 => k_is)
    (case tE11 => k_is)
    (case x0_ => k_is)
    (case sa0 => k_is)
    (case ga0 => k_is)
    (case gg0 => k_is)
    (case np0 => k_is)
    (case in0 => k_is)
    (case ti0 => k_is)
    (case li0 => k_is)
    (case ci0 => k_is)
    (case ki0 => k_is)
    (case kc0 => k_is)
    (case ec0 => k_is)
    (case hc0 => k_is)
    (case cc0 => k_is)
    (case mc0 => k_is)
    (case vc0 => k_is)
    (case sc0 => k_is)
    (case s0_1 => k_is)
    (case n0_1 => rfl)
    (case s0_2 => k_is)
    (case n0_2 => rfl)
    (case s0_3 => k_is)
    (case n0_3 => rfl)
    (case s0_4 => k_is)
    (case n0_4 => rfl)
    (case s0_5 => k_is)
    (case n0_5 => rfl)
    (case s0_6 => k_is)
    (case n0_6 => rfl)
    (case s0_7 => k_is)
    (case n0_7 => rfl)
    (case s0_8 => k_is)
    (case n0_8 => rfl)
    (case s0_9 => k_is)
    (case n0_9 => rfl)
    (case s0_10 => k_is)
    (case n0_10 => rfl)
    (case s0_11 => k_is)
    (case n0_11 => rfl)
    (case x7_ => k_is)
    (case sa7 => k_is)
    (case ga7 => k_is)
    (case gg7 => k_is)
    (case np7 => k_is)
    (case npp7 => k_is)
    (case in7 => k_is)
    (case ti7 => k_is)
    (case li7 => k_is)
    (case ci7 => k_is)
    (case ki7 => k_is)
    (case kc7 => k_is)
    (case ec7 => k_is)
    (case hc7 => k_is)
    (case cc7 => k_is)
    (case mc7 => k_is)
    (case vc7 => k_is)
    (case sc7 => k_is)
    (case s7_0 => k_is)
    (case n7_0 => rfl)
    (case s7_1 => k_is)
    (case n7_1 => rfl)
    (case s7_2 => k_is)
    (case n7_2 => rfl)
    (case s7_3 => k_is)
    (case n7_3 => rfl)
    (case s7_4 => k_is)
    (case n7_4 => rfl)
    (case s7_5 => k_is)
    (case n7_5 => rfl)
    (case s7_6 => k_is)
    (case n7_6 => rfl)
    (case s7_8 => k_is)
    (case n7_8 => rfl)
    (case s7_9 => k_is)
    (case n7_9 => rfl)
    (case s7_10 => k_is)
    (case n7_10 => rfl)
    (case s7_11 => k_is)
    (case n7_11 => rfl)
    (case aN => k_is)
    (case lN => k_is)
    (case cNf => k_is)
    (case kNf => k_is)
    (case hcN => k_is)
    (case hvN => rfl)
    (case nPN => first | k_is | kernel_rfl)
    (case aO => k_is)
    (case lO => k_is)
    (case cOf => k_is)
    (case kOf => k_is)
    (case hcO => k_is)
    (case hvO => rfl)
    (case nPO => first | k_is | kernel_rfl)
    (case aMD => k_is)
