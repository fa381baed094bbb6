import PyProof.Rows.All
import Wide.All
import OpenK.AllK
import Wide.FinOn
import HandS.ForMost
import HandS.Exc
import HandS.TryOnly
import HandS.ExcOwn
import HandS.WordsExc
import HandS.Codes
import HandS.IsInst
import HandS.Walk
import HandS.AnyAll
import KE.GoesEnum
import KE.KExcIs
import HandS.ExcInit
import HandS.ExcField
import HandS.ExcIs
import HandS.SetFor
import HandS.TupAny
import HandS.TupMul
import PyProof.EqAt
import PyProof.NeKinds
import HandS.Style
import KE.KRevSl
import HandS.Defaults
import HandS.Head3
import HandS.HeadHook4
import HandS.EndTab
import HandS.EndBits
import KE.KStateDown
import PySem.Challenge.RW_blindslots_k47_errors_of_every_other_fun
set_option Elab.async false
set_option linter.all false
set_option maxRecDepth 100000
set_option maxHeartbeats 8000000
set_option maxHeartbeats 4000000
/-! what every text of ours needs: a def as it stands, its call, the drawing store -/
namespace Vk
open PySem PySem.Spec PyProof.Rows L2
/-- a def of the module's top -/
structure Df (K : PySem.W.Frag) (mg : Str → Option Value) (x : Str) (st : Stmt) (ps : List Str) : Prop where
  ex : ∃ f fd, mg x = some (.ref f) ∧ Fun K x x st f fd ∧ Binds K fd ps []
/-- its promise -/
structure Cl (P : Program) (w : World) (K : PySem.W.Frag) (mg : Str → Option Value) (base : Heap) (CX : CXT) (k : Nat) (x : Str) (ps : List Str) (sp : Sp) : Prop where
  ex : ∃ f fd, mg x = some (.ref f) ∧ PySem.W.keepIn K (.ref f) = true ∧ Binds K fd ps [] ∧ FnOk P w K mg base CX k f fd ps sp
section
variable {P : Program} {w : World} {K : PySem.W.Frag} {mg : Str → Option Value} {base : Heap}
theorem cl0 {x : Str} {st : Stmt} {N ps : List Str} {k : Nat} {sp : Sp} (D : Df K mg x st ps) (S : FnScope N ps (defScope st)) (len : ∀ vs H Q E, sp vs H Q E → vs.length = ps.length)
    (body : ∀ (f : Addr) (cdv : Value) (A : Around) (outer : List Env) (s : Shared) (H : Hp) (vs : List V) (Q : VK) (E : XK), Room k (A.deeper (envOfC x (defScope st) s.heap.objs.size f cdv)) → sp vs H Q E →
      ∃ t, PSs (cxOf CX0 P w K mg base N x (defScope st) f cdv A outer s H E).nox (defBody st) t ∧ t { nx := fun _ H' => Q .non H', rt := Q } (start N vs) H) : Cl P w K mg base CX0 (k + 1) x ps sp := by
  obtain ⟨f, fd, hm, F, b⟩ := D.ex
  exact ⟨f, fd, hm, F.kp, b, F.ok S len (body f)⟩
theorem clX {x : Str} {st : Stmt} {N ps : List Str} {k : Nat} {sp : Sp} (D : Df K mg x st ps) (S : FnScope N ps (defScope st)) (len : ∀ vs H Q E, sp vs H Q E → vs.length = ps.length)
    (body : ∀ (f : Addr) (cdv : Value) (A : Around) (outer : List Env) (s : Shared) (H : Hp) (vs : List V) (Q : VK) (E : XK), Room k (A.deeper (envOfC x (defScope st) s.heap.objs.size f cdv)) → sp vs H Q E →
      ∃ t, PSs (cxOf (L2.CX P w) P w K mg base N x (defScope st) f cdv A outer s H E) (defBody st) t ∧ t { nx := fun _ H' => Q .non H', rt := Q } (start N vs) H) : Cl P w K mg base (L2.CX P w) (k + 1) x ps sp := by
  obtain ⟨f, fd, hm, F, b⟩ := D.ex
  exact ⟨f, fd, hm, F.kp, b, F.okX S len (body f)⟩
end
def tCal (sp : Sp) (t : TA) : TE := fun σ H Q => t σ H fun vs H1 => sp (vs ++ []) H1 Q E0
section
variable {X : Cx}
theorem pc {x : Str} {ps : List Str} {sp : Sp} {j k : Nat} {e : Expr} {es : List Expr} {t : TA} {p pos : Pos} (c : Cl X.prog X.w X.K X.mg X.base CX0 k x ps sp) (hr : Room j X.A) (hk : k ≤ j) (ha : PA X (e :: es) t) (hg : Gl X x := by rfl)
    (hdb : (x == ("__debug__" : Str)) = false := by decide) (he : starEach (e :: es) X.env = (false, eval e X.env) :: starEach es X.env := by rfl) (hpl : (backTo pos (starEach es X.env)).any (·.1) = false := by rfl) :
    PE X (.Call (.Name x p) (e :: es) [] pos) (tCal sp t) := by
  obtain ⟨f, fd, hm, kp, b, F⟩ := c.ex
  exact pe_call F (hr.mono hk) hg hm kp b .nil pass0 ha hdb he hpl
end
/-! ### heaps -/
def NoTbl : HO → Prop
  | .tbl _ => False
  | _ => True
/-- all that was tracked is as it was, but that tables of code objects may have grown -/
structure Same (H H' : Hp) : Prop where
  at_ : ∀ b o, H b = some o → NoTbl o → H' b = some o
  has : ∀ b, H b ≠ none → H' b ≠ none
  tab : ∀ P, GxR.TabG H P → GxR.TabG H' P
theorem Same.at {H H' : Hp} {b : Addr} {o : HO} (s : Same H H') (h : H b = some o) (n : NoTbl o := by exact True.intro) : H' b = some o := s.at_ b o h n
theorem Same.refl (H : Hp) : Same H H := ⟨fun _ _ h _ => h, fun _ h => h, fun _ h => h⟩
theorem Same.trans {H H1 H2 : Hp} (a : Same H H1) (b : Same H1 H2) : Same H H2 := ⟨fun c o h n => b.at_ c o (a.at_ c o h n) n, fun c h => b.has c (a.has c h), fun P h => b.tab P (a.tab P h)⟩
theorem Same.of {H H' : Hp} (h : ∀ b o, H b = some o → H' b = some o) : Same H H' := by
  refine ⟨fun b o e _ => h b o e, fun b e => ?_, fun P ⟨ps, e, t⟩ => ⟨ps, h _ _ e, t⟩⟩
  cases q : H b with
  | none => exact absurd q e
  | some o =>
    rw [h b o q]
    exact fun z => nomatch z
theorem Same.free {H H' : Hp} (e : Same H H') {l : Addr} (h : H' l = none) : H l = none := by
  cases q : H l with
  | none => rfl
  | some o => exact absurd h (e.has l (by rw [q]; exact fun z => nomatch z))
theorem Same.seq {K : PySem.W.Frag} {H H' : Hp} {a : Addr} {xs : List V} (e : Same H H') (h : SqL K H a xs) : SqL K H' a xs := by
  rcases h with (h | ⟨o, h⟩) | h
  · exact .inl (.inl (e.at h))
  · exact .inl (.inr ⟨o, e.at h⟩)
  · exact .inr h
theorem ne_has {H : Hp} {a p : Addr} (h : H a ≠ none) (n : H p = none) : p ≠ a := fun z => h (z ▸ n)
theorem has_of {H : Hp} {a : Addr} {o : HO} (h : H a = some o) : H a ≠ none := by
  rw [h]
  exact fun z => nomatch z
/-- a table grows -/
theorem same_tabbed {P : Addr} {H H' : Hp} (h : GxR.Tabbed P H H') (h0 : GxR.TabG H P) : Same H H' := by
  obtain ⟨⟨ps', e', t'⟩, k⟩ := h
  obtain ⟨ps, e, t⟩ := h0
  refine ⟨fun b o q n => ?_, fun b q => ?_, fun Q hq => ?_⟩
  · by_cases z : b = P
    · rw [z, e] at q
      cases q
      exact False.elim n
    · rw [k b z]
      exact q
  · by_cases z : b = P
    · rw [z, e']
      exact fun z => nomatch z
    · rw [k b z]
      exact q
  · by_cases z : Q = P
    · rw [z]
      exact ⟨ps', e', t'⟩
    · obtain ⟨qs, f, u⟩ := hq
      exact ⟨qs, by rw [k Q z]; exact f, u⟩
/-- the heap without what stands at a -/
def Off (a : Addr) (H : Hp) : Hp := fun b => if b = a then none else H b
theorem off_ne {a b : Addr} {H : Hp} (h : b ≠ a) : Off a H b = H b := if_neg h
theorem off_same {a : Addr} {H : Hp} : Off a H a = none := if_pos rfl
theorem off_some {a b : Addr} {H : Hp} {o : HO} (e : Off a H b = some o) : b ≠ a ∧ H b = some o := by
  by_cases h : b = a
  · rw [h, off_same] at e; cases e
  · exact ⟨h, by rw [off_ne h] at e; exact e⟩
theorem off_sub (a : Addr) (H : Hp) : Same (Off a H) H := .of fun b o e => (off_some e).2
theorem off_mono {a : Addr} {H H' : Hp} (s : Same H H') : Same (Off a H) (Off a H') := by
  refine ⟨fun b o e n => ?_, fun b e => ?_, fun P ⟨ps, e, t⟩ => ?_⟩
  · obtain ⟨h1, h2⟩ := off_some e
    rw [off_ne h1]
    exact s.at_ b o h2 n
  · by_cases h : b = a
    · rw [h, off_same] at e
      exact absurd rfl e
    · rw [off_ne h] at e ⊢
      exact s.has b e
  · obtain ⟨h1, h2⟩ := off_some e
    obtain ⟨qs, f, u⟩ := s.tab P ⟨ps, h2, t⟩
    exact ⟨qs, by rw [off_ne h1]; exact f, u⟩
theorem off_upd {a : Addr} {H : Hp} {o : HO} : Off a (upd H a o) = Off a H := by
  funext b
  by_cases h : b = a
  · rw [h, off_same, off_same]
  · rw [off_ne h, off_ne h, upd_ne h]
theorem same_new {H : Hp} {p : Addr} {o : HO} (h : H p = none) : Same H (upd H p o) := .of fun b u e => by
  rw [upd_ne (ne_of_none e h)]; exact e
theorem same_seqT {K : PySem.W.Frag} {H H' : Hp} {a : Addr} {xs : List V} (e : Same H H') (h : SqT K H a xs) : SqT K H' a xs := by
  rcases h with (h | ⟨o, h⟩) | h
  · exact .inl (.inl (e.at h))
  · exact .inl (.inr ⟨o, e.at h⟩)
  · exact .inr h
mutual
theorem dp_same {K : PySem.W.Frag} {H H' : Hp} (e : Same H H') : ∀ {v : V} {d : PyData}, Dp K H v d → Dp K H' v d
  | _, _, .non => .non
  | _, _, .bl b => .bl b
  | _, _, .int i => .int i
  | _, _, .str x => .str x
  | _, _, .lst h r => .lst (e.seq h) (dps_same e r)
  | _, _, .tup h r => .tup (same_seqT e h) (dps_same e r)
theorem dps_same {K : PySem.W.Frag} {H H' : Hp} (e : Same H H') : ∀ {vs : List V} {ds : List PyData}, DpAll K H vs ds → DpAll K H' vs ds
  | _, _, .nil => .nil
  | _, _, .cons h r => .cons (dp_same e h) (dps_same e r)
end
/-! ### the law's store: cells, next index, digits, all mixed, draws so far (at most n) -/
structure Sto (sc a : Addr) (n : Int) (H : Hp) : Prop where
  ex : ∃ (cs : List Int) (i dg mx c : Int), H a = some (.lst [.ref sc, .int i, .int dg, .int mx, .int c]) ∧ sc ≠ a ∧ H sc = some (.lst (cs.map V.int)) ∧ cs.length ≤ 63 ∧ 0 ≤ i ∧ 0 ≤ dg ∧ 0 ≤ c ∧ c ≤ n
theorem Sto.more {sc a : Addr} {n m : Int} {H : Hp} (s : Sto sc a n H) (h : n ≤ m) : Sto sc a m H := by
  obtain ⟨x2, x3, x4, x5, x6, h1, h2, h3, h4, h5, h6, h7, h8⟩ := s.ex
  exact ⟨x2, x3, x4, x5, x6, h1, h2, h3, h4, h5, h6, h7, by omega⟩
/-- all else stands -/
def Kept (a : Addr) (H H' : Hp) : Prop := Same (Off a H) (Off a H')
theorem Kept.refl (a : Addr) (H : Hp) : Kept a H H := Same.refl _
theorem Kept.trans {a : Addr} {H H1 H2 : Hp} (x : Kept a H H1) (y : Kept a H1 H2) : Kept a H H2 := Same.trans x y
theorem kept_same {a : Addr} {H H' : Hp} (s : Same H H') : Kept a H H' := off_mono s
theorem Sto.same {sc a : Addr} {n : Int} {H H' : Hp} (s : Sto sc a n H) (e : Same H H') : Sto sc a n H' := by
  obtain ⟨x2, x3, x4, x5, x6, h1, h2, h3, h4⟩ := s.ex
  exact ⟨x2, x3, x4, x5, x6, e.at h1, h2, e.at h3, h4⟩
theorem Sto.put {sc a : Addr} {n : Int} {H : Hp} {cs : List Int} {i dg mx c : Int} (hs : sc ≠ a) (hq : H sc = some (.lst (cs.map V.int))) (hl : cs.length ≤ 63) (hi : 0 ≤ i) (hd : 0 ≤ dg) (hc : 0 ≤ c) (hn : c ≤ n) :
    Sto sc a n (upd H a (.lst [.ref sc, .int i, .int dg, .int mx, .int c])) :=
  ⟨cs, i, dg, mx, c, upd_same, hs, by rw [upd_ne hs]; exact hq, hl, hi, hd, hc, hn⟩
/-- another list changes -/
theorem Sto.other {sc a l : Addr} {n : Int} {H : Hp} {o : HO} (s : Sto sc a n H) (h1 : l ≠ a) (h2 : l ≠ sc) : Sto sc a n (upd H l o) := by
  obtain ⟨x2, x3, x4, x5, x6, g1, g2, g3, g4⟩ := s.ex
  exact ⟨x2, x3, x4, x5, x6, by rw [upd_ne h1.symm]; exact g1, g2, by rw [upd_ne h2.symm]; exact g3, g4⟩
theorem Sto.ne {sc a p : Addr} {n : Int} {H : Hp} (s : Sto sc a n H) (h : H p = none) : p ≠ a := by
  obtain ⟨_, _, _, _, _, h1, _⟩ := s.ex
  exact (ne_of_none h1 h).symm
theorem Sto.ne2 {sc a p : Addr} {n : Int} {H : Hp} (s : Sto sc a n H) (h : H p = none) : p ≠ sc := by
  obtain ⟨_, _, _, _, _, _, _, h1, _⟩ := s.ex
  exact (ne_of_none h1 h).symm
theorem kept_put {a : Addr} {H : Hp} {o : HO} : Kept a H (upd H a o) := by unfold Kept; rw [off_upd]; exact Same.refl _
theorem Sto.hasA {sc a : Addr} {n : Int} {H : Hp} (s : Sto sc a n H) : H a ≠ none := by
  obtain ⟨_, _, _, _, _, h1, _⟩ := s.ex
  exact has_of h1
theorem Sto.tab {sc a P : Addr} {n : Int} {H : Hp} (s : Sto sc a n H) (t : GxR.TabG H P) : GxR.TabG (Off a H) P := by
  obtain ⟨_, _, _, _, _, h1, _⟩ := s.ex
  obtain ⟨ps, e, u⟩ := t
  exact ⟨ps, by rw [off_ne (ne_of h1 e (fun z => nomatch z)).symm]; exact e, u⟩
theorem Kept.tab {sc a P : Addr} {n : Int} {H H' : Hp} (k : Kept a H H') (s : Sto sc a n H) (t : GxR.TabG H P) : GxR.TabG H' P := (off_sub a H').tab P (Same.tab k P (s.tab t))
end Vk
set_option maxHeartbeats 4000000
namespace Vk
open PySem
def top (i : Nat) : Stmt := PySem.Challenge.pw_blindslots_k47_errors_of_every_other_fun.main.body.getD i (.Pass ⟨0, 0, 0, 0⟩)
abbrev sInteger : Stmt := top 20
abbrev sTupleOf : Stmt := top 21
abbrev sName : Stmt := top 22
abbrev sCheck : Stmt := top 24
abbrev sCount : Stmt := top 25
abbrev sHas : Stmt := top 26
abbrev sEach : Stmt := top 27
abbrev sIsJob : Stmt := top 28
abbrev sArrival : Stmt := top 29
abbrev sWaits : Stmt := top 30
abbrev sCheckR : Stmt := top 34
abbrev sLevel : Stmt := top 35
abbrev sIsCnt : Stmt := top 36
abbrev sPresence : Stmt := top 45
abbrev sFirst : Stmt := top 46
abbrev sWays : Stmt := top 47
abbrev sCheckLog : Stmt := top 49
abbrev sPresent : Stmt := top 52
abbrev sRunning : Stmt := top 53
abbrev sLengthsOf : Stmt := top 55
abbrev sNth : Stmt := top 56
abbrev sParting : Stmt := top 57
abbrev sCheckMarks : Stmt := top 60
abbrev sFromNames : Stmt := top 64
abbrev sByNames : Stmt := top 65
abbrev sMix : Stmt := top 71
abbrev sStore : Stmt := top 72
abbrev sPick : Stmt := top 73
abbrev sNames : Stmt := top 74
abbrev sBefore : Stmt := top 75
abbrev sJobs : Stmt := top 76
abbrev sInt : Stmt := top 77
abbrev sIsJobL : Stmt := top 78
abbrev sFault : Stmt := top 79
abbrev sSpoilt : Stmt := top 80
abbrev sRule : Stmt := top 81
abbrev sFaultR : Stmt := top 82
abbrev sBadRule : Stmt := top 83
abbrev sKind : Stmt := top 84
abbrev sPresentL : Stmt := top 85
abbrev sLog : Stmt := top 86
abbrev sLogFault : Stmt := top 87
abbrev sBadLog : Stmt := top 88
abbrev sCall : Stmt := top 89
abbrev sDue : Stmt := top 90
abbrev sRight : Stmt := top 91
abbrev sLaw : Stmt := top 92
end Vk
set_option maxHeartbeats 4000000
/-! values as data: kinds, integers, tuples -/
namespace Vk
open PySem PySem.Spec PyProof.Rows L2
def tyN : PyData → String
  | .none => "NoneType"
  | .bool _ => "bool"
  | .int _ => "int"
  | .str _ => "str"
  | .list _ => "list"
  | .tuple _ => "tuple"
  | .dict _ => "dict"
theorem dp_ty {K : PySem.W.Frag} {H : Hp} {v : V} {d : PyData} (h : Dp K H v d) : TyX K H v (.type (tyN d)) := by
  cases h with
  | non => exact .base .non
  | bl b => exact .base (.bl b)
  | int i => exact .base (.int i)
  | str x => exact .base (.str x)
  | lst q _ =>
    rcases q with (q | ⟨o, q⟩) | ⟨o, its, n, hk, hc, _⟩
    · exact .base (.lst q)
    · exact .base (.frz q)
    · exact .kList hk hc
  | tup q _ =>
    rcases q with (q | ⟨o, q⟩) | ⟨o, its, n, hk, hc, _⟩
    · exact .base (.tup q)
    · exact .fTuple q
    · exact .kTuple hk hc
def isIntD : PyData → Bool
  | .bool _ => true
  | .int _ => true
  | _ => false
def isBoolD : PyData → Bool
  | .bool _ => true
  | _ => false
def isTupD : PyData → Bool
  | .tuple _ => true
  | _ => false
def isStrD : PyData → Bool
  | .str _ => true
  | _ => false
section
variable {K : PySem.W.Frag} {H : Hp} {v : V} {d : PyData}
theorem kit_int (h : Dp K H v d) : PySem.W.kitOne K (.type (tyN d)) (.type "int") = some (isIntD d) := by
  cases h with
  | non => exact kit_ty (show kitB "NoneType" "int" = some false by decide +kernel)
  | bl _ => exact kit_ty (show kitB "bool" "int" = some true by decide +kernel)
  | int _ => exact kit_ty (show kitB "int" "int" = some true by decide +kernel)
  | str _ => exact kit_ty (show kitB "str" "int" = some false by decide +kernel)
  | lst _ _ => exact kit_ty (show kitB "list" "int" = some false by decide +kernel)
  | tup _ _ => exact kit_ty (show kitB "tuple" "int" = some false by decide +kernel)
theorem kit_bool (h : Dp K H v d) : PySem.W.kitOne K (.type (tyN d)) (.type "bool") = some (isBoolD d) := by
  cases h with
  | non => exact kit_ty (show kitB "NoneType" "bool" = some false by decide +kernel)
  | bl _ => exact kit_ty (show kitB "bool" "bool" = some true by decide +kernel)
  | int _ => exact kit_ty (show kitB "int" "bool" = some false by decide +kernel)
  | str _ => exact kit_ty (show kitB "str" "bool" = some false by decide +kernel)
  | lst _ _ => exact kit_ty (show kitB "list" "bool" = some false by decide +kernel)
  | tup _ _ => exact kit_ty (show kitB "tuple" "bool" = some false by decide +kernel)
theorem kit_tup (h : Dp K H v d) : PySem.W.kitOne K (.type (tyN d)) (.type "tuple") = some (isTupD d) := by
  cases h with
  | non => exact kit_ty (show kitB "NoneType" "tuple" = some false by decide +kernel)
  | bl _ => exact kit_ty (show kitB "bool" "tuple" = some false by decide +kernel)
  | int _ => exact kit_ty (show kitB "int" "tuple" = some false by decide +kernel)
  | str _ => exact kit_ty (show kitB "str" "tuple" = some false by decide +kernel)
  | lst _ _ => exact kit_ty (show kitB "list" "tuple" = some false by decide +kernel)
  | tup _ _ => exact kit_ty (show kitB "tuple" "tuple" = some true by decide +kernel)
theorem kit_strT (h : Dp K H v d) : PySem.W.kitOne K (.type (tyN d)) (.type "str") = some (isStrD d) := by
  cases h with
  | non => exact kit_ty (show kitB "NoneType" "str" = some false by decide +kernel)
  | bl _ => exact kit_ty (show kitB "bool" "str" = some false by decide +kernel)
  | int _ => exact kit_ty (show kitB "int" "str" = some false by decide +kernel)
  | str _ => exact kit_ty (show kitB "str" "str" = some true by decide +kernel)
  | lst _ _ => exact kit_ty (show kitB "list" "str" = some false by decide +kernel)
  | tup _ _ => exact kit_ty (show kitB "tuple" "str" = some false by decide +kernel)
theorem dp_tuple {ds : List PyData} (h : Dp K H v (.tuple ds)) : ∃ a xs, v = .ref a ∧ SqT K H a xs ∧ DpAll K H xs ds := by
  cases h with
  | tup q r => exact ⟨_, _, rfl, q, r⟩
theorem dp_int {i : Int} (h : Dp K H v (.int i)) : v = .int i := by
  cases h
  rfl
theorem dp_bool {i : Bool} (h : Dp K H v (.bool i)) : v = .bl i := by
  cases h
  rfl
theorem dp_str {i : Str} (h : Dp K H v (.str i)) : v = .str i := by
  cases h
  rfl
theorem dp_none (h : Dp K H v .none) : v = .non := by
  cases h
  rfl
theorem dps_len : ∀ {vs : List V} {ds : List PyData}, DpAll K H vs ds → vs.length = ds.length
  | _, _, .nil => rfl
  | _, _, .cons _ r => congrArg (· + 1) (dps_len r)
theorem dps_get : ∀ {vs : List V} {ds : List PyData} {i : Nat} {d : PyData}, DpAll K H vs ds → ds[i]? = some d → ∃ v, vs[i]? = some v ∧ Dp K H v d
  | _, _, 0, _, .cons h _, e => by cases e; exact ⟨_, rfl, h⟩
  | _, _, i + 1, _, .cons _ r, e => by
    obtain ⟨v, h1, h2⟩ := dps_get r (i := i) (by simpa using e)
    exact ⟨v, by simpa using h1, h2⟩
theorem dps_getV : ∀ {vs : List V} {ds : List PyData} {i : Nat} {v : V}, DpAll K H vs ds → vs[i]? = some v → ∃ d, ds[i]? = some d ∧ Dp K H v d
  | _, _, 0, _, .cons h _, e => by cases e; exact ⟨_, rfl, h⟩
  | _, _, i + 1, _, .cons _ r, e => by
    obtain ⟨v, h1, h2⟩ := dps_getV r (i := i) (by simpa using e)
    exact ⟨v, by simpa using h1, h2⟩
theorem dps_app : ∀ {vs us : List V} {ds es : List PyData}, DpAll K H vs ds → DpAll K H us es → DpAll K H (vs ++ us) (ds ++ es)
  | _, _, _, _, .nil, h => h
  | _, _, _, _, .cons h r, q => .cons h (dps_app r q)
theorem dps_take : ∀ {vs : List V} {ds : List PyData} (n : Nat), DpAll K H vs ds → DpAll K H (vs.take n) (ds.take n)
  | _, _, 0, _ => .nil
  | _, _, n + 1, .nil => .nil
  | _, _, n + 1, .cons h r => .cons h (dps_take n r)
theorem dps_drop : ∀ {vs : List V} {ds : List PyData} (n : Nat), DpAll K H vs ds → DpAll K H (vs.drop n) (ds.drop n)
  | _, _, 0, h => h
  | _, _, n + 1, .nil => .nil
  | _, _, n + 1, .cons h r => dps_drop n r
/-- flat data -/
def flatD : PyData → Bool
  | .none => true
  | .bool _ => true
  | .int _ => true
  | .str _ => true
  | _ => false
theorem dp_flat (h : Dp K H v d) : flatV v = flatD d := by
  cases h <;> rfl
end
/-- an integer from a least one on -/
def integerD (least : Int) : PyData → Bool
  | .int i => decide (least ≤ i)
  | _ => false
def tupleND (n : Int) : PyData → Bool
  | .tuple ds => decide ((ds.length : Int) = n)
  | _ => false
/-! ### their defs' promises -/
def spInteger (K : PySem.W.Frag) : Sp := fun vs H Q _ => ∃ (v : V) (d : PyData) (least : Int), vs = [v, .int least] ∧ Dp K H v d ∧ Q (.bl (integerD least d)) H
def spTupleOf (K : PySem.W.Frag) : Sp := fun vs H Q _ => ∃ (v : V) (d : PyData) (n : Int), vs = [v, .int n] ∧ Dp K H v d ∧ Q (.bl (tupleND n d)) H
structure Blt (mg : Str → Option Value) : Prop where
  len : mg "len" = none
  isi : mg "isinstance" = none
  int : mg "int" = none
  bool : mg "bool" = none
  tuple : mg "tuple" = none
  str : mg "str" = none
  range : mg "range" = none
  enum : mg "enumerate" = none
  list : mg "list" = none
/-- isinstance(e, T), T a built-in type -/
def tIsi (K : PySem.W.Frag) (T : String) (te : TE) : TE := tCB (rIsi K) (tCons te (tCons (tC (.ty T)) tNil))
theorem isi_go {K : PySem.W.Frag} {T : String} {te : TE} {σ : L2.St} {H H1 : Hp} {v : V} {d : PyData} {b : Bool} {Q : VK} (h : ∀ R : VK, R v H1 → te σ H R) (hd : Dp K H1 v d) (k : PySem.W.kitOne K (.type (tyN d)) (.type T) = some b) (q : Q (.bl b) H1) : tIsi K T te σ H Q :=
  h _ ⟨v, .ty T, _, _, b, rfl, .ty T, dp_ty hd, k, q⟩
end Vk
set_option maxHeartbeats 4000000
namespace Vk
open PySem PySem.Spec PyProof.Rows L2
section
variable {P : Program} {w : World} {K : PySem.W.Frag} {mg : Str → Option Value} {base : Heap}
/-! ### _law_mix -/
def spMix : Sp := fun vs H Q _ => ∃ (n t : Int), vs = [.int n, .int t] ∧ 0 ≤ t ∧ t ≤ 10000000 ∧ ∀ r : Int, 0 ≤ r → r < 2147483648 → Q (.int r) H
theorem scMix : FnScope ["number", "turn", "value"] ["number", "turn"] (defScope sMix) := ⟨rfl, rfl, rfl, by decide +kernel, rfl, by decide +kernel, by decide +kernel⟩
theorem ok_mix (D : Df K mg "_law_mix" sMix ["number", "turn"]) : Cl P w K mg base CX0 1 "_law_mix" ["number", "turn"] spMix := by
  refine cl0 D scMix (fun vs H Q E h => ?_) (fun f cdv A outer s H vs Q E hr h => ?_)
  · obtain ⟨n, t, rfl, _⟩ := h
    rfl
  · obtain ⟨n, t, rfl, h0, h1, k⟩ := h
    refine ⟨_, pss_cons (ps_set (i := 2) scMix.nd rfl (Or.inl rfl) (pe_op op_mod (pe_op op_add (pe_op op_add (pe_op op_add (pe_op op_mod (pv 0) pe_int) (pe_op op_mul (pe_op op_mul pe_int (pv 1)) (pv 1))) (pe_op op_mul pe_int (pv 1))) pe_int) pe_int))
      (pss_cons (ps_set (i := 2) scMix.nd rfl (Or.inl rfl) (pe_op op_mod (pe_op op_mul (pe_op op_mod (pe_op op_mul (pv 2) (pv 2)) pe_int) (pv 2)) pe_int))
      (pss_one (ps_ret (pe_op op_fdiv (pe_op op_mod (pe_op op_add (pe_op op_mul (pv 2) pe_int) (pv 1)) pe_int) pe_int)))), ?_⟩
    refine ⟨_, rfl, _, _, rfl, rfl, (by show (0 : Int) < 2147483629; decide), _, rfl, _, _, rfl, rfl, .inl (by decide), _, rfl, _, _, rfl, rfl, .inr ⟨by omega, by omega⟩, _, _, rfl, rfl, _, rfl, _, _, rfl, rfl, .inl (by decide), _, _, rfl, rfl, _, _, rfl, rfl, _, _, rfl, rfl, (by show (0 : Int) < 2147483629; decide), ?_⟩
    generalize hv : (n % 2147483629 + 7919 * t * t + 104729 * t + 13) % 2147483629 = v
    have v0 : 0 ≤ v := by rw [← hv]; exact Int.emod_nonneg _ (by decide)
    have v1 : v < 2147483629 := by rw [← hv]; exact Int.emod_lt_of_pos _ (by decide)
    refine ⟨_, rfl, _, rfl, _, _, rfl, rfl, .inl ⟨by omega, by omega⟩, _, _, rfl, rfl, (by show (0 : Int) < 2147483587; decide), _, rfl, _, _, rfl, rfl, .inr ⟨by omega, by omega⟩, _, _, rfl, rfl, (by show (0 : Int) < 2147483563; decide), ?_⟩
    generalize hu : v * v % 2147483587 * v % 2147483563 = u
    have u0 : 0 ≤ u := by rw [← hu]; exact Int.emod_nonneg _ (by decide)
    have u1 : u < 2147483563 := by rw [← hu]; exact Int.emod_lt_of_pos _ (by decide)
    refine ⟨_, rfl, _, _, rfl, rfl, .inl ⟨by omega, by omega⟩, _, rfl, _, _, rfl, rfl, _, _, rfl, rfl, (by show (0 : Int) < 2147483399; decide), _, _, rfl, rfl, ⟨by decide, by decide⟩, ?_⟩
    exact k _ (by omega) (by omega)
/-! ### _law_store -/
def spStore (K : PySem.W.Frag) : Sp := fun vs H Q _ => ∃ (a : Addr) (ns : List Int), vs = [.ref a] ∧ SqL K H a (ns.map V.int) ∧ ns.length ≤ 63 ∧ ∀ (p sc : Addr) (H' : Hp), Same H H' → H p = none → Sto sc p 0 H' → Q (.ref p) H'
theorem scStore : FnScope ["script", "mixed", "cell"] ["script"] (defScope sStore) := ⟨rfl, rfl, rfl, by decide +kernel, rfl, by decide +kernel, by decide +kernel⟩
theorem map_int_get {ns : List Int} {i : Nat} {y : V} (h : (ns.map V.int)[i]? = some y) : ∃ z, ns[i]? = some z ∧ y = V.int z := by
  rw [List.getElem?_map] at h
  cases e : ns[i]? with
  | none => rw [e] at h; cases h
  | some z => rw [e] at h; exact ⟨z, rfl, (Option.some.inj h).symm⟩
theorem cut63 {ns : List Int} (h : ns.length ≤ 63) : cutV (ns.map V.int) none (some 63) = ns.map V.int := by
  have e1 : HT.sIx (ns.map V.int).length 0 none = 0 := rfl
  have e2 : HT.sIx (ns.map V.int).length (ns.map V.int).length (some 63) = min 63 (ns.map V.int).length := HT.sIx_nat _ _ 63
  unfold cutV
  rw [e1, e2, List.drop_zero]
  exact List.take_of_length_le (by rw [List.length_map]; omega)
theorem ok_store (D : Df K mg "_law_store" sStore ["script"]) (len : mg "len" = none) : Cl P w K mg base CX0 1 "_law_store" ["script"] (spStore K) := by
  refine cl0 D scStore (fun vs H Q E h => ?_) (fun f cdv A outer s H vs Q E hr h => ?_)
  · obtain ⟨a, ns, rfl, _⟩ := h
    rfl
  · obtain ⟨a, ns, rfl, hS, hl, k⟩ := h
    refine ⟨_, pss_cons (ps_set (i := 1) scStore.nd rfl (Or.inl rfl) (pe_callB call_len_seq (by rfl) len PySem.boot_len (pa_cons (pv 0) pa_nil)))
      (pss_cons (ps_for PassesOwn.never rfl (pi_list (pe_slice sl_list (pv 0) po_none (po_some pe_int))) (pg_name (i := 2) scStore.nd rfl (Or.inl rfl))
        (pss_one (ps_set (i := 1) scStore.nd rfl (Or.inl rfl) (pe_op op_mod (pe_op op_add (pe_op op_add (pe_op op_mul (pv 1) pe_int) (pe_op op_mod (pv 2) pe_int)) pe_int) pe_int))))
      (pss_one (ps_ret (pe_lst (pa_cons (pe_slice sl_list (pv 0) po_none (po_some pe_int)) (pa_cons pe_int (pa_cons pe_int (pa_cons (pv 1) (pa_cons pe_int pa_nil))))))))), ?_⟩
    refine ⟨_, rfl, a, _, rfl, .inl hS, ?_⟩
    refine ⟨_, rfl, _, rfl, a, _, rfl, hS, fun p hp => ⟨p, rfl, ⟨_, SqL.of upd_same⟩, ?_⟩⟩
    rw [cut63 hl]
    refine for_list (K := K) (a := p) (xs := ns.map V.int) (fun i σ H' => ∃ (m : Int) (v : Option V), σ = [some (.ref a), some (.int m), v] ∧ 0 ≤ m ∧ m < 2147483648 ∧ H' = upd H p (.lst (ns.map V.int)))
      ⟨_, none, rfl, Int.natCast_nonneg _, by rw [List.length_map]; omega, rfl⟩ (fun i σ H' _ ⟨m, v, _, _, _, e⟩ => by rw [e]; exact SqL.of upd_same) ?_ ?_
    · rintro i y σ H' hi ⟨m, v, rfl, m0, m1, rfl⟩
      obtain ⟨z, _, rfl⟩ := map_int_get hi
      refine ⟨_, rfl, _, _, rfl, rfl, .inl ⟨by omega, by omega⟩, _, rfl, _, _, rfl, rfl, (by show (0 : Int) < 1000000007; decide), _, _, rfl, rfl, _, _, rfl, rfl, _, _, rfl, rfl, (by show (0 : Int) < 2147483629; decide), ?_⟩
      refine ⟨_, _, rfl, Int.emod_nonneg _ (by decide), ?_, rfl⟩
      have q := Int.emod_lt_of_pos (m * 16807 + z % 1000000007 + 11) (show (0 : Int) < 2147483629 by decide)
      omega
    · rintro σ H' ⟨m, v, rfl, m0, m1, rfl⟩
      have s1 : Same H (upd H p (.lst (ns.map V.int))) := same_new hp
      refine ⟨_, rfl, _, rfl, a, _, rfl, s1.seq hS, fun q hq => ?_⟩
      rw [cut63 hl]
      have s2 : Same H (upd (upd H p (.lst (ns.map V.int))) q (.lst (ns.map V.int))) := s1.trans (same_new hq)
      refine ⟨_, rfl, (by show 5 ≤ sizeLine; decide), fun r hr' => ?_⟩
      have nq : q ≠ r := ne_of_none upd_same hr'
      refine k r q _ (s2.trans (same_new hr')) ((s2.trans (Same.refl _)).free hr') ?_
      exact Sto.put nq upd_same hl (by decide) (by decide) (by decide) (by decide)
end
end Vk
set_option maxHeartbeats 4000000
namespace Vk
open PySem PySem.Spec PyProof.Rows L2
section
variable {P : Program} {w : World} {K : PySem.W.Frag} {mg : Str → Option Value} {base : Heap}
def spPick : Sp := fun vs H Q _ => ∃ (a sc : Addr) (m n : Int), vs = [.ref a, .int m] ∧ 0 < m ∧ m < 1000000000 ∧ Sto sc a n H ∧ n ≤ 1000000 ∧
  ∀ (r : Int) (H' : Hp), 0 ≤ r → r < m → Sto sc a (n + 1) H' → Kept a H H' → Q (.int r) H'
theorem scPick : FnScope ["store", "count", "cell", "digit"] ["store", "count"] (defScope sPick) := ⟨rfl, rfl, rfl, by decide +kernel, rfl, by decide +kernel, by decide +kernel⟩
theorem ok_pick (D : Df K mg "_law_pick" sPick ["store", "count"]) (M : Cl P w K mg base CX0 1 "_law_mix" ["number", "turn"] spMix) (len : mg "len" = none) : Cl P w K mg base CX0 2 "_law_pick" ["store", "count"] spPick := by
  refine cl0 D scPick (fun vs H Q E h => ?_) (fun f cdv A outer s H vs Q E hr h => ?_)
  · obtain ⟨a, sc, m, n, rfl, _⟩ := h
    rfl
  · obtain ⟨a, sc, m, n, rfl, m0, m1, S, n1, k⟩ := h
    refine ⟨_, pss_cons (ps_asg (pe_op op_add (pe_ix ix_list (pv 0) pe_int (fun _ _ => rfl)) pe_int) (pg_sub (pv 0) pe_int set_list))
      (pss_cons (ps_if (PW.pt (pw_and (pt_cmpR op_eq (pe_ix ix_list (pv 0) pe_int (fun _ _ => rfl)) pe_int (nomark _)) (pw_and1 (pt_cmpR op_lt (pe_ix ix_list (pv 0) pe_int (fun _ _ => rfl)) (pe_callB call_len_seq (by rfl) len PySem.boot_len (pa_cons (pe_ix ix_list (pv 0) pe_int (fun _ _ => rfl)) pa_nil)) (nomark _)))))
        (pss_cons (ps_set (i := 2) scPick.nd rfl (Or.inl rfl) (pe_ix ix_list (pe_ix ix_list (pv 0) pe_int (fun _ _ => rfl)) (pe_ix ix_list (pv 0) pe_int (fun _ _ => rfl)) (fun _ _ => rfl)))
        (pss_cons (ps_asg (pe_op op_add (pe_ix ix_list (pv 0) pe_int (fun _ _ => rfl)) pe_int) (pg_sub (pv 0) pe_int set_list))
        (pss_cons (ps_if (pt_cmpR op_lt (pv 2) (pe_op op_pow pe_int pe_int) (nomark _))
          (pss_one (ps_ret (pe_op op_mod (pc M hr (by decide) (pa_cons (pv 2) (pa_cons (pe_ix ix_list (pv 0) pe_int (fun _ _ => rfl)) pa_nil))) (pv 1)))) pss_nil)
        (pss_one (ps_asg (pv 2) (pg_sub (pv 0) pe_int set_list)))))) pss_nil)
      (pss_cons (ps_if (pt_cmpR op_gt (pe_ix ix_list (pv 0) pe_int (fun _ _ => rfl)) pe_int (nomark _))
        (pss_cons (ps_set (i := 3) scPick.nd rfl (Or.inl rfl) (pe_op op_mod (pe_ix ix_list (pv 0) pe_int (fun _ _ => rfl)) (pv 1)))
        (pss_cons (ps_asg (pe_op op_fdiv (pe_ix ix_list (pv 0) pe_int (fun _ _ => rfl)) (pv 1)) (pg_sub (pv 0) pe_int set_list))
        (pss_one (ps_ret (pv 3))))) pss_nil)
      (pss_one (ps_ret (pe_op op_mod (pc M hr (by decide) (pa_cons (pe_ix ix_list (pv 0) pe_int (fun _ _ => rfl)) (pa_cons (pe_ix ix_list (pv 0) pe_int (fun _ _ => rfl)) pa_nil))) (pv 1)))))), ?_⟩
    obtain ⟨cs, i, dg, mx, c, hH, ns, hq, hl, i0, d0, c0, cn⟩ := S.ex
    have fill : ∀ (G : Hp) (i' dg' c' : Int), Off a G = Off a H → 0 ≤ i' → 0 ≤ dg' → 0 ≤ c' → c' ≤ n + 1 → G a = some (.lst [.ref sc, .int i', .int dg', .int mx, .int c']) → Sto sc a (n + 1) G ∧ Kept a H G := fun G i' dg' c' e h1 h2 h3 h4 h5 =>
      ⟨⟨cs, i', dg', mx, c', h5, ns, (off_sub a G).at (by rw [e, off_ne ns]; exact hq), hl, h1, h2, h3, h4⟩, by unfold Kept; rw [e]; exact Same.refl _⟩
    -- store[4] = store[4] + 1
    refine ⟨_, rfl, a, _, _, _, rfl, rfl, SqL.of hH, rfl, _, _, rfl, rfl, _, rfl, a, _, _, _, rfl, rfl, hH, rfl, ?_⟩
    -- the mix at the end
    have fin : ∀ (G : Hp) (i' dg' x r : Int), Off a G = Off a H → 0 ≤ i' → 0 ≤ dg' → G a = some (.lst [.ref sc, .int i', .int dg', .int mx, .int (c + 1)]) → Q (.int (r % m)) G := fun G i' dg' x r e h1 h2 h3 => by
      obtain ⟨s1, s2⟩ := fill G i' dg' (c + 1) e h1 h2 (by omega) (by omega) h3
      exact k _ G (Int.emod_nonneg _ (by omega)) (Int.emod_lt_of_pos _ m0) s1 s2
    have fin2 : ∀ (G : Hp) (i' dg' r : Int), Off a G = Off a H → 0 ≤ i' → 0 ≤ dg' → 0 ≤ r → r < m → G a = some (.lst [.ref sc, .int i', .int dg', .int mx, .int (c + 1)]) → Q (.int r) G := fun G i' dg' r e h1 h2 q1 q2 h3 => by
      obtain ⟨s1, s2⟩ := fill G i' dg' (c + 1) e h1 h2 (by omega) (by omega) h3
      exact k _ G q1 q2 s1 s2
    have hqG : ∀ G : Hp, Off a G = Off a H → SqL K G sc (cs.map V.int) := fun G e => SqL.of ((off_sub a G).at (by rw [e, off_ne ns]; exact hq))
    have oG : ∀ o, Off a (upd H a o) = Off a H := fun o => off_upd
    have oG2 : ∀ o u, Off a (upd (upd H a o) a u) = Off a H := fun o u => by rw [off_upd, off_upd]
    have oG3 : ∀ o u v, Off a (upd (upd (upd H a o) a u) a v) = Off a H := fun o u v => by rw [off_upd, off_upd, off_upd]
    refine ⟨_, rfl, a, _, _, _, rfl, rfl, SqL.of upd_same, rfl, rfl, _, rfl, ?_⟩
    refine ite2 (fun hd => ?_) (fun hd => ?_)
    · have hd0 : dg = 0 := by
        have z := of_decide_eq_true hd
        exact V.int.inj z
      subst hd0
      refine ⟨_, rfl, a, _, _, _, rfl, rfl, SqL.of upd_same, rfl, _, rfl, a, _, _, _, rfl, rfl, SqL.of upd_same, rfl, sc, _, rfl, .inl (hqG _ (oG _)), _, _, rfl, rfl, _, rfl, ?_⟩
      refine ite2 (fun hi => ?_) (fun hi => ?_)
      · have hi0 : i < (cs.map V.int).length := of_decide_eq_true hi
        have hj : i.toNat < cs.length := by rw [List.length_map] at hi0; omega
        have hc : (cs.map V.int)[i.toNat]? = some (V.int cs[i.toNat]) := by rw [List.getElem?_map, List.getElem?_eq_getElem hj]; rfl
        have ha : atI (cs.map V.int) i = some (V.int cs[i.toNat]) := by
          have z := atI_nat hc
          rw [Int.toNat_of_nonneg i0] at z
          exact z
        -- cell = store[0][store[1]]; store[1] = store[1] + 1
        refine ⟨_, rfl, a, _, _, _, rfl, rfl, SqL.of upd_same, rfl, _, rfl, a, _, _, _, rfl, rfl, SqL.of upd_same, rfl, sc, _, _, _, rfl, rfl, hqG _ (oG _), ha, ?_⟩
        refine ⟨_, rfl, a, _, _, _, rfl, rfl, SqL.of upd_same, rfl, _, _, rfl, rfl, _, rfl, a, _, _, _, rfl, rfl, upd_same, rfl, ?_⟩
        -- if cell < 10 ** 18
        refine ⟨_, rfl, _, _, rfl, rfl, ⟨by decide, by decide, by decide⟩, _, _, rfl, rfl, _, rfl, ?_⟩
        refine ite2 (fun hx => ?_) (fun hx => ?_)
        · refine ⟨_, rfl, _, rfl, a, _, _, _, rfl, rfl, SqL.of upd_same, rfl, _, _, rfl, by omega, by omega, fun r r0 r1 => ?_⟩
          exact ⟨_, rfl, _, _, rfl, rfl, m0, fin _ (i + 1) 0 0 r (oG2 _ _) (by omega) (by decide) upd_same⟩
        · have hx0 : ¬ cs[i.toNat] < 10 ^ 18 := fun z => hx (decide_eq_true z)
          -- store[2] = cell
          refine ⟨_, rfl, _, rfl, a, _, _, _, rfl, rfl, upd_same, rfl, ?_⟩
          refine ⟨_, rfl, a, _, _, _, rfl, rfl, SqL.of upd_same, rfl, _, _, rfl, rfl, _, rfl, ?_⟩
          refine ite2 (fun _ => ?_) (fun z => absurd (decide_eq_true (show (0 : Int) < cs[i.toNat] by omega)) z)
          refine ⟨_, rfl, a, _, _, _, rfl, rfl, SqL.of upd_same, rfl, _, rfl, _, _, rfl, rfl, m0, ?_⟩
          refine ⟨_, rfl, a, _, _, _, rfl, rfl, SqL.of upd_same, rfl, _, rfl, _, _, rfl, rfl, ⟨m0, by omega⟩, _, rfl, a, _, _, _, rfl, rfl, upd_same, rfl, ?_⟩
          refine ⟨_, rfl, ?_⟩
          exact fin2 _ (i + 1) (cs[i.toNat] / m) _ (by rw [off_upd, off_upd, off_upd, off_upd]) (by omega) (Int.ediv_nonneg (by omega) (by omega)) (Int.emod_nonneg _ (by omega)) (Int.emod_lt_of_pos _ m0) upd_same
      · refine ⟨_, rfl, a, _, _, _, rfl, rfl, SqL.of upd_same, rfl, _, _, rfl, rfl, _, rfl, ?_⟩
        refine ite2 (fun z => absurd (of_decide_eq_true z) (by decide)) (fun _ => ?_)
        refine ⟨_, rfl, a, _, _, _, rfl, rfl, SqL.of upd_same, rfl, _, rfl, a, _, _, _, rfl, rfl, SqL.of upd_same, rfl, _, _, rfl, by omega, by omega, fun r r0 r1 => ?_⟩
        exact ⟨_, rfl, _, _, rfl, rfl, m0, fin _ i 0 0 r (oG _) i0 (by decide) upd_same⟩
    · have hd0 : ¬ dg = 0 := fun z => hd (decide_eq_true (by rw [z]))
      refine iteF ?_
      refine ⟨_, rfl, a, _, _, _, rfl, rfl, SqL.of upd_same, rfl, _, _, rfl, rfl, _, rfl, ?_⟩
      refine ite2 (fun _ => ?_) (fun z => absurd (decide_eq_true (show (0 : Int) < dg by omega)) z)
      refine ⟨_, rfl, a, _, _, _, rfl, rfl, SqL.of upd_same, rfl, _, rfl, _, _, rfl, rfl, m0, ?_⟩
      refine ⟨_, rfl, a, _, _, _, rfl, rfl, SqL.of upd_same, rfl, _, rfl, _, _, rfl, rfl, ⟨m0, by omega⟩, _, rfl, a, _, _, _, rfl, rfl, upd_same, rfl, ?_⟩
      refine ⟨_, rfl, ?_⟩
      exact fin2 _ i (dg / m) _ (by rw [off_upd, off_upd]) i0 (Int.ediv_nonneg (by omega) (by omega)) (Int.emod_nonneg _ (by omega)) (Int.emod_lt_of_pos _ m0) upd_same
end
end Vk
set_option maxHeartbeats 4000000
/-! enumerate over a tuple: the pairs are new tuples -/
namespace PySem
set_option maxHeartbeats 4000000 in
theorem vx_enumNew {v : Value} {cell : Obj} {Hh : Heap → Prop} (B : Begins v cell Hh) :
    Meets (Builtin.«enumerate.__new__» ⟨[.type "enumerate", v], []⟩) (fun _ R s => Hh s.heap ∧
      R (.ok (.ret (.ref (s.heap.push cell).objs.size)))
        { s with heap := (s.heap.push cell).push { cls := .type "enumerate", data := .fields #[.none, .bool false, .ref s.heap.objs.size, rawInt 0, .none, .none] } }) :=
  .of_wp fun prog w A R s h => by
    obtain ⟨hp, gs, dr, tk, os⟩ := s
    obtain ⟨hbeg, h⟩ := h
    have subE := sub_enumerate
    have itOf : ∀ {A2 : Around} {E2 : Value → Shared → Prop} {Q2 : Value → Shared → Prop}, Q2 (.ref hp.objs.size) ⟨hp.push cell, gs, dr, tk, os⟩ → wpAny (model prog w) A2 (pyIter v) Q2 E2 ⟨hp, gs, dr, tk, os⟩ :=
      fun q => B.iter prog w _ _ ⟨hp, gs, dr, tk, os⟩ _ hbeg q
    wp_walk using itOf
    refine wpAny_stack_any fun st => wpAny_pure ?_
    split
    · rename_i cc _ _ _ _ _
      cases (cc == Value.type "enumerate") <;> (wp_walk using itOf; exact ⟨_, rfl, h⟩)
    · wp_walk using itOf
      exact ⟨_, rfl, h⟩
section
variable {prog : Program} {w : World} {A : Around} {E : Value → Shared → Prop} {s : Shared}
theorem vx_callEnum {v : Value} {cell : Obj} {Hh : Heap → Prop} {Q : Value → Shared → Prop} (B : Begins v cell Hh) (hbeg : Hh s.heap)
    (h : ∀ h', IsEnum h' (s.heap.objs.size + 1) s.heap.objs.size 0 .none → h'.get? s.heap.objs.size = some cell → (∀ b o, s.heap.get? b = some o → h'.get? b = some o) →
      Q (.ref (s.heap.objs.size + 1)) { s with heap := h' }) :
    wpAny (model prog w) A (call (.type "enumerate") [v]) Q E s := by
  refine callType_new F.called_enumerate (by decide) (F.typeCall_enumerate_1 _) (F.newCall_enumerate_1 _) (fun obj => F.args_object_init_2 obj _) F.entry_enumerate_new
    (vx_enumNew B) ⟨hbeg, ?_⟩
  have sz : (s.heap.push cell).objs.size = s.heap.objs.size + 1 := Heap.size_push ..
  show _ ∧ _
  rw [sz]
  have en : IsEnum ((s.heap.push cell).push { cls := .type "enumerate", data := .fields #[.none, .bool false, .ref s.heap.objs.size, rawInt 0, .none, .none] }) (s.heap.objs.size + 1) s.heap.objs.size 0 .none := by
    have got := Heap.get?_push_size (s.heap.push cell) (o := { cls := .type "enumerate", data := .fields #[.none, .bool false, .ref s.heap.objs.size, rawInt 0, .none, .none] }) rfl
    rw [sz] at got
    exact got
  exact ⟨⟨_, en, rfl⟩, h _ en (Heap.get?_push_of_some _ (Heap.get?_push_size _ B.free)) fun b o x => Heap.get?_push_of_some _ (Heap.get?_push_of_some _ x)⟩
end
end PySem
namespace L2
open PySem PySem.Spec PyProof.Rows
/-- what enumerate gives over the tuple at a: its items in new pairs -/
def IteT (K : PySem.W.Frag) (a : Addr) : It :=
  ⟨fun i H => ∃ (ys : List V) (y : V), SqT K H a ys ∧ ys[i]? = some y, fun i H v H' => ∃ T y, v = .ref T ∧ H T = none ∧ H' = upd H T (.tup [.int (i : Nat), y]) ∧ ∀ ys, SqT K H a ys → ys[i]? = some y,
    fun i H => ∃ ys : List V, SqT K H a ys ∧ ys.length = i⟩
theorem vx_turn {P : Program} {w : World} {K : PySem.W.Frag} {elts : List Expr} {kk : Nat} {tpos : Pos} (a e it : Addr) :
    Turn P w K (.Tuple elts kk tpos) (IteT K a) [e, it] e (fun i h => (∃ old, IsEnum h e it ((i : Nat) : Int) old) ∧ h.IsTupleIter it a i ∧ e ≠ it ∧ a ≠ it ∧ e ≠ a) where
  mem := List.mem_cons_self
  obj := fun i h st b hb => by
    obtain ⟨⟨old, en⟩, ⟨o, ho, hc, hd⟩, _⟩ := st
    have two : b = e ∨ b = it := by simpa using hb
    rcases two with z | z
    · subst z
      exact ⟨_, en, fun v q => nomatch q⟩
    · subst z
      exact ⟨o, ho, fun v q => by rw [hd] at q; cases q⟩
  keep := fun i h h' st k => by
    obtain ⟨⟨old, en⟩, hi, r⟩ := st
    exact ⟨⟨old, k e (by simp) _ en⟩, hi.at fun o q => k it (by simp) o q, r⟩
  item := by
    intro X hP hw hK hc i pins s σ H E I hf st hg
    subst hP hw hK
    obtain ⟨⟨old, en⟩, hit, nei, nai, nea⟩ := st
    obtain ⟨ys, y, hq, hy⟩ := hg
    obtain ⟨its, rv, p, _⟩ := I.tuple hq
    obtain ⟨u, hu, ru⟩ := rv.get hy
    have le : e < s.heap.objs.size := Heap.lt_size en
    have li : it < s.heap.objs.size := by obtain ⟨_, q, _⟩ := hit; exact Heap.lt_size q
    have hin : X.A.in1.handled = none := I.ok.hd hc
    have ilt : i < its.toArray.size := by
      have z := (List.getElem?_eq_some_iff.mp hu).1
      rw [List.size_toArray]
      exact z
    refine wpAny_pyNext_enum_itemD (Draws.tuple hin it a nai its.toArray) en ⟨hit, p⟩ ilt nei (by simp [nei, nea]) fun x h2 tk hx eo st2 hT hsz hk => ?_
    have ex : x = u := by
      have z : its.toArray[i]? = some x := hx
      rw [List.getElem?_toArray, hu] at z
      exact (Option.some.inj z).symm
    subst ex
    refine ⟨_, rfl, wpAny_letOwnedTupleGo_enum (s := { s with heap := h2, toks := tk + 1 }) eo fun h3 he3 sb => ?_⟩
    have hT3 : h3.get? s.heap.objs.size = some { cls := .type "tuple", data := .seq #[.int i tk, x] } := (sb.2 _ (Nat.ne_of_gt le)).trans hT
    have new : ObjOk X.prog X.w (upd H s.heap.objs.size (.tup [.int (i : Nat), y])) h3 s.heap.objs.size (.tup [.int (i : Nat), y]) :=
      ⟨(by show 2 ≤ sizeLine; decide), [.int i tk, x], .cons ⟨_, rfl⟩ (.cons ru .nil), ⟨_, hT3, rfl, _, rfl⟩⟩
    have J : Inv X pins σ (upd H s.heap.objs.size (.tup [.int (i : Nat), y])) { s with heap := h3, toks := tk + 1 } :=
      I.turnedNew (ch := [e, it]) (fun b ob hb q => by
        have n1 : b ≠ e := fun z => hb (by simp [z])
        have n2 : b ≠ it := fun z => hb (by simp [z])
        exact (sb.2 b n1).trans (hk b ob n1 n2 q)) hf (Nat.le_refl _) new
    refine ⟨.ref s.heap.objs.size, _, J, rfl, ⟨_, y, rfl, I.hok.fresh (Nat.le_refl _), rfl, fun zs hz => by rw [I.tuple_inj hz hq]; exact hy⟩, ⟨⟨x, ?_⟩, st2.1.at fun o q => (sb.2 it (Ne.symm nei)).trans q, nei, nai, nea⟩, fun b hb => ?_⟩
    · have en2 : ((i + 1 : Nat) : Int) = (i : Int) + 1 := by omega
      rw [en2]
      exact he3
    · have lb : b < s.heap.objs.size := by
        have two : b = e ∨ b = it := by simpa using hb
        rcases two with z | z
        · rw [z]; exact le
        · rw [z]; exact li
      rw [upd_ne (Nat.ne_of_lt lb)]
      exact (hf b hb).1
  done := by
    intro X hP hw hK hc i pins s σ H E I hf st hg
    subst hP hw hK
    obtain ⟨⟨old, en⟩, hit, nei, nai, nea⟩ := st
    obtain ⟨ys, hq, hy⟩ := hg
    obtain ⟨its, rv, p, _⟩ := I.tuple hq
    obtain ⟨f0, f1, f2, f3, f4, f5⟩ := hf it (by simp)
    have hl := rv.length
    have hi : i = its.toArray.size := by rw [List.size_toArray]; omega
    subst hi
    have hin : X.A.in1.handled = none := I.ok.hd hc
    exact wpAny_pyNext_enum_endD (Draws.tuple hin it a nai its.toArray) en ⟨hit, p⟩ fun h2 eb => ⟨rfl, I.turned (t' := s.toks) (fun b o hb q => eb b o hb q) f0 f1 f3 f4 f5⟩
  self := fun A i s Q E st h => by
    obtain ⟨⟨_, en⟩, _⟩ := st
    exact wpAny_pyIter_enum en h
def iEnumT (K : PySem.W.Frag) (ta : TA) : TI := fun σ H R => ta σ H fun vs H1 => ∃ a ys, vs = [.ref a] ∧ SqT K H1 a ys ∧ R (IteT K a) H1
theorem pi_enumT {X : Cx} {e : Expr} {ta : TA} {p pos tpos : Pos} {elts : List Expr} {kk : Nat} (hm : X.mg "enumerate" = none) (ha : PA X [e] ta) (hg : Gl X "enumerate" := by rfl) (hs : starEach [e] X.env = [(false, eval e X.env)] := by rfl) :
    PI X (.Tuple elts kk tpos) (.Call (.Name "enumerate" p) [e] [] pos) (iEnumT X.K ta) := by
  refine ⟨fun pins s σ H R I h => ?_⟩
  refine Call_ (ld_blt I hg hm boot_enumerate (PyProof.Rows.callWith_type1 (thn (ha.run pos pins s σ H _ I h) fun us s1 ⟨vs, H1, I1, r1, q1⟩ => ?_) hs rfl))
  obtain ⟨a, ys, ex, hq, q⟩ := q1
  subst ex
  cases r1 with
  | cons r rr =>
    cases rr
    cases r
    obtain ⟨its, rv, p2, _⟩ := I1.tuple hq
    have la : a < s1.heap.objs.size := by obtain ⟨_, z, _⟩ := p2; exact Heap.lt_size z
    refine vx_callEnum (begins_tuple a its.toArray) p2 fun h2 he hit hk => wpAny_pyIter_enum he ?_
    have I2 : Inv X pins σ H1 { s1 with heap := h2 } := I1.kept (t' := s1.toks) hk
    refine ⟨s1.heap.objs.size + 1, [s1.heap.objs.size + 1, s1.heap.objs.size], _, _, H1, rfl, I2, vx_turn a (s1.heap.objs.size + 1) s1.heap.objs.size,
      ⟨⟨.none, he⟩, ⟨_, hit, rfl, rfl⟩, Nat.succ_ne_self _, Nat.ne_of_lt la, Nat.ne_of_gt (Nat.lt_succ_of_lt la)⟩, fun b hb => ?_, q⟩
    have two : b = s1.heap.objs.size + 1 ∨ b = s1.heap.objs.size := by simpa using hb
    have hle : s1.heap.objs.size ≤ b := by
      rcases two with z | z
      · rw [z]; exact Nat.le_succ _
      · rw [z]; exact Nat.le_refl _
    exact I1.fpOk hle (I1.hok.fresh hle)
/-- turn by turn, the tuple standing still -/
theorem walk_enumT {K : PySem.W.Frag} {a : Addr} {xs : List V} : Walk (IteT K a) xs.length (fun H => SqT K H a xs) (YPair (fun i => some (.int (i : Nat))) (fun i => xs[i]?)) := by
  refine ⟨fun i _ hi q => ⟨xs, xs[i], q, by simp [hi]⟩, fun _ q => ⟨xs, q, rfl⟩, fun i H v H' _ q y => ?_⟩
  obtain ⟨T, x, h1, h2, h3, h4⟩ := y
  exact ⟨T, .int (i : Nat), x, h1, h2, h3, rfl, h4 xs q⟩
end L2
set_option maxHeartbeats 4000000
/-! an exception that its except suite gives to another name: it is tracked from there on -/
namespace Vk
open PySem PySem.Spec PyProof.Rows L2
/-- at a: an exception of the class cls, its dict d -/
def Xco (a : Addr) (cls : Value) (d : Option Addr) : HO := .ext fun h => ∃ (oe : Obj) (vs : Array Value), h.get? a = some oe ∧ Zc cls d oe ∧ oe.data = .fields vs
theorem xco_ok {P : Program} {w : World} {H : Hp} {h : Heap} {a : Addr} {cls : Value} {d : Option Addr} {oe : Obj} {vs : Array Value} (e : h.get? a = some oe) (z : Zc cls d oe) (f : oe.data = .fields vs) : ObjOk P w H h a (Xco a cls d) :=
  ⟨⟨oe, vs, e, z, f⟩, ⟨oe, e⟩, fun _ _ ⟨o, v, q, r⟩ k => ⟨o, v, k o q, r⟩⟩
theorem xco_at {P : Program} {w : World} {H : Hp} {h : Heap} {a : Addr} {cls : Value} {d : Option Addr} (hok : HOk P w H h) (e : H a = some (Xco a cls d)) : ∃ (oe : Obj) (vs : Array Value), h.get? a = some oe ∧ Zc cls d oe ∧ oe.data = .fields vs := by
  have x : ObjOk P w H h a (.ext fun h => ∃ (oe : Obj) (vs : Array Value), h.get? a = some oe ∧ Zc cls d oe ∧ oe.data = .fields vs) := hok a _ e
  exact x.1
section
variable {X : Cx} {pins : List (Addr × Obj)} {σ : L2.St} {H : Hp} {s : Shared}
theorem inv_track {a : Addr} {o : HO} (I : Inv X pins σ H s) (hn : H a = none) (n0 : ∀ ob, X.s_0.heap.get? a = some ob → False) (nL : a ≠ X.env.locals) (nC : ∀ x c, X.env.cells.lookup x = some c → c ≠ a) (nP : ∀ p ∈ X.pn ++ pins, p.1 ≠ a)
    (new : ObjOk X.prog X.w (upd H a o) s.heap a o) : Inv X pins σ (upd H a o) s := by
  have ne : ∀ {b : Addr} {u : HO}, H b = some u → b ≠ a := fun q => ne_of_none q hn
  have b1 : Un X.fs X.ex X.H_0 (upd H a o) X.s_0.heap s.heap := {
      keep := I.base.keep
      slot := I.base.slot
      free := fun b u q n x => by
        have nb : b ≠ a := fun z => by
          rw [z] at q
          exact n0 u q
        rw [upd_ne nb]
        exact I.base.free b u q n x
      there := I.base.there
      tups := fun b xs q => by
        have z := I.base.tups b xs q
        rw [upd_ne (ne z)]
        exact z
      frzs := fun b u xs q => by
        have z := I.base.frzs b u xs q
        rw [upd_ne (ne z)]
        exact z
      tbls := fun b ps q => by
        obtain ⟨m, z⟩ := I.base.tbls b ps q
        exact ⟨m, by rw [upd_ne (ne z)]; exact z⟩ }
  refine ⟨I.ok, I.os, I.bare, b1, I.loc, I.cell, ?_, ?_, ?_, ?_, I.len⟩
  · rw [upd_ne nL.symm]
    exact I.free
  · intro x c q
    rw [upd_ne (nC x c q)]
    exact I.freeC x c q
  · intro p hp
    obtain ⟨h1, h2, h3⟩ := I.pin p hp
    exact ⟨h1, by rw [upd_ne (nP p hp)]; exact h2, h3⟩
  · intro b u q
    by_cases hb : b = a
    · subst hb
      rw [upd_same] at q
      cases q
      exact new
    · rw [upd_ne hb] at q
      refine (I.hok b u q).stay (fun c v _ z => z) (fun c z => ?_) (fun c xs z => ?_)
      · rw [upd_ne (ne z)]
        exact z
      · rw [upd_ne (ne z)]
        exact z
end
/-- what «except C as n: suite» wishes where the suite keeps the exception -/
def wKeep (K : PySem.W.Frag) (c : Value) (i : Nat) (ts : Addr → Value → Option Addr → TS) (D : Ends) : WX := fun cls d σ H =>
  PySem.W.exmOne K cls c = some true ∧ ∀ a, H a = none → ts a cls d { nx := fun σ' H' => H' a = none → D.nx (σ'.set i none) (upd H' a (Xco a cls d)), rt := fun _ _ => False } (σ.set i (some (.ref a))) H
section
variable {X : Cx} {x n : Str} {c : Value} {i : Nat} {body more : List Stmt} {b₀ : Stmt} {np pos pos' : Pos} {tb : WX → TS} {ts : Addr → Value → Option Addr → TS}
theorem ps_try_keep (hs : X.stack = X.env :: X.outer) (hf : X.env.frame = some X.env.locals) (hex : X.ex = []) (hN : X.N.Nodup) (hi : X.N[i]? = some n) (hln : X.env.kindOf n = some .local) (hg : Gl X x) (hm : X.mg x = some c)
    (hdb : (x == ("__debug__" : Str)) = false)
    (hb : ∀ (W : WX) (pn : List (Addr × Obj)) (xe : Value → Shared → Prop), Takes (X.tr pn xe) W → PassesOwn (model X.prog X.w) X.A X.env xe → PSs (X.tr pn xe) body (tb W))
    (hsu : ∀ (a : Addr) (oe : Obj) (cls : Value) (d : Option Addr) (pn : List (Addr × Obj)), Zc cls d oe → (∃ vs, oe.data = .fields vs) → PSs (X.suite a ((a, oe) :: pn)) (b₀ :: more) (ts a cls d)) :
    PS X (.Try body [.ExceptHandler (some (.Name x np)) (some n) (b₀ :: more) pos'] [] [] pos) (fun D σ H => tb (wKeep X.K c i ts D) D σ H) := by
  refine ⟨fun pins s σ H D I h => ?_⟩
  have ok := I.ok
  have frames : X.A.frames = some (X.env :: X.outer) := by rw [ok.frames, hs]
  refine wpAny_Try_except (wpAny_mono ((hb (wKeep X.K c i ts D) (X.pn ++ pins) _ (fun u s2 air => ?_) PassesOwn.looking).run [] s σ H D (I.toTry _) h) (fun f s2 sp => ?_) (fun _ _ z => z))
  · obtain ⟨a, B, sI, pins2, σ2, H2, cls, d, rfl, J2, ground, up, sky, na, os, ag, match1, suite⟩ := air
    have J : Inv X pins σ2 H2 sI := J2.ofTry ok
    have air2 : Sky B (X.env :: X.outer) a (Zc cls d) X.env.locals s2.heap := by rw [← hs]; exact sky
    -- a stands in no frame, and is new
    refine Sky.land Zc.steady frames hf air2 fun h3 fly3 up3 => ?_
    have K3 : Inv X pins σ2 H2 { s2 with heap := h3 } := J.landed ground fly3.1 (up.trans up3) os ag
    obtain ⟨o3, v3, get3, z3, dat3⟩ := fly3.there
    have outFr : a ∉ frs (X.env :: X.outer) := fun hm2 => by
      obtain ⟨_, o4, get4, nf⟩ := fly3.2.2.1.mem hm2
      rw [get3] at get4
      cases get4
      exact nf _ dat3
    have noL : a ≠ X.env.locals := fun z => outFr (List.mem_filterMap.mpr ⟨X.env, List.mem_cons_self, by rw [hf, z]⟩)
    have noF : a ∉ X.fs := fun hm2 => by
      obtain ⟨e, he, q⟩ := List.mem_filterMap.mp hm2
      exact outFr (List.mem_filterMap.mpr ⟨e, List.mem_cons_of_mem _ he, q⟩)
    have outI : ∀ ob, sI.heap.get? a = some ob → False := fun ob q => by
      have z := ground a ob q (by rw [show (X.tr (X.pn ++ pins) _).stack = X.stack from rfl, hs]; exact outFr)
      rw [fly3.2.1] at z
      cases z
    have out0 : ∀ ob, X.s_0.heap.get? a = some ob → False := fun ob q => by
      obtain ⟨o5, z⟩ := J.base.there a ob q (by rw [hex]; exact fun y => nomatch y)
      exact outI _ z
    have noC : ∀ y cc, X.env.cells.lookup y = some cc → cc ≠ a := fun y cc q z => by
      obtain ⟨v, o6, get6, _⟩ := J.cell y cc q
      rw [z] at get6
      exact outI _ get6
    have noP : ∀ p ∈ X.pn ++ pins, p.1 ≠ a := fun p hp z => by
      have q := (J.pin p hp).1
      rw [z] at q
      exact outI _ q
    refine wpAny_handleBy_cons (codeAny_handlers_test ?_) (by intro q; cases q)
    have isC : PySem.W.Looks (model X.prog X.w) h3 (typeOf (.ref a)) cls := fun A2 Q2 E2 s4 kk q => wpAny_typeOf_ref (kk _ _ get3) (by rw [z3.1]; exact q)
    refine ld_glob (X := X.suite a ((a, o3) :: (X.pn ++ pins))) (K3.suite get3 dat3 na noL noF) hg hm ?_ hdb
    refine (PySem.W.exm_one (M := model X.prog X.w) K3.kIn isC match1).here (codeAny_handlers_suite_as ?_)
    refine HandSPX.lands_againZ fly3 fun h4 fly4 up4 => ?_
    have K4 : Inv X pins σ2 H2 { s2 with heap := h4 } := J.landed ground fly4.1 ((up.trans up3).trans up4) os ag
    obtain ⟨o4, v4, get4, z4, dat4⟩ := fly4.there
    refine store_ok (X := X.suite a ((a, o4) :: (X.pn ++ pins))) (v := .ref a) (K4.suite get4 dat4 na noL noF) hN hi (.inl hln) rfl (fun s5 S5 => ?_) (.inr hln)
    refine wpAny_mono ((hsu a o4 cls d (X.pn ++ pins) z4 ⟨_, dat4⟩).run [] s5 _ H2 _ S5 (suite a na)) (fun f s6 sp => ?_) (fun _ _ z => False.elim z)
    cases f with
    | next =>
      obtain ⟨σ6, H6, S6, q6⟩ := sp
      obtain ⟨get6, n6, _⟩ := S6.pin (a, o4) (List.mem_append_left _ List.mem_cons_self)
      have T6 : Inv X pins σ6 (upd H6 a (Xco a cls d)) s6 := inv_track (S6.unsuite ok) n6 out0 noL noC noP (xco_ok get6 z4 dat4)
      exact gone_ok T6 hN hi hln fun s7 T7 => ⟨_, _, T7, q6 n6⟩
    | brk =>
      obtain ⟨_, _, _, z⟩ := sp
      exact False.elim z
    | cont =>
      obtain ⟨_, _, _, z⟩ := sp
      exact False.elim z
    | ret u =>
      obtain ⟨_, _, _, _, _, z⟩ := sp
      exact False.elim z
  · cases f with
    | next =>
      obtain ⟨σ2, H2, J, q⟩ := sp
      exact wpAny_execs_nil ⟨σ2, H2, J.ofTry ok, q⟩
    | brk =>
      obtain ⟨σ2, H2, J, q⟩ := sp
      exact ⟨σ2, H2, J.ofTry ok, q⟩
    | cont =>
      obtain ⟨σ2, H2, J, q⟩ := sp
      exact ⟨σ2, H2, J.ofTry ok, q⟩
    | ret u =>
      obtain ⟨v, σ2, H2, J, r, q⟩ := sp
      exact ⟨v, σ2, H2, J.ofTry ok, r, q⟩
end
/-! ### what is asked of it later -/
theorem xco_inst {X : Cx} {pins : List (Addr × Obj)} {σ : L2.St} {H : Hp} {s : Shared} {a C : Addr} {d : Option Addr} (I : Inv X pins σ H s) (e : H a = some (Xco a (.ref C) d)) (hd : ∀ dd, d = some dd → ∃ fs, H dd = some (.xd fs)) :
    ∃ oe od, PySem.W.InstAt s.heap a oe C od := by
  obtain ⟨⟨oc, odd, dat, sl⟩, vs, get, ⟨z1, z2⟩, f⟩ := xco_at I.hok e
  dsimp only at z1 z2 f
  subst z1 z2 f
  cases odd with
  | none => exact ⟨_, none, get, rfl, rfl, trivial⟩
  | some dd =>
    obtain ⟨fs, hx⟩ := hd dd rfl
    have ok : ObjOk X.prog X.w H s.heap dd (.xd fs) := I.hok dd _ hx
    obtain ⟨mA, ⟨o2, _, _, get2, _⟩, _⟩ := ok
    exact ⟨_, some o2, get, rfl, rfl, get2⟩
/-- isinstance(e, c) of such an exception -/
def rIsX (K : PySem.W.Frag) : List V → Hp → VK → Prop := fun xs H Q => ∃ (a C : Addr) (d : Option Addr) (c : V) (u : Value) (b : Bool), xs = [.ref a, c] ∧ H a = some (Xco a (.ref C) d) ∧ (∀ dd, d = some dd → ∃ fs, H dd = some (.xd fs)) ∧
  ExcC K C ∧ ClsV c u ∧ PySem.W.kitOne K (.ref C) u = some b ∧ Q (.bl b) H
theorem call_isX {X : Cx} : CallR X (.builtin "isinstance") (rIsX X.K) := by
  intro pins s σ H xs us Q I r h
  obtain ⟨a, C, d, c, u, b, rfl, e, hd, T, k, hk, q⟩ := h
  obtain ⟨u1, u2, rfl, r1, r2⟩ := vals2 r
  cases r1
  have e2 := k.eq r2
  subst e2
  obtain ⟨oe, od, inst⟩ := xco_inst I e hd
  have cl : (PySem.W.clsIn X.K C).isSome = true := by
    obtain ⟨cd, hc, _⟩ := PySem.W.any_some T.hd
    rw [hc]
    rfl
  exact PySem.W.kia_one (PySem.W.kitx_exc (od := od) cl T.hg T.hk T.hs T.ha T.hn T.ht T.hm) I.kIn inst hk (fun z => nomatch z) fun tk => ⟨.bl b, H, I.tok tk, rfl, q⟩
/-- e.f of such an exception -/
def tXp (K : PySem.W.Frag) (f : Str) (te : TE) : TE := fun σ H Q => te σ H fun x H1 => ∃ (a C dd : Addr) (fs : List (Str × V)) (v : V), x = .ref a ∧ H1 a = some (Xco a (.ref C) (some dd)) ∧ H1 dd = some (.xd fs) ∧ fs.lookup f = some v ∧
  XfC K C ∧ PySem.W.findIn K (.ref C) f = some none ∧ Q v H1
theorem pe_xp {X : Cx} {e : Expr} {te : TE} {pos : Pos} {n : Str} (he : PE X e te) (hb : attributeBase e n X.env (eval e X.env) = eval e X.env := by rfl) : PE X (.Attribute e n pos) (tXp X.K n te) := by
  refine ⟨fun pins s σ H Q I h => attr_of hb (thn (he.run pins s σ H _ I h) fun u s1 got => ?_)⟩
  obtain ⟨x, H1, I1, rx, a, C, dd, fs, v, rfl, ea, ed, hl, T, hno, q⟩ := got
  cases rx
  obtain ⟨⟨oc, odd, dat, sl⟩, vs, get, ⟨z1, z2⟩, f⟩ := xco_at I1.hok ea
  dsimp only at z1 z2 f
  subst z1 z2 f
  have ok : ObjOk X.prog X.w H1 s1.heap dd (.xd fs) := I1.hok dd _ ed
  obtain ⟨mA, hns, hr⟩ := ok
  obtain ⟨od, ho, look⟩ := lookIn_ns hns
  obtain ⟨y, hy, ry⟩ := RelO.some_of (v := v) (o := mA n) (by rw [← hl]; exact hr n)
  have inst : PySem.W.InstAt s1.heap a ⟨.ref C, some dd, .fields vs, sl⟩ C (some od) := ⟨get, rfl, rfl, ho⟩
  exact HandSPX.exc_get I1.kIn inst T.ga T.gg T.exC (PySem.W.findObj_own T.hdC hno rfl (by rw [look, hy])) (handed_of ry) ⟨v, H1, I1.tok _, ry, q⟩
end Vk
set_option maxHeartbeats 4000000
/-! xs.count(y) of flat items -/
namespace Vk
open PySem PySem.Spec PyProof.Rows L2
theorem cnt_flat {y : V} : ∀ {ys : List V} {us : List Value}, Vals ys us → ys.all flatV = true → us.countP (eqU y) = ys.countP (fun z => eqV z y)
  | _, _, .nil, _ => rfl
  | _, _, .cons r t, f => by
    have f2 := Bool.and_eq_true_iff.mp f
    rw [List.countP_cons, List.countP_cons, cnt_flat t f2.2, eqU_of r f2.1]
def rCntV (K : PySem.W.Frag) : V → List V → Hp → VK → Prop := fun x xs H Q => ∃ (p : Addr) (ys : List V) (y : V), x = .ref p ∧ xs = [y] ∧ SqL K H p ys ∧ flatV y = true ∧ ys.all flatV = true ∧ Q (.int (ys.countP (fun z => eqV z y) : Nat)) H
theorem mt_countV {X : Cx} : MtR X "list.count" (rCntV X.K) := by
  intro pins s σ H x xs v us Q I rx rxs h
  obtain ⟨p, ys, y, rfl, rfl, hs, fy, fys, q⟩ := h
  cases rx
  obtain ⟨u, rfl, ru⟩ := rxs.one
  obtain ⟨its, rv, ⟨⟨cls, dd, data, sl⟩, n, ho, hc, hdn, hd⟩, hlen⟩ := I.list hs
  simp only at hc hd
  subst hc hd
  refine call_meets PySem.F.slot_list_count ⟨_, ho, rfl⟩ PySem.F.entry_list_count (PySem.F.args_list_count_2 _ _)
    (SeqAt.list_countAt p its.toArray n dd sl u (eqU y)) ⟨ho, fun z hz => mem_eqAt ru fy rv fys z (by simpa using hz), ?_⟩
  refine ⟨.int (ys.countP (fun z => eqV z y) : Nat), H, I.tok _, ⟨s.toks, ?_⟩, q⟩
  show Value.int ((its.toArray.toList.countP (eqU y) : Nat) : Int) s.toks = _
  rw [show its.toArray.toList = its from rfl, cnt_flat rv fys]
end Vk
set_option maxHeartbeats 4000000
/-! raise X(e), X an own error whose __init__ keeps one field -/
namespace Vk
open PySem PySem.Spec PyProof.Rows L2
def spIni (C : Addr) (fld : Str) : Sp := fun vs H Q _ => ∃ (a : Addr) (v : V), vs = [.ref a, v] ∧ H a = some (exo a C none) ∧ ∀ dx, H dx = none → dx ≠ a → Q .non (upd (upd H dx (exd dx [(fld, v)])) a (exo a C (some dx)))
structure ErC (P : Program) (w : World) (K : PySem.W.Frag) (mg : Str → Option Value) (base : Heap) (x fld : Str) (C : Addr) : Prop where
  gC : mg x = some (.ref C)
  oex : OexC K C
  ini : ∃ (fI : Addr) (fd : FuncData), PySem.W.findIn K (.ref C) "__init__" = some (some (.ref fI)) ∧ PySem.W.typeIn K (.ref fI) = some (.type "function") ∧ Binds K fd ["self", fld] [] ∧ FnOk P w K mg base CX0 1 fI fd ["self", fld] (spIni C fld)
def tRaiseE (C : Addr) (fld : Str) (W : WX) (te : TE) : TS := fun _ σ H => tMkO C (spIni C fld) [] (tCons te tNil) σ H fun cls d H' => W cls d σ H'
theorem put_del {H : Hp} {a d : Addr} {o u v x : HO} (ha : H a = none) (hd : H d = none) (ne : d ≠ a) : Same H (upd (del (upd (upd (upd H a o) d u) a v) a) d x) := .of fun b y e => by
  have nb : b ≠ a := ne_of_none e ha
  rw [upd_ne (ne_of_none e hd), del_ne nb, upd_ne nb, upd_ne (ne_of_none e hd), upd_ne nb]
  exact e
section
variable {X : Cx} {x fld : Str} {C : Addr} {W : WX} {e : Expr} {te : TE} {p pos pos2 : Pos} {k : Nat}
theorem ps_raiseE (T : ErC X.prog X.w X.K X.mg X.base x fld C) (hc : X.calm = true) (hr : Room k X.A) (hk : 2 ≤ k) (tk : Takes X W) (he : PE X e te) (hg : Gl X x := by rfl) (hdb : (x == ("__debug__" : Str)) = false := by decide)
    (hs : starEach (e :: []) X.env = (false, eval e X.env) :: starEach [] X.env := by rfl) (hpl : (backTo pos (starEach [] X.env)).any (·.1) = false := by rfl) :
    PS X (.Raise (some (.Call (.Name x p) [e] [] pos)) none pos2) (tRaiseE C fld W te) := by
  obtain ⟨fI, fd, h1, h2, h3, h4⟩ := T.ini
  have big := ps_raise (pos := pos2) hc tk (pmk_oex (p := p) (pos := pos) (CX := CX0) (k := 1) T.oex h1 h2 h4 (hr.mono hk) h3 .nil pass0 hg T.gC (pa_cons he pa_nil hs) hdb hs hpl)
  exact big
end
theorem raise_go {C : Addr} {fld : Str} {v : V} {H1 : Hp} {R : XK} {E : XK} (h : ∀ (d : Addr) (H2 : Hp), Same H1 H2 → H1 d = none → H2 d = some (.xd [(fld, v)]) → R (.ref C) (some d) H2) :
    [v].length ≤ 1000 ∧ ∀ a, H1 a = none → spIni C fld (.ref a :: ([v] ++ [])) (upd H1 a (exo a C none)) (fun u H2 => u = .non ∧ ∃ (d : Addr) (fs : List (Str × V)), H2 a = some (exo a C (some d)) ∧ H2 d = some (exd d fs) ∧ H1 d = none ∧ R (.ref C) (some d) (upd (del H2 a) d (.xd fs))) E := by
  refine ⟨by simp, fun a na => ⟨a, v, rfl, upd_same, fun dx nx ne => ?_⟩⟩
  have n1 : H1 dx = none := by
    rw [upd_ne ne] at nx
    exact nx
  refine ⟨rfl, dx, [(fld, v)], upd_same, by rw [upd_ne ne, upd_same], n1, h dx _ (put_del na n1 ne) n1 upd_same⟩
/-! ### the __init__ -/
structure Nit (K : PySem.W.Frag) (x qual fld : Str) (st : Stmt) (C : Addr) : Prop where
  ex : ∃ (fI : Addr) (fd : FuncData), PySem.W.findIn K (.ref C) "__init__" = some (some (.ref fI)) ∧ PySem.W.typeIn K (.ref fI) = some (.type "function") ∧ Fun K "__init__" qual st fI fd ∧ Binds K fd ["self", fld] []
end Vk
set_option maxHeartbeats 4000000
namespace Vk
open PySem PySem.Spec PyProof.Rows L2
section
variable {P : Program} {w : World} {K : PySem.W.Frag} {mg : Str → Option Value} {base : Heap}
theorem scInteger : FnScope ["value", "least"] ["value", "least"] (defScope sInteger) := ⟨rfl, rfl, rfl, by decide +kernel, rfl, by decide +kernel, by decide +kernel⟩
theorem ok_integer (D : Df K mg "is_integer" sInteger ["value", "least"]) (B : Blt mg) : Cl P w K mg base CX0 1 "is_integer" ["value", "least"] (spInteger K) := by
  refine cl0 D scInteger (fun vs H Q E h => ?_) (fun f cdv A outer s H vs Q E hr h => ?_)
  · obtain ⟨v, d, least, rfl, _⟩ := h
    rfl
  · obtain ⟨v, d, least, rfl, hd, k⟩ := h
    refine ⟨_, pss_one (ps_ret (pe_and (pe_callB call_isi (by rfl) B.isi (by decide +kernel) (pa_cons (pv 0) (pa_cons (pe_bltn (v := .ty "int") (u := .type "int") (by rfl) B.int (by decide +kernel) rfl) pa_nil))) (pe_and (pe_not (pe_callB call_isi (by rfl) B.isi (by decide +kernel) (pa_cons (pv 0) (pa_cons (pe_bltn (v := .ty "bool") (u := .type "bool") (by rfl) B.bool (by decide +kernel) rfl) pa_nil)))) (pe_one (pe_cmpR op_ge (pv 0) (pv 1) (nomark _)))))), ?_⟩
    refine ⟨_, rfl, v, _, _, _, _, rfl, .ty "int", dp_ty hd, kit_int hd, _, rfl, ?_⟩
    cases hd with
    | int i =>
      refine iteT ⟨_, rfl, _, _, _, _, _, rfl, .ty "bool", dp_ty (.int i), kit_bool (H := H) (.int i), _, rfl, _, rfl, iteT ?_⟩
      exact ⟨_, rfl, _, rfl, _, _, rfl, rfl, k⟩
    | bl b => exact iteT ⟨_, rfl, _, _, _, _, _, rfl, .ty "bool", dp_ty (.bl b), kit_bool (H := H) (.bl b), _, rfl, _, rfl, iteF k⟩
    | non => exact iteF k
    | str x => exact iteF k
    | lst q r => exact iteF k
    | tup q r => exact iteF k
theorem scInt : FnScope ["value", "least"] ["value", "least"] (defScope sInt) := ⟨rfl, rfl, rfl, by decide +kernel, rfl, by decide +kernel, by decide +kernel⟩
theorem ok_int (D : Df K mg "_law_is_int" sInt ["value", "least"]) (B : Blt mg) : Cl P w K mg base CX0 1 "_law_is_int" ["value", "least"] (spInteger K) := by
  refine cl0 D scInt (fun vs H Q E h => ?_) (fun f cdv A outer s H vs Q E hr h => ?_)
  · obtain ⟨v, d, least, rfl, _⟩ := h
    rfl
  · obtain ⟨v, d, least, rfl, hd, k⟩ := h
    refine ⟨_, pss_one (ps_ret (pe_and (pe_callB call_isi (by rfl) B.isi (by decide +kernel) (pa_cons (pv 0) (pa_cons (pe_bltn (v := .ty "int") (u := .type "int") (by rfl) B.int (by decide +kernel) rfl) pa_nil))) (pe_and (pe_not (pe_callB call_isi (by rfl) B.isi (by decide +kernel) (pa_cons (pv 0) (pa_cons (pe_bltn (v := .ty "bool") (u := .type "bool") (by rfl) B.bool (by decide +kernel) rfl) pa_nil)))) (pe_one (pe_cmpR op_ge (pv 0) (pv 1) (nomark _)))))), ?_⟩
    refine ⟨_, rfl, v, _, _, _, _, rfl, .ty "int", dp_ty hd, kit_int hd, _, rfl, ?_⟩
    cases hd with
    | int i =>
      refine iteT ⟨_, rfl, _, _, _, _, _, rfl, .ty "bool", dp_ty (.int i), kit_bool (H := H) (.int i), _, rfl, _, rfl, iteT ?_⟩
      exact ⟨_, rfl, _, rfl, _, _, rfl, rfl, k⟩
    | bl b => exact iteT ⟨_, rfl, _, _, _, _, _, rfl, .ty "bool", dp_ty (.bl b), kit_bool (H := H) (.bl b), _, rfl, _, rfl, iteF k⟩
    | non => exact iteF k
    | str x => exact iteF k
    | lst q r => exact iteF k
    | tup q r => exact iteF k
theorem scTupleOf : FnScope ["value", "many"] ["value", "many"] (defScope sTupleOf) := ⟨rfl, rfl, rfl, by decide +kernel, rfl, by decide +kernel, by decide +kernel⟩
theorem ok_tupleOf (D : Df K mg "is_tuple_of" sTupleOf ["value", "many"]) (B : Blt mg) : Cl P w K mg base CX0 1 "is_tuple_of" ["value", "many"] (spTupleOf K) := by
  refine cl0 D scTupleOf (fun vs H Q E h => ?_) (fun f cdv A outer s H vs Q E hr h => ?_)
  · obtain ⟨v, d, n, rfl, _⟩ := h
    rfl
  · obtain ⟨v, d, n, rfl, hd, k⟩ := h
    refine ⟨_, pss_one (ps_ret (pe_and (pe_callB call_isi (by rfl) B.isi (by decide +kernel) (pa_cons (pv 0) (pa_cons (pe_bltn (v := .ty "tuple") (u := .type "tuple") (by rfl) B.tuple (by decide +kernel) rfl) pa_nil))) (pe_one (pe_cmpR op_eq (pe_callB call_len_seq (by rfl) B.len PySem.boot_len (pa_cons (pv 0) pa_nil)) (pv 1) (nomark _))))), ?_⟩
    refine ⟨_, rfl, v, _, _, _, _, rfl, .ty "tuple", dp_ty hd, kit_tup hd, _, rfl, ?_⟩
    cases hd with
    | int i => exact iteF k
    | bl b => exact iteF k
    | non => exact iteF k
    | str x => exact iteF k
    | lst q r => exact iteF k
    | @tup a xs ds q r =>
      refine iteT ⟨_, rfl, _, xs, rfl, .inr q, _, rfl, rfl, ?_⟩
      have e : decide (V.int (xs.length : Nat) = V.int n) = tupleND n (.tuple ds) := by
        show _ = decide ((ds.length : Int) = n)
        rw [dps_len r]
        by_cases z : (ds.length : Int) = n
        · rw [z, decide_eq_true rfl, decide_eq_true rfl]
        · rw [decide_eq_false z, decide_eq_false (fun y => z (V.int.inj y))]
      show Q (.bl (decide (V.int (xs.length : Nat) = V.int n))) H
      rw [e]
      exact k
end
end Vk
set_option maxHeartbeats 4000000
/-! data beside the store: new tuples, lists, sums, slices -/
namespace Vk
open PySem PySem.Spec PyProof.Rows L2
theorem off_at {a p : Addr} {H : Hp} {o : HO} (h : H p = some o) (n : p ≠ a) : Off a H p = some o := by
  rw [off_ne n]
  exact h
theorem Kept.at {a p : Addr} {H H' : Hp} {o : HO} (k : Kept a H H') (h : H p = some o) (n : p ≠ a) (u : NoTbl o := by exact True.intro) : H' p = some o := (off_some (Same.at_ k _ _ (off_at h n) u)).2
theorem off_other {a p : Addr} {H : Hp} {o : HO} (h : p ≠ a) : Off a (upd H p o) = upd (Off a H) p o := by
  funext b
  by_cases h1 : b = a
  · subst h1
    rw [off_same, upd_ne h.symm, off_same]
  · rw [off_ne h1]
    by_cases h2 : b = p
    · subst h2
      rw [upd_same, upd_same]
    · rw [upd_ne h2, upd_ne h2, off_ne h1]
section
variable {K : PySem.W.Frag} {a p : Addr} {G : Hp} {vs : List V} {ds : List PyData} {o : HO}
theorem new_tup (hA : G a ≠ none) (np : G p = none) (h : DpAll K (Off a G) vs ds) : Dp K (Off a (upd G p (.tup vs))) (.ref p) (.tuple ds) := by
  have pa : p ≠ a := ne_has hA np
  exact .tup (SqT.of (by rw [off_ne pa, upd_same])) (dps_same (off_mono (same_new np)) h)
theorem new_lst (hA : G a ≠ none) (np : G p = none) (h : DpAll K (Off a G) vs ds) : Dp K (Off a (upd G p (.lst vs))) (.ref p) (.list ds) := by
  have pa : p ≠ a := ne_has hA np
  exact .lst (SqL.of (by rw [off_ne pa, upd_same])) (dps_same (off_mono (same_new np)) h)
theorem dp_up {H H' : Hp} {v : V} {d : PyData} (s : Same H H') (h : Dp K (Off a H) v d) : Dp K (Off a H') v d := dp_same (off_mono s) h
theorem dps_up {H H' : Hp} {v : List V} {d : List PyData} (s : Same H H') (h : DpAll K (Off a H) v d) : DpAll K (Off a H') v d := dps_same (off_mono s) h
theorem dp_on {H : Hp} {v : V} {d : PyData} (h : Dp K (Off a H) v d) : Dp K H v d := dp_same (off_sub a H) h
theorem atI_mem {xs : List V} {r : Int} (h0 : 0 ≤ r) (h1 : r < xs.length) : ∃ x, atI xs r = some x ∧ x ∈ xs := by
  have hj : r.toNat < xs.length := by omega
  have z := atI_nat (List.getElem?_eq_getElem hj)
  rw [Int.toNat_of_nonneg h0] at z
  exact ⟨_, z, List.getElem_mem hj⟩
theorem atI_dp {H : Hp} {xs : List V} {es : List PyData} {r : Int} (d : DpAll K H xs es) (h0 : 0 ≤ r) (h1 : r < es.length) : ∃ x e, atI xs r = some x ∧ es[r.toNat]? = some e ∧ Dp K H x e := by
  have hl := dps_len d
  have hj : r.toNat < es.length := by omega
  obtain ⟨x, hx, dx⟩ := dps_get d (List.getElem?_eq_getElem hj)
  have z := atI_nat hx
  rw [Int.toNat_of_nonneg h0] at z
  exact ⟨x, _, z, List.getElem?_eq_getElem hj, dx⟩
theorem cat_go {H : Hp} {x y : V} {ds es : List PyData} {Q : VK} (hA : H a ≠ none) (hx : Dp K (Off a H) x (.tuple ds)) (hy : Dp K (Off a H) y (.tuple es)) (hl : ds.length + es.length ≤ 1000)
    (k : ∀ z H', Same H H' → Dp K (Off a H') z (.tuple (ds ++ es)) → Q z H') : rCatA K x y H Q := by
  obtain ⟨p, xs, rfl, qx, rx⟩ := dp_tuple hx
  obtain ⟨q, ys, rfl, qy, ry⟩ := dp_tuple hy
  have l1 := dps_len rx
  have l2 := dps_len ry
  refine ⟨p, q, xs, ys, rfl, rfl, same_seqT (off_sub a H) qx, same_seqT (off_sub a H) qy, Nat.le_trans (show xs.length + ys.length ≤ 1000 by omega) (by decide), fun e => ?_, fun _ e => ?_, fun _ _ t nt => ?_⟩
  · subst e
    have e2 : ds = [] := List.eq_nil_of_length_eq_zero l1.symm
    subst e2
    exact k _ H (Same.refl H) hy
  · subst e
    have e2 : es = [] := List.eq_nil_of_length_eq_zero l2.symm
    subst e2
    rw [List.append_nil] at k
    exact k _ H (Same.refl H) hx
  · exact k _ _ (same_new nt) (new_tup hA nt (dps_app rx ry))
theorem slice_go {H : Hp} {x : V} {ds : List PyData} {lo hi : Option Int} {Q : VK} (hA : H a ≠ none) (hx : Dp K (Off a H) x (.tuple ds))
    (k : ∀ z H', Same H H' → Dp K (Off a H') z (.tuple ((ds.drop (HT.sIx ds.length 0 lo)).take (HT.sIx ds.length ds.length hi - HT.sIx ds.length 0 lo))) → Q z H') : rSlA K x lo hi H Q := by
  obtain ⟨p, xs, rfl, qx, rx⟩ := dp_tuple hx
  have l1 := dps_len rx
  refine ⟨p, xs, rfl, same_seqT (off_sub a H) qx, fun w => ?_, fun _ t nt => ?_⟩
  · rw [l1] at w
    have z := k (.ref p) H (Same.refl H)
    rw [w.1, w.2, List.drop_zero, Nat.sub_zero, List.take_length] at z
    exact z hx
  · refine k _ _ (same_new nt) (new_tup hA nt ?_)
    unfold cutV
    rw [l1]
    exact dps_take _ (dps_drop _ rx)
theorem dps_rep {H : Hp} {xs : List V} {es : List PyData} (d : DpAll K H xs es) : ∀ n : Nat, DpAll K H (List.replicate n xs).flatten (List.replicate n es).flatten
  | 0 => .nil
  | n + 1 => by
    rw [List.replicate_succ, List.replicate_succ, List.flatten_cons, List.flatten_cons]
    exact dps_app d (dps_rep d n)
end
end Vk
set_option maxHeartbeats 4000000
/-! xs == [], t != () -/
namespace Vk
open PySem PySem.Spec PyProof.Rows L2
def rEqNilL (K : PySem.W.Frag) : R2 := fun x y H Q => ∃ p q xs, x = .ref p ∧ y = .ref q ∧ SqL K H p xs ∧ SqL K H q [] ∧ Q (.bl xs.isEmpty) H
def rNeNilL (K : PySem.W.Frag) : R2 := fun x y H Q => ∃ p q xs, x = .ref p ∧ y = .ref q ∧ SqL K H p xs ∧ SqL K H q [] ∧ Q (.bl (!xs.isEmpty)) H
def rNeNilT (K : PySem.W.Frag) : R2 := fun x y H Q => ∃ p q xs, x = .ref p ∧ y = .ref q ∧ SqT K H p xs ∧ SqT K H q [] ∧ Q (.bl (!xs.isEmpty)) H
section
variable {X : Cx}
theorem op_eqNilL (hu : X.A.units < cLine) : OpR X (compareOp .Eq) (rEqNilL X.K) := by
  intro pins s σ H x y v u Q I rx ry h
  obtain ⟨p, q, xs, rfl, rfl, hp, hq, k⟩ := h
  cases rx
  cases ry
  obtain ⟨is1, r1, p1, _⟩ := I.list hp
  obtain ⟨is2, r2, p2, _⟩ := I.list hq
  cases r2
  have l1 := r1.length
  cases xs with
  | nil =>
    cases r1
    exact SeqAt.eq_listAt (e := fun _ => true) p1.isList p2.isList rfl hu (fun j h1 _ => absurd h1 (Nat.not_lt_zero _)) ⟨.bl true, H, I, rfl, k⟩
  | cons x r =>
    cases r1
    exact SeqAt.eq_list_lengthsAt p1.isList p2.isList (by simp) hu ⟨.bl false, H, I, rfl, k⟩
theorem op_neNilL (hu : X.A.units < cLine) : OpR X (compareOp .NotEq) (rNeNilL X.K) := by
  intro pins s σ H x y v u Q I rx ry h
  obtain ⟨p, q, xs, rfl, rfl, hp, hq, k⟩ := h
  cases rx
  cases ry
  obtain ⟨is1, r1, p1, _⟩ := I.list hp
  obtain ⟨is2, r2, p2, _⟩ := I.list hq
  cases r2
  have l1 := r1.length
  cases xs with
  | nil =>
    cases r1
    exact SeqAt.RcNeAt.lists (e := fun _ => true) p1.isList p2.isList rfl hu (fun j h1 _ => absurd h1 (Nat.not_lt_zero _)) _ _ _ _ ⟨.bl false, H, I, rfl, k⟩
  | cons x r =>
    cases r1
    exact SeqAt.RcNeAt.lists_lengths p1.isList p2.isList (by simp) hu _ _ _ _ ⟨.bl true, H, I, rfl, k⟩
theorem op_neNilT (hu : X.A.units < cLine) : OpR X (compareOp .NotEq) (rNeNilT X.K) := by
  intro pins s σ H x y v u Q I rx ry h
  obtain ⟨p, q, xs, rfl, rfl, hp, hq, k⟩ := h
  cases rx
  cases ry
  obtain ⟨is1, r1, p1, _⟩ := I.tuple hp
  obtain ⟨is2, r2, p2, _⟩ := I.tuple hq
  cases r2
  have l1 := r1.length
  have z : (!((List.range (min is1.toArray.size ([] : List Value).toArray.size)).all (fun _ => true) && is1.toArray.size == ([] : List Value).toArray.size)) = !xs.isEmpty := by
    cases xs with
    | nil =>
      cases r1
      rfl
    | cons x r =>
      cases r1
      simp
  refine SeqAt.RcNeAt.tuples (e := fun _ => true) p1 p2 hu (fun j _ h2 => absurd h2 (Nat.not_lt_zero _)) _ _ _ _ ?_
  rw [z]
  exact ⟨.bl (!xs.isEmpty), H, I, rfl, k⟩
end
end Vk
set_option maxHeartbeats 4000000
namespace Vk
open PySem PySem.Spec PyProof.Rows L2
/-- the truth of the twelve questions, for the class with number i -/
def bits (i : Nat) : List V := (List.range 12).map fun j => V.bl (decide (j = i))
def words7 : List Str := ["jobs", "rule", "lengths", "log", "marks", "named", "order"]
theorem bits_len (i : Nat) : (bits i).length = 12 := by simp [bits]
theorem bits_get {i m : Nat} (h : m < 12) : (bits i)[m]? = some (V.bl (decide (m = i))) := by
  unfold bits
  rw [List.getElem?_map, List.getElem?_range h]
  rfl
theorem bits_flat (i : Nat) : (bits i).all flatV = true := by
  unfold bits
  rw [List.all_eq_true]
  intro x hx
  obtain ⟨j, _, rfl⟩ := List.mem_map.mp hx
  rfl
theorem bits_cnt : ∀ i : Fin 12, (bits i.1).countP (fun z => eqV z (.bl true)) = 1 := by decide +kernel
structure Kn (K : PySem.W.Frag) (mg : Str → Option Value) (C : Addr) (i : Nat) : Prop where
  ex : ExcC K C
  xf : XfC K C
  noP : PySem.W.findIn K (.ref C) "place" = some none
  ve : mg "ValueError" = none
  kv : PySem.W.kitOne K (.ref C) (.type "ValueError") = some true
  se : ∃ S, mg "SlotError" = some (.ref S) ∧ PySem.W.kitOne K (.ref C) (.ref S) = some true ∧ PySem.W.exmOne K (.ref C) (.ref S) = some true
  c0 : ∃ D, mg "NoJobs" = some (.ref D) ∧ PySem.W.kitOne K (.ref C) (.ref D) = some (decide (0 = i))
  c1 : ∃ D, mg "NoRule" = some (.ref D) ∧ PySem.W.kitOne K (.ref C) (.ref D) = some (decide (1 = i))
  c2 : ∃ D, mg "NoLengths" = some (.ref D) ∧ PySem.W.kitOne K (.ref C) (.ref D) = some (decide (2 = i))
  c3 : ∃ D, mg "NoLog" = some (.ref D) ∧ PySem.W.kitOne K (.ref C) (.ref D) = some (decide (3 = i))
  c4 : ∃ D, mg "NoMarks" = some (.ref D) ∧ PySem.W.kitOne K (.ref C) (.ref D) = some (decide (4 = i))
  c5 : ∃ D, mg "NoNamed" = some (.ref D) ∧ PySem.W.kitOne K (.ref C) (.ref D) = some (decide (5 = i))
  c6 : ∃ D, mg "NoOrder" = some (.ref D) ∧ PySem.W.kitOne K (.ref C) (.ref D) = some (decide (6 = i))
  c7 : ∃ D, mg "NoText" = some (.ref D) ∧ PySem.W.kitOne K (.ref C) (.ref D) = some (decide (7 = i))
  c8 : ∃ D, mg "NoNumber" = some (.ref D) ∧ PySem.W.kitOne K (.ref C) (.ref D) = some (decide (8 = i))
  c9 : ∃ D, mg "NoName" = some (.ref D) ∧ PySem.W.kitOne K (.ref C) (.ref D) = some (decide (9 = i))
  c10 : ∃ D, mg "NoUndo" = some (.ref D) ∧ PySem.W.kitOne K (.ref C) (.ref D) = some (decide (10 = i))
  c11 : ∃ D, mg "NoLine" = some (.ref D) ∧ PySem.W.kitOne K (.ref C) (.ref D) = some (decide (11 = i))
section
variable {P : Program} {w : World} {K : PySem.W.Frag} {mg : Str → Option Value} {base : Heap}
def spKind (C : Addr) (i : Nat) : Sp := fun vs H Q _ => ∃ (a dd : Addr) (v : V), vs = [.ref a] ∧ H a = some (Xco a (.ref C) (some dd)) ∧ H dd = some (.xd [(("place" : Str), v)]) ∧
  ∀ (t : Addr) (H' : Hp), Same H H' → H' t = some (.tup [.str (words7.getD i ""), v]) → Q (.ref t) H'
theorem scKind : FnScope ["caught", "kinds", "at"] ["caught"] (defScope sKind) := ⟨rfl, rfl, rfl, by decide +kernel, rfl, by decide +kernel, by decide +kernel⟩
theorem ok_kind {C : Addr} {i : Nat} (hi : i < 7) (D : Df K mg "_law_kind" sKind ["caught"]) (B : Blt mg) (N : Kn K mg C i) : Cl P w K mg base CX0 1 "_law_kind" ["caught"] (spKind C i) := by
  refine cl0 D scKind (fun vs H Q E h => ?_) (fun f cdv A outer s H vs Q E hr h => ?_)
  · obtain ⟨a, dd, v, rfl, _⟩ := h
    rfl
  · obtain ⟨a, dd, v, rfl, ha, hdd, k⟩ := h
    obtain ⟨S, mS, kS, _⟩ := N.se
    obtain ⟨D0, m0, k0⟩ := N.c0
    obtain ⟨D1, m1, k1⟩ := N.c1
    obtain ⟨D2, m2, k2⟩ := N.c2
    obtain ⟨D3, m3, k3⟩ := N.c3
    obtain ⟨D4, m4, k4⟩ := N.c4
    obtain ⟨D5, m5, k5⟩ := N.c5
    obtain ⟨D6, m6, k6⟩ := N.c6
    obtain ⟨D7, m7, k7⟩ := N.c7
    obtain ⟨D8, m8, k8⟩ := N.c8
    obtain ⟨D9, m9, k9⟩ := N.c9
    obtain ⟨D10, m10, k10⟩ := N.c10
    obtain ⟨D11, m11, k11⟩ := N.c11
    refine ⟨_, pss_cons (ps_set (i := 1) scKind.nd rfl (Or.inl rfl) (pe_lst (pa_cons (pe_callB call_isX (by rfl) B.isi (by decide +kernel) (pa_cons (pv 0) (pa_cons (pe_glob rfl m0 (show RelV (.ref _) _ from rfl)) pa_nil))) (pa_cons (pe_callB call_isX (by rfl) B.isi (by decide +kernel) (pa_cons (pv 0) (pa_cons (pe_glob rfl m1 (show RelV (.ref _) _ from rfl)) pa_nil))) (pa_cons (pe_callB call_isX (by rfl) B.isi (by decide +kernel) (pa_cons (pv 0) (pa_cons (pe_glob rfl m2 (show RelV (.ref _) _ from rfl)) pa_nil))) pa_nil)))))
      (pss_cons (ps_set (i := 1) scKind.nd rfl (Or.inl rfl) (pe_op op_cat (pv 1) (pe_lst (pa_cons (pe_callB call_isX (by rfl) B.isi (by decide +kernel) (pa_cons (pv 0) (pa_cons (pe_glob rfl m3 (show RelV (.ref _) _ from rfl)) pa_nil))) (pa_cons (pe_callB call_isX (by rfl) B.isi (by decide +kernel) (pa_cons (pv 0) (pa_cons (pe_glob rfl m4 (show RelV (.ref _) _ from rfl)) pa_nil))) (pa_cons (pe_callB call_isX (by rfl) B.isi (by decide +kernel) (pa_cons (pv 0) (pa_cons (pe_glob rfl m5 (show RelV (.ref _) _ from rfl)) pa_nil))) pa_nil))))))
      (pss_cons (ps_set (i := 1) scKind.nd rfl (Or.inl rfl) (pe_op op_cat (pv 1) (pe_lst (pa_cons (pe_callB call_isX (by rfl) B.isi (by decide +kernel) (pa_cons (pv 0) (pa_cons (pe_glob rfl m6 (show RelV (.ref _) _ from rfl)) pa_nil))) (pa_cons (pe_callB call_isX (by rfl) B.isi (by decide +kernel) (pa_cons (pv 0) (pa_cons (pe_glob rfl m7 (show RelV (.ref _) _ from rfl)) pa_nil))) (pa_cons (pe_callB call_isX (by rfl) B.isi (by decide +kernel) (pa_cons (pv 0) (pa_cons (pe_glob rfl m8 (show RelV (.ref _) _ from rfl)) pa_nil))) pa_nil))))))
      (pss_cons (ps_set (i := 1) scKind.nd rfl (Or.inl rfl) (pe_op op_cat (pv 1) (pe_lst (pa_cons (pe_callB call_isX (by rfl) B.isi (by decide +kernel) (pa_cons (pv 0) (pa_cons (pe_glob rfl m9 (show RelV (.ref _) _ from rfl)) pa_nil))) (pa_cons (pe_callB call_isX (by rfl) B.isi (by decide +kernel) (pa_cons (pv 0) (pa_cons (pe_glob rfl m10 (show RelV (.ref _) _ from rfl)) pa_nil))) (pa_cons (pe_callB call_isX (by rfl) B.isi (by decide +kernel) (pa_cons (pv 0) (pa_cons (pe_glob rfl m11 (show RelV (.ref _) _ from rfl)) pa_nil))) pa_nil))))))
      (pss_cons (ps_if (PW.pt (pw_or (pt_not (pt_val (pe_callB call_isX (by rfl) B.isi (by decide +kernel) (pa_cons (pv 0) (pa_cons (pe_glob rfl mS (show RelV (.ref _) _ from rfl)) pa_nil))))) (pw_or (pt_not (pt_val (pe_callB call_isX (by rfl) B.isi (by decide +kernel) (pa_cons (pv 0) (pa_cons (pe_bltn (v := .ty "ValueError") (u := .type "ValueError") (by rfl) N.ve (by decide +kernel) rfl) pa_nil)))))
        (pw_or1 (pt_cmpR op_ne (pe_bm PySem.F.plainAttrs_list PySem.F.slot_list_count PySem.F.type_list_count mt_countV (pv 1) (pa_cons pe_bl pa_nil)) pe_int (nomark _)))))) (pss_one (ps_ret (pe_tup (pa_cons pe_str (pa_cons pe_int pa_nil))))) pss_nil)
      (pss_cons (ps_set (i := 2) scKind.nd rfl (Or.inl rfl) (pe_bm PySem.F.plainAttrs_list PySem.F.slot_list_index PySem.F.type_list_index mt_index (pv 1) (pa_cons pe_bl pa_nil)))
      (pss_cons (ps_if (pt_cmpR op_lt (pv 2) pe_int (nomark _)) (pss_one (ps_ret (pe_tup (pa_cons (pe_ix ix_list (pe_lst (pa_cons pe_str (pa_cons pe_str (pa_cons pe_str (pa_cons pe_str (pa_cons pe_str (pa_cons pe_str (pa_cons pe_str pa_nil)))))))) (pv 2) (fun _ _ => rfl)) (pa_cons (pe_xp (pv 0)) pa_nil))))) pss_nil)
      (pss_cons ps_never (pss_cons ps_never (pss_cons ps_never (pss_one ps_never)))))))))), ?_⟩
    refine ⟨_, rfl, a, C, some dd, _, _, _, rfl, (Same.refl H).at ha, (fun d2 e2 => by cases e2; exact ⟨_, (Same.refl H).at hdd⟩), N.ex, .own _, k0,
      _, rfl, a, C, some dd, _, _, _, rfl, (Same.refl H).at ha, (fun d2 e2 => by cases e2; exact ⟨_, (Same.refl H).at hdd⟩), N.ex, .own _, k1,
      _, rfl, a, C, some dd, _, _, _, rfl, (Same.refl H).at ha, (fun d2 e2 => by cases e2; exact ⟨_, (Same.refl H).at hdd⟩), N.ex, .own _, k2, (by show 3 ≤ sizeLine; decide), fun p1 n1 => ?_⟩
    have s1 := same_new (o := .lst [.bl (decide (0 = i)), .bl (decide (1 = i)), .bl (decide (2 = i))]) n1
    refine ⟨_, rfl, _, rfl, a, C, some dd, _, _, _, rfl, s1.at ha, (fun d2 e2 => by cases e2; exact ⟨_, s1.at hdd⟩), N.ex, .own _, k3,
      _, rfl, a, C, some dd, _, _, _, rfl, s1.at ha, (fun d2 e2 => by cases e2; exact ⟨_, s1.at hdd⟩), N.ex, .own _, k4,
      _, rfl, a, C, some dd, _, _, _, rfl, s1.at ha, (fun d2 e2 => by cases e2; exact ⟨_, s1.at hdd⟩), N.ex, .own _, k5, (by show 3 ≤ sizeLine; decide), fun q1 m1' => ?_⟩
    have t1 := same_new (o := .lst [.bl (decide (3 = i)), .bl (decide (4 = i)), .bl (decide (5 = i))]) m1'
    refine ⟨p1, q1, _, _, rfl, rfl, t1.at upd_same, upd_same, (by show 3 + 3 ≤ sizeLine; decide), fun p2 n2 => ?_⟩
    have s2 := (s1.trans t1).trans (same_new (o := .lst ([.bl (decide (0 = i)), .bl (decide (1 = i)), .bl (decide (2 = i))] ++ [.bl (decide (3 = i)), .bl (decide (4 = i)), .bl (decide (5 = i))])) n2)
    refine ⟨_, rfl, _, rfl, a, C, some dd, _, _, _, rfl, s2.at ha, (fun d2 e2 => by cases e2; exact ⟨_, s2.at hdd⟩), N.ex, .own _, k6,
      _, rfl, a, C, some dd, _, _, _, rfl, s2.at ha, (fun d2 e2 => by cases e2; exact ⟨_, s2.at hdd⟩), N.ex, .own _, k7,
      _, rfl, a, C, some dd, _, _, _, rfl, s2.at ha, (fun d2 e2 => by cases e2; exact ⟨_, s2.at hdd⟩), N.ex, .own _, k8, (by show 3 ≤ sizeLine; decide), fun q2 m2' => ?_⟩
    have t2 := same_new (o := .lst [.bl (decide (6 = i)), .bl (decide (7 = i)), .bl (decide (8 = i))]) m2'
    refine ⟨p2, q2, _, _, rfl, rfl, t2.at upd_same, upd_same, (by show 6 + 3 ≤ sizeLine; decide), fun p3 n3 => ?_⟩
    have s3 := (s2.trans t2).trans (same_new (o := .lst (([.bl (decide (0 = i)), .bl (decide (1 = i)), .bl (decide (2 = i))] ++ [.bl (decide (3 = i)), .bl (decide (4 = i)), .bl (decide (5 = i))]) ++ [.bl (decide (6 = i)), .bl (decide (7 = i)), .bl (decide (8 = i))])) n3)
    refine ⟨_, rfl, _, rfl, a, C, some dd, _, _, _, rfl, s3.at ha, (fun d2 e2 => by cases e2; exact ⟨_, s3.at hdd⟩), N.ex, .own _, k9,
      _, rfl, a, C, some dd, _, _, _, rfl, s3.at ha, (fun d2 e2 => by cases e2; exact ⟨_, s3.at hdd⟩), N.ex, .own _, k10,
      _, rfl, a, C, some dd, _, _, _, rfl, s3.at ha, (fun d2 e2 => by cases e2; exact ⟨_, s3.at hdd⟩), N.ex, .own _, k11, (by show 3 ≤ sizeLine; decide), fun q3 m3' => ?_⟩
    have t3 := same_new (o := .lst [.bl (decide (9 = i)), .bl (decide (10 = i)), .bl (decide (11 = i))]) m3'
    refine ⟨p3, q3, _, _, rfl, rfl, t3.at upd_same, upd_same, (by show 9 + 3 ≤ sizeLine; decide), fun p4 n4 => ?_⟩
    have s4 := (s3.trans t3).trans (same_new (o := .lst ((([.bl (decide (0 = i)), .bl (decide (1 = i)), .bl (decide (2 = i))] ++ [.bl (decide (3 = i)), .bl (decide (4 = i)), .bl (decide (5 = i))]) ++ [.bl (decide (6 = i)), .bl (decide (7 = i)), .bl (decide (8 = i))]) ++ [.bl (decide (9 = i)), .bl (decide (10 = i)), .bl (decide (11 = i))])) n4)
    have e12 : ((([.bl (decide (0 = i)), .bl (decide (1 = i)), .bl (decide (2 = i))] ++ [.bl (decide (3 = i)), .bl (decide (4 = i)), .bl (decide (5 = i))]) ++ [.bl (decide (6 = i)), .bl (decide (7 = i)), .bl (decide (8 = i))]) ++ [.bl (decide (9 = i)), .bl (decide (10 = i)), .bl (decide (11 = i))]) = bits i := rfl
    refine ⟨_, rfl, a, C, some dd, _, _, _, rfl, s4.at ha, (fun d2 e2 => by cases e2; exact ⟨_, s4.at hdd⟩), N.ex, .own _, kS, _, rfl, iteF ?_⟩
    refine ⟨_, rfl, a, C, some dd, _, _, _, rfl, s4.at ha, (fun d2 e2 => by cases e2; exact ⟨_, s4.at hdd⟩), N.ex, .ty "ValueError", N.kv, _, rfl, iteF ?_⟩
    refine ⟨_, rfl, .inl ⟨rfl, _, SqL.of upd_same⟩, p4, _, _, rfl, rfl, SqL.of upd_same, rfl, ?_, ?_⟩
    · rw [e12]
      exact bits_flat i
    rw [e12]
    have ec : (bits i).countP (fun z => eqV z (.bl true)) = 1 := bits_cnt ⟨i, by omega⟩
    rw [ec]
    refine ⟨rfl, _, rfl, iteF ?_⟩
    refine ⟨_, rfl, .inl ⟨rfl, _, SqL.of upd_same⟩, p4, _, _, i, .bl (decide (i = i)), rfl, rfl, SqL.of upd_same, rfl, bits_flat i, bits_get (by omega), by rw [decide_eq_true rfl]; rfl, fun m z' hm hz => ?_, ?_⟩
    · rw [bits_get (by omega)] at hz
      cases hz
      rw [decide_eq_false (by omega)]
      rfl
    refine ⟨_, rfl, _, _, rfl, rfl, _, rfl, ?_⟩
    rw [decide_eq_true (show (i : Int) < 7 by omega)]
    refine iteT ⟨(by show 7 ≤ sizeLine; decide), fun l nl => ?_⟩
    have s5 := s4.trans (same_new (o := .lst (words7.map V.str)) nl)
    have ew : (words7.map V.str)[i]? = some (.str (words7.getD i "")) := by
      rw [List.getElem?_map, List.getD_eq_getElem?_getD]
      have hl : i < words7.length := hi
      rw [List.getElem?_eq_getElem hl]
      rfl
    refine ⟨_, rfl, l, _, _, _, rfl, rfl, SqL.of upd_same, atI_nat ew, _, rfl, a, C, dd, _, v, rfl, s5.at ha, s5.at hdd, by simp [List.lookup], N.xf, N.noP, (by show 2 ≤ sizeLine; decide), fun t nt => ?_⟩
    exact k t _ (s5.trans (same_new nt)) upd_same
end
end Vk
set_option maxHeartbeats 4000000
/-! all(lo <= c <= hi for c in text) -/
namespace Vk
open PySem PySem.Spec PyProof.Rows L2 GxR
def between (lo hi : Str) (c : Nat) : Bool := !decide ([c] < lo.cps.toList) && !decide (hi.cps.toList < [c])
theorem elt_between {prog : Program} {w : World} {scope : Scope} {x lo hi : Str} {j1 j2 : Nat} {p1 p2 p3 p4 : Pos} (hk : scope.kind = .function) (hl : scope.names.lookup x = some .local) (hd : (x == ("__debug__" : Str)) = false := by decide) :
    EltP prog w scope x (.Compare (.Constant (.str lo) j1 p1) [.LtE, .LtE] [.Name x p2, .Constant (.str hi) j2 p3] p4) (between lo hi) := by
  intro cenv A' E' c t s₂ m₂ hs hn hm
  refine Compare_chain ?_
  refine Calls.Constant_str (chain_link ?_)
  refine wpAny_Name (wpAny_loadName_local (by rw [hs]; exact hk) (show cenv.scope.names.lookup x = some .local by rw [hs]; exact hl) hn hm ?_) hd
  refine PySem.P.le_str (wpAny_truthy_bool ?_)
  have e1 : (⟨#[c]⟩ : Str).cps.toList = [c] := rfl
  cases h1 : decide ([c] < lo.cps.toList) with
  | true =>
    refine ite_ff ⟨?_, keeps_tok _ _⟩
    unfold between
    rw [h1]
    rfl
  | false =>
    refine ite_tt (chain_last (Calls.Constant_str (PySem.P.le_str ⟨?_, keeps_tok _ _⟩)))
    unfold between
    rw [h1]
    rfl
end Vk
set_option maxHeartbeats 4000000
namespace Vk
open PySem PySem.Spec PyProof.Rows L2 GxR
/-- a def whose code object stands at c -/
structure DfC (K : PySem.W.Frag) (mg : Str → Option Value) (x : Str) (st : Stmt) (ps : List Str) (c : Addr) : Prop where
  ex : ∃ (f : Addr) (oc : Value) (od : Option Addr) (kV doc pm : Value) (an : Option Addr) (ct : Value) (osl : Array (Option Value)), mg x = some (.ref f) ∧
    K.lookup f = some ⟨oc, od, .func (PySem.W.fnOf x x (defArgs st) (defBody st) (defScope st) .none kV doc pm an (.ref c) ct), osl⟩ ∧ PySem.W.codeIn K (.ref c) x = true ∧ PySem.W.keepIn K (.ref f) = true ∧
    Binds K (PySem.W.fnOf x x (defArgs st) (defBody st) (defScope st) .none kV doc pm an (.ref c) ct) ps []
theorem clC {P : Program} {w : World} {K : PySem.W.Frag} {mg : Str → Option Value} {base : Heap} {x : Str} {st : Stmt} {N ps : List Str} {k : Nat} {sp : Sp} {c : Addr} (D : DfC K mg x st ps c) (S : FnScope N ps (defScope st)) (len : ∀ vs H Q E, sp vs H Q E → vs.length = ps.length)
    (body : ∀ (f : Addr) (A : Around) (outer : List Env) (s : Shared) (H : Hp) (vs : List V) (Q : VK) (E : XK), Room k (A.deeper (envOfC x (defScope st) s.heap.objs.size f (.ref c))) → sp vs H Q E →
      ∃ t, PSs (cxOf CX0 P w K mg base N x (defScope st) f (.ref c) A outer s H E).nox (defBody st) t ∧ t { nx := fun _ H' => Q .non H', rt := Q } (start N vs) H) : Cl P w K mg base CX0 (k + 1) x ps sp := by
  obtain ⟨f, oc, od, kV, doc, pm, an, ct, osl, hm, lk, hcd, kp, b⟩ := D.ex
  refine ⟨f, _, hm, kp, b, fn_of lk hcd S len fun A outer s H vs Q E hr hsp => ?_⟩
  obtain ⟨t, h, q⟩ := body f A outer s H vs Q E hr hsp
  exact ⟨t, h.nox, q⟩
theorem twoLoc {R : Str × NameKind → Prop} {a b : Str} : ∀ y ∈ [(a, NameKind.local), (b, NameKind.local)], y.2 = .free → R y := by
  intro y hy e
  rcases List.mem_cons.mp hy with rfl | hy
  · cases e
  · rcases List.mem_cons.mp hy with rfl | hy
    · cases e
    · cases hy
def smallS : PyData → Prop
  | .str s => s.length ≤ 1000
  | _ => True
def nameD : PyData → Bool
  | .str s => decide (1 ≤ s.length) && (decide (s.length ≤ 8) && s.cps.toList.all (between "a" "z"))
  | _ => false
section
variable {P : Program} {w : World} {K : PySem.W.Frag} {mg : Str → Option Value} {base : Heap}
def spName (K : PySem.W.Frag) (T : Addr) : Sp := fun vs H Q _ => ∃ (v : V) (d : PyData), vs = [v] ∧ Dp K H v d ∧ smallS d ∧ TabG H T ∧ ∀ H', Same H H' → Q (.bl (nameD d)) H'
theorem scName : FnScope ["value"] ["value"] (defScope sName) := ⟨rfl, rfl, rfl, by decide +kernel, rfl, by decide +kernel, by decide +kernel⟩
theorem ok_name {c T : Addr} (D : DfC K mg "is_name" sName ["value"] c) (TB : TabB base mg c T) (B : Blt mg) (al : mg "all" = none) : Cl P w K mg base CX0 1 "is_name" ["value"] (spName K T) := by
  refine clC D scName (fun vs H Q E h => ?_) (fun f A outer s H vs Q E hr h => ?_)
  · obtain ⟨v, d, rfl, _⟩ := h
    rfl
  · obtain ⟨v, d, rfl, hd, sm, tg, k⟩ := h
    refine ⟨_, pss_cons (ps_if (PW.pt (pw_or (pt_not (pt_val (pe_callB call_isi (by rfl) B.isi (by decide +kernel) (pa_cons (pv 0) (pa_cons (pe_bltn (v := .ty "str") (u := .type "str") (by rfl) B.str (by decide +kernel) rfl) pa_nil))))) (pw_or1 (pt_not (pt_chain op_le op_le pe_int (pe_callB call_len (by rfl) B.len PySem.boot_len (pa_cons (pv 0) pa_nil)) pe_int))))) (pss_one (ps_ret pe_bl)) pss_nil)
      (pss_one (ps_ret (pe_allS (c := c) (P := T) (pb := between "a" "z") hr (by rfl) al (by decide +kernel) TB rfl ⟨rfl, rfl, by decide +kernel, by decide +kernel, by decide +kernel, twoLoc⟩ (pv 0) (elt_between rfl (by decide +kernel)) (fun _ => rfl)))), ?_⟩
    refine ⟨_, rfl, v, _, _, _, _, rfl, .ty "str", dp_ty hd, kit_strT hd, _, rfl, ?_⟩
    have fin : ∀ b, nameD d = b → ∀ H', Same H H' → Q (.bl b) H' := fun b e H' s1 => by
      have z := k H' s1
      rw [e] at z
      exact z
    cases hd with
    | non => exact iteT (iteT (fin _ rfl H (Same.refl H)))
    | int i => exact iteT (iteT (fin _ rfl H (Same.refl H)))
    | bl b => exact iteT (iteT (fin _ rfl H (Same.refl H)))
    | lst q r => exact iteT (iteT (fin _ rfl H (Same.refl H)))
    | tup q r => exact iteT (iteT (fin _ rfl H (Same.refl H)))
    | str x =>
      refine iteF ⟨_, rfl, .str x, x.length, rfl, ⟨Nat.le_trans (show x.length ≤ 1000 from sm) (by decide), rfl⟩, _, _, rfl, rfl, _, rfl, ?_⟩
      have e : nameD (.str x) = (decide (1 ≤ x.length) && (decide (x.length ≤ 8) && x.cps.toList.all (between "a" "z"))) := rfl
      refine ite2 (fun z1 => ?_) (fun z1 => ?_)
      · have z2 : (1 : Int) ≤ (x.length : Nat) := of_decide_eq_true z1
        have e1 : decide (1 ≤ x.length) = true := decide_eq_true (by omega)
        refine ⟨_, _, rfl, rfl, _, rfl, ?_⟩
        by_cases z3 : x.length ≤ 8
        · rw [decide_eq_true (show ((x.length : Nat) : Int) ≤ 8 by omega)]
          refine iteF ⟨_, rfl, x, rfl, tg, fun H2 tb => fin _ ?_ H2 (same_tabbed tb tg)⟩
          rw [e, e1, decide_eq_true z3]
          rfl
        · rw [decide_eq_false (show ¬ ((x.length : Nat) : Int) ≤ 8 by omega)]
          refine iteT (fin _ ?_ H (Same.refl H))
          rw [e, e1, decide_eq_false z3]
          rfl
      · have z2 : ¬ 1 ≤ x.length := fun y => z1 (decide_eq_true (by omega))
        refine ⟨_, rfl, iteT (fin _ ?_ H (Same.refl H))⟩
        rw [e, decide_eq_false z2]
        rfl
end
end Vk
set_option maxHeartbeats 4000000
namespace Vk
open PySem PySem.Spec PyProof.Rows L2 GxR
/-! ### data of a job -/
def headD : PyData → Bool
  | .tuple [a, _] => flatD a
  | _ => true
theorem tup_two {d : PyData} (h : tupleND 2 d = true) : ∃ a b, d = .tuple [a, b] := by
  cases d with
  | tuple ds =>
    have z : (ds.length : Int) = 2 := of_decide_eq_true h
    match ds, z with
    | [a, b], _ => exact ⟨a, b, rfl⟩
    | [], z => cases z
    | [_], z => cases z
    | _ :: _ :: _ :: l, z => simp only [List.length_cons] at z; omega
  | _ => cases h
theorem tup_three {d : PyData} (h : tupleND 3 d = true) : ∃ a b c, d = .tuple [a, b, c] := by
  cases d with
  | tuple ds =>
    have z : (ds.length : Int) = 3 := of_decide_eq_true h
    match ds, z with
    | [a, b, c], _ => exact ⟨a, b, c, rfl⟩
    | [], z => cases z
    | [_], z => cases z
    | [_, _], z => cases z
    | _ :: _ :: _ :: _ :: l, z => simp only [List.length_cons] at z; omega
  | _ => cases h
theorem dp_two {K : PySem.W.Frag} {H : Hp} {v : V} {a b : PyData} (h : Dp K H v (.tuple [a, b])) : ∃ p x y, v = .ref p ∧ SqT K H p [x, y] ∧ Dp K H x a ∧ Dp K H y b := by
  obtain ⟨p, xs, rfl, q, r⟩ := dp_tuple h
  cases r with
  | cons h1 r =>
    cases r with
    | cons h2 r =>
      cases r
      exact ⟨p, _, _, rfl, q, h1, h2⟩
theorem dp_three {K : PySem.W.Frag} {H : Hp} {v : V} {a b c : PyData} (h : Dp K H v (.tuple [a, b, c])) : ∃ p x y z, v = .ref p ∧ SqT K H p [x, y, z] ∧ Dp K H x a ∧ Dp K H y b ∧ Dp K H z c := by
  obtain ⟨p, xs, rfl, q, r⟩ := dp_tuple h
  cases r with
  | cons h1 r =>
    cases r with
    | cons h2 r =>
      cases r with
      | cons h3 r =>
        cases r
        exact ⟨p, _, _, _, rfl, q, h1, h2, h3⟩
def atS (s : Str) : PyData → Bool
  | .str x => decide (x = s)
  | _ => false
theorem scal_S {K : PySem.W.Frag} {H : Hp} {v : V} {d : PyData} {s : Str} (h : Dp K H v d) (f : flatD d = true) : scal v (.str s) = true := by
  cases h with
  | lst q r => cases f
  | tup q r => cases f
  | _ => rfl
theorem eq_S {K : PySem.W.Frag} {H : Hp} {v : V} {d : PyData} {s : Str} (h : Dp K H v d) : decide (v = .str s) = atS s d := by
  cases h with
  | str x =>
    show decide (V.str x = V.str s) = decide (x = s)
    by_cases z : x = s
    · rw [z, decide_eq_true rfl, decide_eq_true rfl]
    · rw [decide_eq_false z, decide_eq_false (fun y => z (V.str.inj y))]
  | non => exact decide_eq_false (fun z => nomatch z)
  | bl b => exact decide_eq_false (fun z => nomatch z)
  | int i => exact decide_eq_false (fun z => nomatch z)
  | lst q r => exact decide_eq_false (fun z => nomatch z)
  | tup q r => exact decide_eq_false (fun z => nomatch z)
def arrivalD : PyData → Bool
  | .tuple [k, x] => if atS "at" k = true then integerD 0 x else (atS "after" k && integerD 1 x)
  | _ => false
def le9 : PyData → Bool
  | .int i => decide (i ≤ 9)
  | _ => false
def jobD : PyData → Bool
  | .tuple [n, a, e] => nameD n && (arrivalD a && (integerD 0 e && le9 e))
  | _ => false
def niceJob : PyData → Prop
  | .tuple [n, a, _] => smallS n ∧ headD a = true
  | _ => True
theorem arr_not {d : PyData} (h : tupleND 2 d = false) : arrivalD d = false := by
  cases d with
  | tuple ds =>
    have z : ¬ (ds.length : Int) = 2 := of_decide_eq_false h
    match ds, z with
    | [a, b], z => exact absurd rfl z
    | [], _ => rfl
    | [_], _ => rfl
    | _ :: _ :: _ :: l, _ => rfl
  | _ => rfl
theorem job_not {d : PyData} (h : tupleND 3 d = false) : jobD d = false := by
  cases d with
  | tuple ds =>
    have z : ¬ (ds.length : Int) = 3 := of_decide_eq_false h
    match ds, z with
    | [a, b, c], z => exact absurd rfl z
    | [], _ => rfl
    | [_], _ => rfl
    | [_, _], _ => rfl
    | _ :: _ :: _ :: _ :: l, _ => rfl
  | _ => rfl
section
variable {P : Program} {w : World} {K : PySem.W.Frag} {mg : Str → Option Value} {base : Heap}
def spArrival (K : PySem.W.Frag) : Sp := fun vs H Q _ => ∃ (v : V) (d : PyData), vs = [v] ∧ Dp K H v d ∧ headD d = true ∧ ∀ H', Same H H' → Q (.bl (arrivalD d)) H'
theorem scArrival : FnScope ["arrival", "kind", "number"] ["arrival"] (defScope sArrival) := ⟨rfl, rfl, rfl, by decide +kernel, rfl, by decide +kernel, by decide +kernel⟩
theorem ok_arrival (D : Df K mg "is_arrival" sArrival ["arrival"]) (T : Cl P w K mg base CX0 1 "is_tuple_of" ["value", "many"] (spTupleOf K)) (I : Cl P w K mg base CX0 1 "is_integer" ["value", "least"] (spInteger K)) : Cl P w K mg base CX0 2 "is_arrival" ["arrival"] (spArrival K) := by
  refine cl0 D scArrival (fun vs H Q E h => ?_) (fun f cdv A outer s H vs Q E hr h => ?_)
  · obtain ⟨v, d, rfl, _⟩ := h
    rfl
  · obtain ⟨v, d, rfl, hd, fl, k⟩ := h
    refine ⟨_, pss_cons (ps_if (pt_not (pt_val (pc T hr (by decide) (pa_cons (pv 0) (pa_cons pe_int pa_nil))))) (pss_one (ps_ret pe_bl)) pss_nil)
      (pss_cons (ps_asg (pv 0) (pg_tup rfl (pgs_cons (pg_name (i := 1) scArrival.nd rfl (.inl rfl)) (pgs_cons (pg_name (i := 2) scArrival.nd rfl (.inl rfl)) pgs_nil))))
      (pss_cons (ps_if (pt_cmpR op_eq (pv 1) pe_str (nomark _)) (pss_one (ps_ret (pc I hr (by decide) (pa_cons (pv 2) (pa_cons pe_int pa_nil))))) pss_nil)
      (pss_one (ps_ret (pe_and (pe_cmpR op_eq (pv 1) pe_str (nomark _)) (pe_one (pc I hr (by decide) (pa_cons (pv 2) (pa_cons pe_int pa_nil))))))))), ?_⟩
    refine ⟨_, rfl, v, d, 2, rfl, hd, _, rfl, ?_⟩
    cases ht : tupleND 2 d with
    | false =>
      refine iteT ?_
      have z := k H (Same.refl H)
      rw [arr_not ht] at z
      exact z
    | true =>
      obtain ⟨a, b, rfl⟩ := tup_two ht
      obtain ⟨p, x, y, rfl, q, ha, hb⟩ := dp_two hd
      have fl2 : flatD a = true := fl
      have kk := k H (Same.refl H)
      have e : arrivalD (.tuple [a, b]) = if atS "at" a = true then integerD 0 b else (atS "after" a && integerD 1 b) := rfl
      rw [e] at kk
      refine iteF ⟨_, rfl, p, _, rfl, q, rfl, _, _, rfl, _, _, rfl, rfl, ?_⟩
      refine ⟨_, rfl, scal_S ha fl2, _, rfl, ?_⟩
      rw [eq_S ha]
      cases h1 : atS "at" a with
      | true =>
        rw [h1] at kk
        exact iteT ⟨_, rfl, y, b, 0, rfl, hb, kk⟩
      | false =>
        rw [h1] at kk
        refine iteF ⟨_, rfl, scal_S ha fl2, _, rfl, ?_⟩
        rw [eq_S ha]
        cases h2 : atS "after" a with
        | true =>
          rw [h2] at kk
          exact iteT ⟨_, rfl, y, b, 1, rfl, hb, kk⟩
        | false =>
          rw [h2] at kk
          exact iteF kk
def spIsJob (K : PySem.W.Frag) (T : Addr) : Sp := fun vs H Q _ => ∃ (v : V) (d : PyData), vs = [v] ∧ Dp K H v d ∧ niceJob d ∧ TabG H T ∧ ∀ H', Same H H' → Q (.bl (jobD d)) H'
theorem scIsJob : FnScope ["job", "name", "arrival", "entry"] ["job"] (defScope sIsJob) := ⟨rfl, rfl, rfl, by decide +kernel, rfl, by decide +kernel, by decide +kernel⟩
theorem ok_isJob {T : Addr} (D : Df K mg "is_job" sIsJob ["job"]) (TU : Cl P w K mg base CX0 1 "is_tuple_of" ["value", "many"] (spTupleOf K)) (I : Cl P w K mg base CX0 1 "is_integer" ["value", "least"] (spInteger K)) (NA : Cl P w K mg base CX0 1 "is_name" ["value"] (spName K T))
    (AR : Cl P w K mg base CX0 2 "is_arrival" ["arrival"] (spArrival K)) : Cl P w K mg base CX0 3 "is_job" ["job"] (spIsJob K T) := by
  refine cl0 D scIsJob (fun vs H Q E h => ?_) (fun f cdv A outer s H vs Q E hr h => ?_)
  · obtain ⟨v, d, rfl, _⟩ := h
    rfl
  · obtain ⟨v, d, rfl, hd, nj, tg, k⟩ := h
    refine ⟨_, pss_cons (ps_if (pt_not (pt_val (pc TU hr (by decide) (pa_cons (pv 0) (pa_cons pe_int pa_nil))))) (pss_one (ps_ret pe_bl)) pss_nil)
      (pss_cons (ps_asg (pv 0) (pg_tup rfl (pgs_cons (pg_name (i := 1) scIsJob.nd rfl (.inl rfl)) (pgs_cons (pg_name (i := 2) scIsJob.nd rfl (.inl rfl)) (pgs_cons (pg_name (i := 3) scIsJob.nd rfl (.inl rfl)) pgs_nil)))))
      (pss_one (ps_ret (pe_and (pc NA hr (by decide) (pa_cons (pv 1) pa_nil)) (pe_and (pc AR hr (by decide) (pa_cons (pv 2) pa_nil)) (pe_and (pc I hr (by decide) (pa_cons (pv 3) (pa_cons pe_int pa_nil)))
        (pe_one (pe_cmpR op_le (pv 3) pe_int (nomark _))))))))), ?_⟩
    refine ⟨_, rfl, v, d, 3, rfl, hd, _, rfl, ?_⟩
    cases ht : tupleND 3 d with
    | false =>
      refine iteT ?_
      have z := k H (Same.refl H)
      rw [job_not ht] at z
      exact z
    | true =>
      obtain ⟨n, a, e, rfl⟩ := tup_three ht
      obtain ⟨p, x, y, z, rfl, q, hn, ha, he⟩ := dp_three hd
      have je : jobD (.tuple [n, a, e]) = (nameD n && (arrivalD a && (integerD 0 e && le9 e))) := rfl
      refine iteF ⟨_, rfl, p, _, rfl, q, rfl, _, _, rfl, _, _, rfl, _, _, rfl, rfl, ?_⟩
      refine ⟨_, rfl, x, n, rfl, hn, nj.1, tg, fun H1 s1 => ⟨_, rfl, ?_⟩⟩
      cases hN : nameD n with
      | false =>
        have z := k H1 s1
        rw [je, hN] at z
        exact iteF z
      | true =>
        refine iteT ⟨_, rfl, y, a, rfl, dp_same s1 ha, nj.2, fun H2 s2 => ⟨_, rfl, ?_⟩⟩
        have s12 := s1.trans s2
        have kk := k H2 s12
        rw [je, hN] at kk
        cases hA : arrivalD a with
        | false =>
          rw [hA] at kk
          exact iteF kk
        | true =>
          rw [hA] at kk
          refine iteT ⟨_, rfl, z, e, 0, rfl, dp_same s12 he, _, rfl, ?_⟩
          cases he with
          | int i =>
            cases hI : integerD 0 (.int i) with
            | false =>
              rw [hI] at kk
              exact iteF kk
            | true =>
              rw [hI] at kk
              exact iteT ⟨_, rfl, _, _, rfl, rfl, kk⟩
          | bl b => exact iteF kk
          | non => exact iteF kk
          | str b => exact iteF kk
          | lst q r => exact iteF kk
          | tup q r => exact iteF kk
end
end Vk
set_option maxHeartbeats 4000000
namespace Vk
open PySem PySem.Spec PyProof.Rows L2 GxR
theorem same_put {H Hc : Hp} {D : Addr} {o : HO} (s : Same H Hc) (n : H D = none) : Same H (upd Hc D o) := by
  have ne : ∀ {b : Addr} {u : HO}, H b = some u → b ≠ D := fun e => ne_of_none e n
  refine ⟨fun b u e nt => ?_, fun b e => ?_, fun P ⟨ps, e, t⟩ => ?_⟩
  · rw [upd_ne (ne e)]
    exact s.at_ b u e nt
  · by_cases z : b = D
    · rw [z] at e
      exact absurd n e
    · rw [upd_ne z]
      exact s.has b e
  · obtain ⟨qs, f, u⟩ := s.tab P ⟨ps, e, t⟩
    exact ⟨qs, by rw [upd_ne (ne e)]; exact f, u⟩
/-- a valid job's parts -/
theorem job_parts {d : PyData} (h : jobD d = true) : ∃ (n k : Str) (t e : Int), d = .tuple [.str n, .tuple [.str k, .int t], .int e] ∧ nameD (.str n) = true ∧ (k = "at" ∨ k = "after") := by
  have ht : tupleND 3 d = true := by
    cases h2 : tupleND 3 d with
    | true => rfl
    | false =>
      rw [job_not h2] at h
      cases h
  obtain ⟨n, a, e, rfl⟩ := tup_three ht
  obtain ⟨h1, h2⟩ := Bool.and_eq_true_iff.mp (show (nameD n && (arrivalD a && (integerD 0 e && le9 e))) = true from h)
  obtain ⟨h3, h4⟩ := Bool.and_eq_true_iff.mp h2
  obtain ⟨h5, _⟩ := Bool.and_eq_true_iff.mp h4
  have hta : tupleND 2 a = true := by
    cases h6 : tupleND 2 a with
    | true => rfl
    | false =>
      rw [arr_not h6] at h3
      cases h3
  obtain ⟨k, x, rfl⟩ := tup_two hta
  have h7 : (if atS "at" k = true then integerD 0 x else (atS "after" k && integerD 1 x)) = true := h3
  have intOf : ∀ {m : Int} {q : PyData}, integerD m q = true → ∃ i, q = .int i := fun {m q} z => by
    cases q with
    | int i => exact ⟨i, rfl⟩
    | _ => cases z
  have strOf : ∀ {s : Str} {q : PyData}, atS s q = true → q = .str s := fun {s q} z => by
    cases q with
    | str x => exact congrArg PyData.str (of_decide_eq_true z)
    | _ => cases z
  obtain ⟨e', rfl⟩ := intOf h5
  cases n with
  | str nm =>
    by_cases h8 : atS "at" k = true
    · rw [if_pos h8] at h7
      obtain ⟨t, rfl⟩ := intOf h7
      have z := strOf h8
      subst z
      exact ⟨nm, _, t, e', rfl, h1, .inl rfl⟩
    · rw [if_neg h8] at h7
      obtain ⟨h9, h10⟩ := Bool.and_eq_true_iff.mp h7
      obtain ⟨t, rfl⟩ := intOf h10
      have z := strOf h9
      subst z
      exact ⟨nm, _, t, e', rfl, h1, .inr rfl⟩
  | _ => cases h1
/-- an arrival before so many finishes -/
def befA (m : Int) : PyData → Bool
  | .tuple [k, .int t] => atS "at" k || decide (t < m)
  | _ => false
def arrD : PyData → PyData
  | .tuple [_, a, _] => a
  | d => d
def waitsD (js : List PyData) (d : PyData) : Bool := match arrD d with
  | .tuple [k, .int m] => !atS "at" k && decide ((((js.map arrD).countP (befA m) : Nat) : Int) < m)
  | _ => false
theorem nice_of {d : PyData} (h : jobD d = true) : niceJob d := by
  obtain ⟨n, k, t, e, rfl, hn, _⟩ := job_parts h
  refine ⟨?_, rfl⟩
  have z : (decide (1 ≤ n.length) && (decide (n.length ≤ 8) && n.cps.toList.all (between "a" "z"))) = true := hn
  have z2 := of_decide_eq_true (Bool.and_eq_true_iff.mp (Bool.and_eq_true_iff.mp z).2).1
  show n.length ≤ 1000
  omega
section
variable {P : Program} {w : World} {K : PySem.W.Frag} {mg : Str → Option Value} {base : Heap}
def spWaits (K : PySem.W.Frag) : Sp := fun vs H Q _ => ∃ (v u : V) (d : PyData) (js : List PyData), vs = [v, u] ∧ Dp K H v d ∧ Dp K H u (.tuple js) ∧ jobD d = true ∧ js.all jobD = true ∧ js.length ≤ 1000 ∧ ∀ H', Same H H' → Q (.bl (waitsD js d)) H'
theorem scWaits : FnScope ["job", "jobs", "kind", "number", "arrivals", "ahead", "other"] ["job", "jobs"] (defScope sWaits) := ⟨rfl, rfl, rfl, by decide +kernel, rfl, by decide +kernel, by decide +kernel⟩
theorem ok_waits (D : Df K mg "waits_forever" sWaits ["job", "jobs"]) (B : Blt mg) : Cl P w K mg base CX0 1 "waits_forever" ["job", "jobs"] (spWaits K) := by
  refine cl0 D scWaits (fun vs H Q E h => ?_) (fun f cdv A outer s H vs Q E hr h => ?_)
  · obtain ⟨v, u, d, js, rfl, _⟩ := h
    rfl
  · obtain ⟨v, u, d, js, rfl, hd, hj, jd, okj, l1000, k⟩ := h
    refine ⟨_, pss_cons (ps_asg (pe_ix ix_tup (pv 0) pe_int (fun _ _ => rfl)) (pg_tup rfl (pgs_cons (pg_name (i := 2) scWaits.nd rfl (.inl rfl)) (pgs_cons (pg_name (i := 3) scWaits.nd rfl (.inr rfl)) pgs_nil))))
      (pss_cons (ps_if (pt_cmpR op_eq (pv 2) pe_str (nomark _)) (pss_one (ps_ret pe_bl)) pss_nil)
      (pss_cons (ps_setLc (i := 4) (own := [("other", 6)]) (g := gName 6) (tt := tYes) (te := tOp (rIxT K) (tVar 6) (tC (.int 1))) rfl scWaits.nd rfl rfl (sw_true rfl rfl rfl (by decide +kernel)) (pi_tup (pv 1)) (blkOk_by (own := [("other", 6)]) (N := ["job", "jobs", "kind", "number", "arrivals", "ahead", "other"]) (sc := defScope sWaits) (by decide +kernel))
        (fun _ _ _ _ _ => pg_name (i := 6) scWaits.nd rfl (Or.inl rfl)) (fun _ _ _ _ _ => pts_nil) (fun _ _ _ _ _ => pe_ix ix_tup (pv 6) pe_int (fun _ _ => rfl)))
      (pss_cons (ps_setLc (i := 5) (own := [("other", 6)]) (g := gName 6) (tt := tOr (tTest (tOp rEq (tOp (rIxT K) (tVar 6) (tC (.int 0))) (tC (.str ("at" : Str))))) (tTest (tOp (rI0 fun i j => .bl (decide (i < j))) (tOp (rIxT K) (tVar 6) (tC (.int 1))) (tVar 3)))) (te := tVar 6) rfl scWaits.nd rfl rfl (sw_true rfl rfl rfl (by decide +kernel)) (pi_list (pv 4)) (blkOk_by (own := [("other", 6)]) (N := ["job", "jobs", "kind", "number", "arrivals", "ahead", "other"]) (sc := defScope sWaits) (by decide +kernel))
        (fun _ _ _ _ _ => pg_name (i := 6) scWaits.nd rfl (Or.inl rfl)) (fun _ _ _ _ _ => pts_one (PW.pt (pw_or (pt_cmpR op_eq (pe_ix ix_tup (pv 6) pe_int (fun _ _ => rfl)) pe_str (nomark _)) (pw_or1 (pt_cmpR op_lt (pe_ix ix_tup (pv 6) pe_int (fun _ _ => rfl)) (pv 3) (nomark _))))))
        (fun _ _ _ _ _ => pv 6))
      (pss_one (ps_ret (pe_cmpR op_lt (pe_callB call_len_seq (by rfl) B.len PySem.boot_len (pa_cons (pv 5) pa_nil)) (pv 3) (nomark _))))))), ?_⟩
    obtain ⟨n, kd, t, e, rfl, hn, hk⟩ := job_parts jd
    obtain ⟨p, x, y, z, rfl, q, dn, da, de⟩ := dp_three hd
    obtain ⟨pa, kv, tv, rfl, qa, dk, dt⟩ := dp_two da
    have ek := dp_str dk
    subst ek
    have et := dp_int dt
    subst et
    obtain ⟨pj, xs, rfl, qj, rj⟩ := dp_tuple hj
    have xl := dps_len rj
    have we : waitsD js (.tuple [.str n, .tuple [.str kd, .int t], .int e]) = (!decide (kd = "at") && decide ((((js.map arrD).countP (befA t) : Nat) : Int) < t)) := rfl
    refine ⟨_, rfl, p, _, _, _, rfl, rfl, q, rfl, pa, _, rfl, qa, rfl, _, _, rfl, _, _, rfl, rfl, ?_⟩
    refine ⟨_, rfl, rfl, _, rfl, ?_⟩
    have eS := eq_S (s := ("at" : Str)) dk
    rw [eS]
    have kk : ∀ H', Same H H' → ∀ b, waitsD js (.tuple [.str n, .tuple [.str kd, .int t], .int e]) = b → Q (.bl b) H' := fun H' s1 b e => by
      have z := k H' s1
      rw [e] at z
      exact z
    cases hat : atS "at" (.str kd) with
    | true =>
      refine iteT (kk H (Same.refl H) _ ?_)
      rw [we, show decide (kd = "at") = true from hat]
      rfl
    | false =>
      refine iteF ?_
      -- arrivals
      refine ⟨_, rfl, pj, rfl, ⟨_, qj⟩, fun D1 nD1 => ?_⟩
      refine lc_it (walk_tup (K := K) (a := pj) (xs := xs)) (fun m Hc => ∃ acc, Same H Hc ∧ Hc D1 = some (.lst acc) ∧ DpAll K H acc ((js.map arrD).take m))
        ⟨[], same_new nD1, upd_same, .nil⟩ (fun m Hc _ ⟨acc, s1, _⟩ => same_seqT s1 qj) ?_ ?_
      · rintro m y1 Hc Hc2 hm ⟨acc, s1, hD, dac⟩ ⟨rfl, hy1⟩
        obtain ⟨e1, he1, de1⟩ := dps_getV rj hy1
        obtain ⟨n1, k1, t1, x1, rfl, _, _⟩ := job_parts (List.all_eq_true.mp okj e1 (List.mem_of_getElem? he1))
        obtain ⟨p1, v1, v2, v3, rfl, q1, dv1, dv2, dv3⟩ := dp_three de1
        refine ⟨rfl, ?_⟩
        refine ⟨_, rfl, p1, _, _, _, rfl, rfl, same_seqT s1 q1, rfl, acc, hD, ?_, acc ++ [v2], same_put s1 nD1, upd_same, ?_⟩
        · have z := dps_len dac
          rw [List.length_take, List.length_map] at z
          exact Nat.lt_of_le_of_lt (show acc.length ≤ 1000 by omega) (by decide)
        · have e2 : (js.map arrD).take (m + 1) = (js.map arrD).take m ++ [.tuple [.str k1, .int t1]] := by
            rw [List.take_add_one, List.getElem?_map, he1]
            rfl
          rw [e2]
          exact dps_app dac (.cons dv2 .nil)
      · rintro Hc ⟨acc, s1, hD, dac⟩
        rw [show (js.map arrD).take xs.length = js.map arrD from List.take_of_length_le (by rw [List.length_map]; omega)] at dac
        have al := dps_len dac
        rw [List.length_map] at al
        -- ahead
        refine ⟨_, rfl, D1, rfl, ⟨_, SqL.of hD⟩, fun D2 nD2 => ?_⟩
        have n21 : D1 ≠ D2 := ne_of_none hD nD2
        refine lc_it (walk_list (K := K) (a := D1) (xs := acc)) (fun m Hd => ∃ ac2, Same Hc Hd ∧ Hd D2 = some (.lst ac2) ∧ ac2.length = ((js.map arrD).take m).countP (befA t))
          ⟨[], same_new nD2, upd_same, rfl⟩ (fun m Hd _ ⟨ac2, s2, _⟩ => SqL.of (s2.at hD)) ?_ ?_
        · rintro m y1 Hd0 Hd hm ⟨ac2, s2, hD2, lc2⟩ ⟨rfl, hy1⟩
          obtain ⟨e1, he1, de1⟩ := dps_getV dac hy1
          have he1' := he1
          rw [List.getElem?_map] at he1'
          obtain ⟨j1, hj1, rfl⟩ := Option.map_eq_some_iff.mp he1'
          obtain ⟨n1, k1, t1, x1, rfl, _, hk1⟩ := job_parts (List.all_eq_true.mp okj j1 (List.mem_of_getElem? hj1))
          obtain ⟨p1, v1, v2, rfl, q1, dv1, dv2⟩ := dp_two (show Dp K H y1 (.tuple [.str k1, .int t1]) from de1)
          have ek1 := dp_str dv1
          subst ek1
          have et1 := dp_int dv2
          subst et1
          have q2 := same_seqT (s1.trans s2) q1
          have e2 : ((js.map arrD).take (m + 1)).countP (befA t) = ((js.map arrD).take m).countP (befA t) + (if befA t (.tuple [.str k1, .int t1]) = true then 1 else 0) := by
            rw [List.take_add_one, he1]
            show ((js.map arrD).take m ++ [PyData.tuple [.str k1, .int t1]]).countP (befA t) = _
            rw [List.countP_append, List.countP_singleton]
          have bl : befA t (.tuple [.str k1, .int t1]) = (decide (k1 = "at") || decide (t1 < t)) := rfl
          have small : ac2.length < sizeLine := by
            have z : ((js.map arrD).take m).countP (befA t) ≤ ((js.map arrD).take m).length := List.countP_le_length
            rw [List.length_take, List.length_map] at z
            exact Nat.lt_of_le_of_lt (show ac2.length ≤ 1000 by omega) (by decide)
          have yes : befA t (.tuple [.str k1, .int t1]) = true → ∃ ac, Same Hc (upd Hd D2 (.lst (ac2 ++ [V.ref p1]))) ∧ (upd Hd D2 (.lst (ac2 ++ [V.ref p1]))) D2 = some (.lst ac) ∧ ac.length = ((js.map arrD).take (m + 1)).countP (befA t) := fun hb => by
            refine ⟨_, same_put s2 nD2, upd_same, ?_⟩
            rw [e2, if_pos hb, List.length_append, List.length_singleton, lc2]
          have no : befA t (.tuple [.str k1, .int t1]) = false → ∃ ac, Same Hc Hd ∧ Hd D2 = some (.lst ac) ∧ ac.length = ((js.map arrD).take (m + 1)).countP (befA t) := fun hb => by
            refine ⟨ac2, s2, hD2, ?_⟩
            rw [e2, if_neg (by rw [hb]; exact Bool.false_ne_true), lc2]
            rfl
          refine ⟨rfl, _, rfl, p1, _, _, _, rfl, rfl, q2, rfl, rfl, _, rfl, ?_⟩
          rw [eq_S (s := ("at" : Str)) dv1]
          cases h1 : atS "at" (.str k1) with
          | true => exact iteT (iteT ⟨_, rfl, ac2, hD2, small, yes (by rw [bl, show decide (k1 = "at") = true from h1]; rfl)⟩)
          | false =>
            refine iteF ⟨_, rfl, p1, _, _, _, rfl, rfl, q2, rfl, _, rfl, _, _, rfl, rfl, _, rfl, ?_⟩
            cases h2 : decide (t1 < t) with
            | true => exact iteT ⟨_, rfl, ac2, hD2, small, yes (by rw [bl, h2, Bool.or_true])⟩
            | false => exact iteF (no (by rw [bl, show decide (k1 = "at") = false from h1, h2]; rfl))
        · rintro Hd ⟨ac2, s2, hD2, lc2⟩
          rw [show (js.map arrD).take acc.length = js.map arrD from List.take_of_length_le (by rw [List.length_map]; omega)] at lc2
          refine ⟨_, rfl, D2, ac2, rfl, .inl (SqL.of hD2), _, rfl, _, _, rfl, rfl, ?_⟩
          refine kk Hd (s1.trans s2) _ ?_
          rw [we, show decide (kd = "at") = false from hat, lc2]
          rfl
end
end Vk
set_option maxHeartbeats 4000000
namespace Vk
open PySem PySem.Spec PyProof.Rows L2 GxR
abbrev sJobsInit : Stmt := inClass (top 7) 0
def nameOf : PyData → Str
  | .tuple [.str n, _, _] => n
  | _ => ""
def badAt (js : List PyData) (i : Nat) : Bool := match js[i]? with
  | some d => !jobD d || ((js.take i).map nameOf).any (fun y => y == nameOf d)
  | none => false
def waitAt (js : List PyData) (i : Nat) : Bool := match js[i]? with
  | some d => waitsD js d
  | none => false
def eachPlace (js : List PyData) : Option Nat := (List.range js.length).find? (badAt js)
def waitPlace (js : List PyData) : Option Nat := (List.range js.length).find? (waitAt js)
/-- the place of the first fault of jobs -/
def jobsPlace : PyData → Option Int
  | .tuple js => match eachPlace js with
    | some i => some (i : Int)
    | none => match waitPlace js with
      | some i => some (i : Int)
      | none => none
  | _ => some 0
def niceJobs : PyData → Prop
  | .tuple js => (∀ d ∈ js, niceJob d) ∧ js.length ≤ 900
  | _ => True
theorem find_at {n i : Nat} {p : Nat → Bool} (h : i < n) (hp : p i = true) (ok : ∀ j < i, p j = false) : (List.range n).find? p = some i := by
  rw [List.find?_range_eq_some]
  refine ⟨hp, List.mem_range.mpr h, fun j hj => ?_⟩
  rw [ok j hj]
  rfl
theorem find_no {n : Nat} {p : Nat → Bool} (ok : ∀ j < n, p j = false) : (List.range n).find? p = none := by
  rw [List.find?_eq_none]
  intro j hj
  rw [ok j (List.mem_range.mp hj)]
  exact Bool.false_ne_true
theorem inV_strs {n : Str} : ∀ ns : List Str, inV (.str n) (ns.map V.str) = ns.any (fun y => y == n)
  | [] => rfl
  | x :: ns => by
    have ih := inV_strs (n := n) ns
    show ((x == n) || inV (.str n) (ns.map V.str)) = ((x == n) || ns.any (fun y => y == n))
    rw [ih]
theorem flat_strs (ns : List Str) : (ns.map V.str).all flatV = true := by
  rw [List.all_eq_true]
  intro x hx
  obtain ⟨y, _, rfl⟩ := List.mem_map.mp hx
  rfl
/-- where no job is bad all are valid -/
theorem each_all {js : List PyData} (ok : ∀ j < js.length, badAt js j = false) : js.all jobD = true := by
  rw [List.all_eq_true]
  intro x hx
  obtain ⟨j, hj, e⟩ := List.getElem_of_mem hx
  have z := ok j hj
  unfold badAt at z
  rw [List.getElem?_eq_getElem hj, e] at z
  cases h : jobD x with
  | true => rfl
  | false =>
    have z' : (!jobD x || ((js.take j).map nameOf).any (fun y => y == nameOf x)) = false := z
    rw [h] at z'
    cases z'
section
variable {P : Program} {w : World} {K : PySem.W.Frag} {mg : Str → Option Value} {base : Heap}
theorem scJobsInit : FnScope ["self", "place"] ["self", "place"] (defScope sJobsInit) := ⟨rfl, rfl, rfl, by decide +kernel, rfl, by decide +kernel, by decide +kernel⟩
theorem ok_jobsInit {C fI : Addr} {fd : FuncData} (F : Fun K "__init__" "NoJobs.__init__" sJobsInit fI fd) (T : OexC K C) (no : PySem.W.findIn K (.ref C) "place" = some none) : FnOk P w K mg base CX0 1 fI fd ["self", "place"] (spIni C "place") := by
  refine F.ok scJobsInit (fun vs H Q E h => ?_) (fun cdv A outer s H vs Q E hr h => ?_)
  · obtain ⟨a, v, rfl, _⟩ := h
    rfl
  · obtain ⟨a, v, rfl, ha, k⟩ := h
    refine ⟨_, pss_one (ps_ost (pv 0) (pv 1)), ?_⟩
    exact ⟨_, rfl, _, rfl, a, C, rfl, T, no, .inl ⟨ha, fun dx n1 n2 => k dx n1 n2⟩⟩
theorem erc_jobs {C : Addr} (g : mg "NoJobs" = some (.ref C)) (T : OexC K C) (no : PySem.W.findIn K (.ref C) "place" = some none) (N : Nit K "NoJobs" "NoJobs.__init__" "place" sJobsInit C) : ErC P w K mg base "NoJobs" "place" C := by
  obtain ⟨fI, fd, h1, h2, h3, h4⟩ := N.ex
  exact ⟨g, T, fI, fd, h1, h2, h4, ok_jobsInit h3 T no⟩
def spEach (K : PySem.W.Frag) (T C : Addr) : Sp := fun vs H Q E => ∃ (v : V) (js : List PyData), vs = [v] ∧ Dp K H v (.tuple js) ∧ (∀ d ∈ js, niceJob d) ∧ js.length ≤ 900 ∧ TabG H T ∧ (eachPlace js = none → ∀ H', Same H H' → Q .non H') ∧
  (∀ i, eachPlace js = some i → ∀ (dx : Addr) (H' : Hp), Same H H' → H' dx = some (.xd [(("place" : Str), .int (i : Nat))]) → E (.ref C) (some dx) H')
theorem scEach : FnScope ["jobs", "names", "place", "job"] ["jobs"] (defScope sEach) := ⟨rfl, rfl, rfl, by decide +kernel, rfl, by decide +kernel, by decide +kernel⟩
theorem ok_each {T C : Addr} (D : Df K mg "check_each_job" sEach ["jobs"]) (B : Blt mg) (ER : ErC P w K mg base "NoJobs" "place" C) (J : Cl P w K mg base CX0 3 "is_job" ["job"] (spIsJob K T)) : Cl P w K mg base (L2.CX P w) 4 "check_each_job" ["jobs"] (spEach K T C) := by
  refine clX D scEach (fun vs H Q E h => ?_) (fun f cdv A outer s H vs Q E hr h => ?_)
  · obtain ⟨v, js, rfl, _⟩ := h
    rfl
  · obtain ⟨v, js, rfl, hd, nj, l900, tg, kN, kE⟩ := h
    refine ⟨_, pss_cons (ps_set (i := 1) scEach.nd rfl (Or.inl rfl) (pe_lst pa_nil))
      (pss_one (ps_for (passes_of rfl) rfl (pi_enumT B.enum (pa_cons (pv 0) pa_nil)) (pg_tup rfl (pgs_cons (pg_name (i := 2) scEach.nd rfl (.inl rfl)) (pgs_cons (pg_name (i := 3) scEach.nd rfl (.inl rfl)) pgs_nil)))
        (pss_cons (ps_if (PW.pt (pw_or (pt_not (pt_val (pc J hr (by decide) (pa_cons (pv 3) pa_nil)))) (pw_or1 (pt_cmpR op_in_seq (pe_ix ix_tup (pv 3) pe_int (fun _ _ => rfl)) (pv 1) (by rfl))))) (pss_one (ps_raiseE ER rfl hr (by decide) (takes_of rfl rfl rfl rfl) (pv 2))) pss_nil)
        (pss_one (ps_expr (pe_bm PySem.F.plainAttrs_list PySem.F.slot_list_append PySem.F.type_list_append mt_append (pv 1) (pa_cons (pe_ix ix_tup (pv 3) pe_int (fun _ _ => rfl)) pa_nil))))))), ?_⟩
    obtain ⟨pj, xs, rfl, qj, rj⟩ := dp_tuple hd
    have xl := dps_len rj
    refine ⟨(by show 0 ≤ sizeLine; decide), fun l nl => ?_⟩
    refine ⟨_, rfl, pj, xs, rfl, same_seqT (same_new nl) qj, for_it (walk_enumT (K := K) (a := pj) (xs := xs)) (fun i σ H' => ∃ (u2 u3 : Option V), σ = [some (.ref pj), some (.ref l), u2, u3] ∧ Same H H' ∧ H' l = some (.lst (((js.take i).map nameOf).map V.str)) ∧ ∀ j < i, badAt js j = false)
      ⟨none, none, rfl, same_new nl, upd_same, fun j hj => absurd hj (Nat.not_lt_zero _)⟩ (fun i σ H' _ ⟨_, _, _, s1, _⟩ => same_seqT s1 qj) ?_ ?_⟩
    · rintro i v1 σ H1 H2 hi ⟨u2, u3, rfl, s1, hl, ok⟩ ⟨TT, x1, y1, rfl, nT, rfl, ex, ey⟩
      cases ex
      obtain ⟨d1, hd1, dp1⟩ := dps_getV rj ey
      have s2 := s1.trans (same_new (o := .tup [V.int (i : Nat), y1]) nT)
      have hl2 : upd H1 TT (.tup [V.int (i : Nat), y1]) l = some (.lst (((js.take i).map nameOf).map V.str)) := (same_new nT).at hl
      refine ⟨TT, _, rfl, SqT.of upd_same, rfl, _, _, rfl, _, _, rfl, rfl, ?_⟩
      have ni := nj d1 (List.mem_of_getElem? hd1)
      refine ⟨_, rfl, y1, d1, rfl, dp_same s2 dp1, ni, s2.tab T tg, fun H3 s3 => ⟨_, rfl, ?_⟩⟩
      have s23 := s2.trans s3
      have bad : badAt js i = (!jobD d1 || ((js.take i).map nameOf).any (fun y => y == nameOf d1)) := by
        unfold badAt
        rw [hd1]
      cases hj : jobD d1 with
      | false =>
        refine iteT (iteT ⟨_, rfl, ?_⟩)
        refine raise_go fun dx H4 s4 _ hx => kE i ?_ dx H4 (s23.trans s4) hx
        exact find_at (by omega) (by rw [bad, hj]; rfl) ok
      | true =>
        obtain ⟨n1, k1, t1, x1, rfl, _, _⟩ := job_parts hj
        obtain ⟨p1, v1, v2, v3, rfl, q1, dv1, dv2, dv3⟩ := dp_three dp1
        have en := dp_str dv1
        subst en
        refine iteF ⟨_, rfl, p1, _, _, _, rfl, rfl, same_seqT s23 q1, rfl, _, rfl, l, _, rfl, .inl (SqL.of (s3.at hl2)), rfl, flat_strs _, _, rfl, ?_⟩
        show if inV (.str n1) (((js.take i).map nameOf).map V.str) = true then _ else _
        rw [inV_strs]
        cases hin : ((js.take i).map nameOf).any (fun y => y == n1) with
        | true =>
          refine iteT ⟨_, rfl, ?_⟩
          refine raise_go fun dx H4 s4 _ hx => kE i ?_ dx H4 (s23.trans s4) hx
          exact find_at (by omega) (by rw [bad, hj]; exact hin) ok
        | false =>
          have e2 : ((js.take (i + 1)).map nameOf).map V.str = ((js.take i).map nameOf).map V.str ++ [V.str n1] := by
            rw [List.take_add_one, hd1]
            simp [nameOf]
          refine iteF ⟨_, rfl, .inl ⟨rfl, _, SqL.of (s3.at hl2)⟩, _, rfl, p1, _, _, _, rfl, rfl, same_seqT s23 q1, rfl, l, _, _, rfl, rfl, s3.at hl2, ?_, _, _, rfl, same_put s23 nl, ?_, fun j hj2 => ?_⟩
          · rw [List.length_map, List.length_map, List.length_take]
            exact Nat.lt_of_le_of_lt (show min i js.length ≤ 900 by omega) (by decide)
          · rw [e2, upd_same]
          · by_cases z : j = i
            · subst z
              rw [bad, hj]
              exact hin
            · exact ok j (by omega)
    · rintro σ H1 ⟨u2, u3, rfl, s1, hl, ok⟩
      exact kN (find_no fun j hj => ok j (by omega)) H1 s1
def spCheck (K : PySem.W.Frag) (T C : Addr) : Sp := fun vs H Q E => ∃ (v : V) (d : PyData), vs = [v] ∧ Dp K H v d ∧ niceJobs d ∧ TabG H T ∧ (jobsPlace d = none → ∀ H', Same H H' → Q .non H') ∧
  (∀ i, jobsPlace d = some i → ∀ (dx : Addr) (H' : Hp), Same H H' → H' dx = some (.xd [(("place" : Str), .int i)]) → E (.ref C) (some dx) H')
theorem scCheck : FnScope ["jobs", "place", "job"] ["jobs"] (defScope sCheck) := ⟨rfl, rfl, rfl, by decide +kernel, rfl, by decide +kernel, by decide +kernel⟩
theorem ok_check {T C : Addr} (D : Df K mg "check_jobs" sCheck ["jobs"]) (B : Blt mg) (ER : ErC P w K mg base "NoJobs" "place" C) (EA : Cl P w K mg base (L2.CX P w) 4 "check_each_job" ["jobs"] (spEach K T C)) (W : Cl P w K mg base CX0 1 "waits_forever" ["job", "jobs"] (spWaits K)) :
    Cl P w K mg base (L2.CX P w) 5 "check_jobs" ["jobs"] (spCheck K T C) := by
  refine clX D scCheck (fun vs H Q E h => ?_) (fun f cdv A outer s H vs Q E hr h => ?_)
  · obtain ⟨v, d, rfl, _⟩ := h
    rfl
  · obtain ⟨v, d, rfl, hd, nj, tg, kN, kE⟩ := h
    obtain ⟨fE, fdE, mE, kpE, bE, FE⟩ := EA.ex
    refine ⟨_, pss_cons (ps_if (pt_not (pt_val (pe_callB call_isi (by rfl) B.isi (by decide +kernel) (pa_cons (pv 0) (pa_cons (pe_bltn (v := .ty "tuple") (u := .type "tuple") (by rfl) B.tuple (by decide +kernel) rfl) pa_nil))))) (pss_one (ps_raiseE ER rfl hr (by decide) (takes_of rfl rfl rfl rfl) pe_int)) pss_nil)
      (pss_cons (ps_expr (pe_call (E := E) FE hr rfl mE kpE bE .nil (passes_call (W := fun cls d _ H => E cls d H) (takes_of rfl rfl rfl rfl) (fun _ _ _ _ h => h)) (pa_cons (pv 0) pa_nil)))
      (pss_one (ps_for (passes_of rfl) rfl (pi_enumT B.enum (pa_cons (pv 0) pa_nil)) (pg_tup rfl (pgs_cons (pg_name (i := 1) scCheck.nd rfl (.inl rfl)) (pgs_cons (pg_name (i := 2) scCheck.nd rfl (.inl rfl)) pgs_nil)))
        (pss_one (ps_if (pt_val (pc W hr (by decide) (pa_cons (pv 2) (pa_cons (pv 0) pa_nil)))) (pss_one (ps_raiseE ER rfl hr (by decide) (takes_of rfl rfl rfl rfl) (pv 1))) pss_nil))))), ?_⟩
    refine ⟨_, rfl, v, _, _, _, _, rfl, .ty "tuple", dp_ty hd, kit_tup hd, _, rfl, ?_⟩
    cases htup : isTupD d with
    | false =>
      have e2 : jobsPlace d = some 0 := by
        cases d with
        | tuple ds => cases htup
        | _ => rfl
      refine iteT ?_
      exact raise_go fun dx H2 s1 _ hx => kE 0 e2 dx H2 s1 hx
    | true =>
      obtain ⟨js, rfl⟩ : ∃ js, d = .tuple js := by
        cases d with
        | tuple ls => exact ⟨ls, rfl⟩
        | _ => cases htup
      refine iteF ⟨_, rfl, v, js, rfl, hd, nj.1, nj.2, tg, fun e1 H1 s1 => ?_, fun i e1 dx H1 s1 hx => ?_⟩
      · have e2 : jobsPlace (.tuple js) = match waitPlace js with
          | some i => some (i : Int)
          | none => none := by
          show (match eachPlace js with
            | some i => some (i : Int)
            | none => match waitPlace js with
              | some i => some (i : Int)
              | none => none) = _
          rw [e1]
        have okall := each_all (js := js) (fun j hj => by
          have z := List.find?_eq_none.mp e1 j (List.mem_range.mpr hj)
          exact Bool.eq_false_iff.mpr z)
        obtain ⟨pj, xs, rfl, qj, rj⟩ := dp_tuple hd
        have xl := dps_len rj
        refine ⟨_, rfl, pj, xs, rfl, same_seqT s1 qj, for_it (walk_enumT (K := K) (a := pj) (xs := xs)) (fun i σ H' => ∃ (u1 u2 : Option V), σ = [some (.ref pj), u1, u2] ∧ Same H H' ∧ ∀ j < i, waitAt js j = false)
          ⟨none, none, rfl, s1, fun j hj => absurd hj (Nat.not_lt_zero _)⟩ (fun i σ H' _ ⟨_, _, _, s1, _⟩ => same_seqT s1 qj) ?_ ?_⟩
        · rintro i v1 σ H2 H3 hi ⟨u1, u2, rfl, s2, ok⟩ ⟨TT, x1, y1, rfl, nT, rfl, ex, ey⟩
          cases ex
          obtain ⟨d1, hd1, dp1⟩ := dps_getV rj ey
          have s3 := s2.trans (same_new (o := .tup [V.int (i : Nat), y1]) nT)
          refine ⟨TT, _, rfl, SqT.of upd_same, rfl, _, _, rfl, _, _, rfl, rfl, ?_⟩
          have wt : waitAt js i = waitsD js d1 := by
            unfold waitAt
            rw [hd1]
          refine ⟨_, rfl, _, rfl, y1, _, d1, js, rfl, dp_same s3 dp1, dp_same s3 hd, List.all_eq_true.mp okall d1 (List.mem_of_getElem? hd1), okall, Nat.le_trans nj.2 (by decide), fun H4 s4 => ⟨_, rfl, ?_⟩⟩
          cases hw : waitsD js d1 with
          | true =>
            refine iteT ⟨_, rfl, ?_⟩
            refine raise_go fun dx H5 s5 _ hx => kE (i : Int) ?_ dx H5 ((s3.trans s4).trans s5) hx
            have z : waitPlace js = some i := find_at (by omega) (by rw [wt, hw]) ok
            rw [e2, z]
          | false =>
            refine iteF ⟨_, _, rfl, s3.trans s4, fun j hj2 => ?_⟩
            by_cases z : j = i
            · subst z
              rw [wt, hw]
            · exact ok j (by omega)
        · rintro σ H2 ⟨u1, u2, rfl, s2, ok⟩
          refine kN ?_ H2 s2
          have z : waitPlace js = none := find_no fun j hj => ok j (by omega)
          rw [e2, z]
      · refine kE (i : Int) ?_ dx H1 s1 hx
        show (match eachPlace js with
          | some i => some (i : Int)
          | none => match waitPlace js with
            | some i => some (i : Int)
            | none => none) = _
        rw [e1]
end
end Vk
set_option maxHeartbeats 4000000
namespace Vk
open PySem PySem.Spec PyProof.Rows L2 GxR
def abc : Str := "abcdefghijklmnopqrstuvwxyz"
theorem lt_one {a b : Nat} : ([a] < [b]) ↔ a < b := by
  constructor
  · intro h
    cases h with
    | rel h => exact h
    | cons h => cases h
  · intro h
    exact List.Lex.rel h
theorem between_az (c : Nat) : between "a" "z" c = decide (97 ≤ c ∧ c ≤ 122) := by
  have e1 : (("a" : Str)).cps.toList = [97] := by decide +kernel
  have e2 : (("z" : Str)).cps.toList = [122] := by decide +kernel
  unfold between
  rw [e1, e2]
  by_cases h1 : c < 97
  · rw [decide_eq_true (lt_one.mpr h1), decide_eq_false (show ¬ (97 ≤ c ∧ c ≤ 122) by omega)]
    rfl
  · by_cases h2 : 122 < c
    · rw [decide_eq_true (lt_one.mpr h2), decide_eq_false (show ¬ (97 ≤ c ∧ c ≤ 122) by omega), Bool.not_true, Bool.and_false]
    · rw [decide_eq_false (fun h => h1 (lt_one.mp h)), decide_eq_false (fun h => h2 (lt_one.mp h)), decide_eq_true (show 97 ≤ c ∧ c ≤ 122 by omega)]
      rfl
theorem abc_list : abc.cps.toList = List.range' 97 26 := by decide +kernel
theorem mem_abc (c : Nat) : decide (c ∈ abc.cps.toList) = between "a" "z" c := by
  rw [between_az, abc_list]
  congr 1
  rw [List.mem_range'_1]
  exact propext ⟨fun h => by omega, fun h => by omega⟩
theorem b2_at {k : Str} : (if decide (k = "after") then (1 : Int) else 0) = if k = "after" then 1 else 0 := by
  by_cases h : k = "after"
  · rw [decide_eq_true h, if_pos h]
    rfl
  · rw [decide_eq_false h, if_neg h]
    rfl
section
variable {P : Program} {w : World} {K : PySem.W.Frag} {mg : Str → Option Value} {base : Heap}
def spBefore (K : PySem.W.Frag) : Sp := fun vs H Q _ => ∃ (v : V) (k : Str) (t m : Int), vs = [v, .int m] ∧ Dp K H v (.tuple [.str k, .int t]) ∧ Q (.bl (decide (k = "at") || decide (t < m))) H
theorem scBefore : FnScope ["arrival", "finishes"] ["arrival", "finishes"] (defScope sBefore) := ⟨rfl, rfl, rfl, by decide +kernel, rfl, by decide +kernel, by decide +kernel⟩
theorem ok_before (D : Df K mg "_law_before" sBefore ["arrival", "finishes"]) : Cl P w K mg base CX0 1 "_law_before" ["arrival", "finishes"] (spBefore K) := by
  refine cl0 D scBefore (fun vs H Q E h => ?_) (fun f cdv A outer s H vs Q E hr h => ?_)
  · obtain ⟨v, kd, t, m, rfl, _⟩ := h
    rfl
  · obtain ⟨v, kd, t, m, rfl, hd, k⟩ := h
    refine ⟨_, pss_one (ps_ret (pe_or (pe_cmpR op_eq (pe_ix ix_tup (pv 0) pe_int (fun _ _ => rfl)) pe_str (nomark _)) (pe_one (pe_cmpR op_lt (pe_ix ix_tup (pv 0) pe_int (fun _ _ => rfl)) (pv 1) (nomark _))))), ?_⟩
    obtain ⟨p, x, y, rfl, q, dx, dy⟩ := dp_two hd
    have ex := dp_str dx
    subst ex
    have ey := dp_int dy
    subst ey
    refine ⟨_, rfl, p, _, _, _, rfl, rfl, q, rfl, rfl, _, rfl, ?_⟩
    rw [eq_S (s := ("at" : Str)) dx]
    cases h1 : atS "at" (.str kd) with
    | true =>
      rw [show decide (kd = "at") = true from h1] at k
      exact iteT k
    | false =>
      rw [show decide (kd = "at") = false from h1] at k
      exact iteF ⟨_, rfl, p, _, _, _, rfl, rfl, q, rfl, _, rfl, _, _, rfl, rfl, k⟩
def spIsJobL (K : PySem.W.Frag) : Sp := fun vs H Q _ => ∃ (v : V) (d : PyData), vs = [v] ∧ Dp K H v d ∧ niceJob d ∧ ∀ H', Same H H' → Q (.bl (jobD d)) H'
theorem scIsJobL : FnScope ["job", "name", "arrival", "door", "char"] ["job"] (defScope sIsJobL) := ⟨rfl, rfl, rfl, by decide +kernel, rfl, by decide +kernel, by decide +kernel⟩
theorem ok_isJobL (D : Df K mg "_law_is_job" sIsJobL ["job"]) (B : Blt mg) (I : Cl P w K mg base CX0 1 "_law_is_int" ["value", "least"] (spInteger K)) : Cl P w K mg base CX0 2 "_law_is_job" ["job"] (spIsJobL K) := by
  refine cl0 D scIsJobL (fun vs H Q E h => ?_) (fun f cdv A outer s H vs Q E hr h => ?_)
  · obtain ⟨v, d, rfl, _⟩ := h
    rfl
  · obtain ⟨v, d, rfl, hd, nj, k⟩ := h
    refine ⟨_, pss_cons (ps_if (PW.pt (pw_or (pt_not (pt_val (pe_callB call_isi (by rfl) B.isi (by decide +kernel) (pa_cons (pv 0) (pa_cons (pe_bltn (v := .ty "tuple") (u := .type "tuple") (by rfl) B.tuple (by decide +kernel) rfl) pa_nil))))) (pw_or1 (pt_cmpR op_ne (pe_callB call_len_seq (by rfl) B.len PySem.boot_len (pa_cons (pv 0) pa_nil)) pe_int (nomark _))))) (pss_one (ps_ret pe_bl)) pss_nil)
      (pss_cons (ps_asg (pv 0) (pg_tup rfl (pgs_cons (pg_name (i := 1) scIsJobL.nd rfl (.inl rfl)) (pgs_cons (pg_name (i := 2) scIsJobL.nd rfl (.inl rfl)) (pgs_cons (pg_name (i := 3) scIsJobL.nd rfl (.inl rfl)) pgs_nil)))))
      (pss_cons (ps_if (PW.pt (pw_or (pt_not (pt_val (pe_callB call_isi (by rfl) B.isi (by decide +kernel) (pa_cons (pv 1) (pa_cons (pe_bltn (v := .ty "str") (u := .type "str") (by rfl) B.str (by decide +kernel) rfl) pa_nil))))) (pw_or1 (pt_not (pt_chain op_le op_le pe_int (pe_callB call_len (by rfl) B.len PySem.boot_len (pa_cons (pv 1) pa_nil)) pe_int))))) (pss_one (ps_ret pe_bl)) pss_nil)
      (pss_cons (ps_if (pt_cmpR (op_neNilL (Nat.lt_of_succ_lt (hu_of hr))) (pe_lc (own := [("char", 4)]) (g := gName 4) (tt := tTest (tOp (fun x y H Q => ∃ (c : Nat) (z : Str), x = .str ⟨#[c]⟩ ∧ y = .str z ∧ Q (.bl (!decide (c ∈ z.cps.toList))) H) (tVar 4) (tC (.str abc)))) (te := tVar 4) (by rfl) scIsJobL.nd (pi_str (pv 1))
          (blkOk_by (own := [("char", 4)]) (N := ["job", "name", "arrival", "door", "char"]) (sc := defScope sIsJobL) (by decide +kernel)) (fun _ _ _ _ _ => pg_name (i := 4) scIsJobL.nd rfl (Or.inl rfl)) (fun _ _ _ _ _ => pts_one (pt_cmpR op_notIn_sign (pv 4) pe_str (by rfl))) (fun _ _ _ _ _ => pv 4))
          (pe_lst pa_nil) (nomark _)) (pss_one (ps_ret pe_bl)) pss_nil)
      (pss_cons (ps_if (PW.pt (pw_or (pt_not (pt_val (pe_callB call_isi (by rfl) B.isi (by decide +kernel) (pa_cons (pv 2) (pa_cons (pe_bltn (v := .ty "tuple") (u := .type "tuple") (by rfl) B.tuple (by decide +kernel) rfl) pa_nil))))) (pw_or (pt_cmpR op_ne (pe_callB call_len_seq (by rfl) B.len PySem.boot_len (pa_cons (pv 2) pa_nil)) pe_int (nomark _))
          (pw_or1 (pt_cmpR op_notIn_seq (pe_ix ix_tup (pv 2) pe_int (fun _ _ => rfl)) (pe_tup (pa_cons pe_str (pa_cons pe_str pa_nil))) (by rfl)))))) (pss_one (ps_ret pe_bl)) pss_nil)
      (pss_one (ps_ret (pe_and (pc I hr (by decide) (pa_cons (pe_ix ix_tup (pv 2) pe_int (fun _ _ => rfl)) (pa_cons (pe_callTy call_int1 (by rfl) B.int (by decide +kernel) (pa_cons (pe_cmpR op_eq (pe_ix ix_tup (pv 2) pe_int (fun _ _ => rfl)) pe_str (nomark _)) pa_nil)) pa_nil)))
        (pe_and (pc I hr (by decide) (pa_cons (pv 3) (pa_cons pe_int pa_nil))) (pe_one (pe_cmpR op_lt (pv 3) pe_int (nomark _))))))))))), ?_⟩
    have fin : ∀ b, jobD d = b → ∀ H', Same H H' → Q (.bl b) H' := fun b e H' s1 => by
      have z := k H' s1
      rw [e] at z
      exact z
    refine ⟨_, rfl, v, _, _, _, _, rfl, .ty "tuple", dp_ty hd, kit_tup hd, _, rfl, ?_⟩
    cases htup : isTupD d with
    | false =>
      refine iteT (iteT (fin _ ?_ H (Same.refl H)))
      cases d with
      | tuple ds => cases htup
      | _ => rfl
    | true =>
      obtain ⟨ds, rfl⟩ : ∃ ds, d = .tuple ds := by
        cases d with
        | tuple ls => exact ⟨ls, rfl⟩
        | _ => cases htup
      refine iteF ?_
      cases ht : tupleND 3 (.tuple ds) with
      | false =>
        obtain ⟨p, xs0, rfl, q0, r0⟩ := dp_tuple hd
        have z : ¬ (ds.length : Int) = 3 := of_decide_eq_false ht
        refine ⟨_, rfl, p, xs0, rfl, .inr q0, rfl, _, rfl, ?_⟩
        have e3 : (!decide (V.int (xs0.length : Nat) = V.int 3)) = true := by
          rw [decide_eq_false (fun y => z (by rw [← dps_len r0]; exact V.int.inj y))]
          rfl
        rw [e3]
        exact iteT (fin _ (job_not ht) H (Same.refl H))
      | true =>
        obtain ⟨n, a, e, e4⟩ := tup_three ht
        cases e4
        obtain ⟨p, x, y, z, rfl, q, hn, ha, he⟩ := dp_three hd
        have je : jobD (.tuple [n, a, e]) = (nameD n && (arrivalD a && (integerD 0 e && le9 e))) := rfl
        refine ⟨_, rfl, p, _, rfl, .inr q, rfl, _, rfl, iteF ?_⟩
        refine ⟨_, rfl, p, _, rfl, q, rfl, _, _, rfl, _, _, rfl, _, _, rfl, rfl, ?_⟩
        have noN : nameD n = false → ∀ H', Same H H' → Q (.bl false) H' := fun h => fin _ (by rw [je, h]; rfl)
        refine ⟨_, rfl, x, _, _, _, _, rfl, .ty "str", dp_ty hn, kit_strT hn, _, rfl, ?_⟩
        cases hs : isStrD n with
        | false =>
          refine iteT (iteT (noN ?_ H (Same.refl H)))
          cases n with
          | str s => cases hs
          | _ => rfl
        | true =>
          obtain ⟨nm, rfl⟩ : ∃ nm, n = .str nm := by
            cases n with
            | str s => exact ⟨s, rfl⟩
            | _ => cases hs
          have ex := dp_str hn
          subst ex
          have en : nameD (.str nm) = (decide (1 ≤ nm.length) && (decide (nm.length ≤ 8) && nm.cps.toList.all (between "a" "z"))) := rfl
          have sm : nm.length ≤ 1000 := nj.1
          refine iteF ⟨_, rfl, .str nm, nm.length, rfl, ⟨Nat.le_trans sm (by decide), rfl⟩, _, _, rfl, rfl, _, rfl, ?_⟩
          refine ite2 (fun z1 => ?_) (fun z1 => ?_)
          case refine_2 =>
            have z2 : ¬ 1 ≤ nm.length := fun y => z1 (decide_eq_true (by omega))
            exact ⟨_, rfl, iteT (noN (by rw [en, decide_eq_false z2]; rfl) H (Same.refl H))⟩
          have z2 : (1 : Int) ≤ (nm.length : Nat) := of_decide_eq_true z1
          have e1 : decide (1 ≤ nm.length) = true := decide_eq_true (by omega)
          refine ⟨_, _, rfl, rfl, _, rfl, ?_⟩
          by_cases z3 : nm.length ≤ 8
          case neg =>
            rw [decide_eq_false (show ¬ ((nm.length : Nat) : Int) ≤ 8 by omega)]
            exact iteT (noN (by rw [en, e1, decide_eq_false z3]; rfl) H (Same.refl H))
          rw [decide_eq_true (show ((nm.length : Nat) : Int) ≤ 8 by omega)]
          refine iteF ?_
          -- the signs
          refine ⟨_, rfl, nm, rfl, fun D0 nD => ?_⟩
          refine lc_it (walk_str (z := nm)) (fun m Hc => ∃ acc, Same H Hc ∧ Hc D0 = some (.lst acc) ∧ acc.length ≤ m ∧ (acc = [] ↔ ∀ c ∈ nm.cps.toList.take m, between "a" "z" c = true))
            ⟨[], same_new nD, upd_same, Nat.le_refl _, Iff.intro (fun _ c hc => absurd hc (by simp)) (fun _ => rfl)⟩ (fun _ _ _ _ => True.intro) ?_ ?_
          · rintro m y1 Hc0 Hc hm ⟨acc, s1, hD, hacc, iff⟩ ⟨rfl, c, hc, rfl⟩
            have hc2 : nm.cps.toList[m]? = some c := by rw [Array.getElem?_toList]; exact hc
            have tk : nm.cps.toList.take (m + 1) = nm.cps.toList.take m ++ [c] := by
              rw [List.take_add_one, hc2]
              rfl
            have hm8 : m ≤ 8 := by
              have z : nm.cps.size = nm.length := rfl
              omega
            refine ⟨rfl, _, rfl, c, abc, rfl, rfl, _, rfl, ?_⟩
            rw [mem_abc]
            cases hb : between "a" "z" c with
            | true =>
              refine iteF ⟨acc, s1, hD, by omega, ?_⟩
              rw [iff, tk]
              refine Iff.intro (fun h x hx => ?_) (fun h x hx => h x (List.mem_append_left _ hx))
              rcases List.mem_append.mp hx with hx | hx
              · exact h x hx
              · rw [List.mem_singleton.mp hx]
                exact hb
            | false =>
              refine iteT ⟨_, rfl, acc, hD, Nat.lt_of_le_of_lt hacc (Nat.lt_of_le_of_lt hm8 (by decide)), acc ++ [.str ⟨#[c]⟩], same_put s1 nD, upd_same, by rw [List.length_append, List.length_singleton]; omega, ?_⟩
              refine Iff.intro (fun h => absurd h (by simp)) (fun h => ?_)
              have z := h c (by rw [tk]; simp)
              rw [hb] at z
              cases z
          · rintro Hc ⟨acc, s1, hD, hacc, iff⟩
            have full : nm.cps.toList.take nm.cps.size = nm.cps.toList := List.take_of_length_le (by simp)
            rw [full] at iff
            refine ⟨(by show 0 ≤ sizeLine; decide), fun e9 ne9 => ?_⟩
            have s2 := s1.trans (same_new (o := .lst []) ne9)
            refine ⟨D0, e9, acc, rfl, rfl, SqL.of ((same_new ne9).at hD), SqL.of upd_same, _, rfl, ?_⟩
            cases acc with
            | cons q1 q2 =>
              refine iteT (noN ?_ _ s2)
              have z : nm.cps.toList.all (between "a" "z") = false := by
                refine Bool.eq_false_iff.mpr fun h => ?_
                have y := iff.mpr (List.all_eq_true.mp h)
                cases y
              rw [en, z, Bool.and_false, Bool.and_false]
            | nil =>
              have za : nm.cps.toList.all (between "a" "z") = true := List.all_eq_true.mpr (iff.mp rfl)
              have yesN : nameD (.str nm) = true := by
                rw [en, e1, decide_eq_true z3, za]
                rfl
              rw [yesN, Bool.true_and] at je
              have noA : arrivalD a = false → ∀ H', Same H H' → Q (.bl false) H' := fun h => fin _ (by rw [je, h]; rfl)
              have ha2 := dp_same s2 ha
              refine iteF ⟨_, rfl, y, _, _, _, _, rfl, .ty "tuple", dp_ty ha2, kit_tup ha2, _, rfl, ?_⟩
              cases hta : isTupD a with
              | false =>
                refine iteT (iteT (noA ?_ _ s2))
                cases a with
                | tuple s => cases hta
                | _ => rfl
              | true =>
                obtain ⟨as, rfl⟩ : ∃ as, a = .tuple as := by
                  cases a with
                  | tuple ls => exact ⟨ls, rfl⟩
                  | _ => cases hta
                refine iteF ?_
                cases ht2 : tupleND 2 (.tuple as) with
                | false =>
                  obtain ⟨pa, xs0, rfl, q0, r0⟩ := dp_tuple ha2
                  have z : ¬ (as.length : Int) = 2 := of_decide_eq_false ht2
                  refine ⟨_, rfl, pa, xs0, rfl, .inr q0, rfl, _, rfl, ?_⟩
                  have e3 : (!decide (V.int (xs0.length : Nat) = V.int 2)) = true := by
                    rw [decide_eq_false (fun y => z (by rw [← dps_len r0]; exact V.int.inj y))]
                    rfl
                  rw [e3]
                  exact iteT (iteT (noA (arr_not ht2) _ s2))
                | true =>
                  obtain ⟨kd, t, e5⟩ := tup_two ht2
                  cases e5
                  have fl : flatD kd = true := nj.2
                  obtain ⟨pa, kv, tv, rfl, qa, dk, dt⟩ := dp_two ha2
                  have ae : arrivalD (.tuple [kd, t]) = if atS "at" kd = true then integerD 0 t else (atS "after" kd && integerD 1 t) := rfl
                  refine ⟨_, rfl, pa, _, rfl, .inr qa, rfl, _, rfl, iteF ?_⟩
                  refine ⟨_, rfl, pa, _, _, _, rfl, rfl, qa, rfl, (by show 2 ≤ sizeLine; decide), fun t1 nt => ?_⟩
                  have s3 := same_new (o := .tup [.str ("at" : Str), .str ("after" : Str)]) nt
                  have s23 := s2.trans s3
                  refine ⟨t1, _, rfl, .inr (SqT.of upd_same), (by rw [dp_flat dk]; exact fl), rfl, _, rfl, ?_⟩
                  have inK : inV kv [.str ("at" : Str), .str ("after" : Str)] = (atS "at" kd || atS "after" kd) := by
                    cases dk with
                    | str x =>
                      show (("at" : Str) == x || (("after" : Str) == x || false)) = (decide (x = "at") || decide (x = "after"))
                      rw [Bool.or_false, BEq.comm (a := ("at" : Str)), BEq.comm (a := ("after" : Str))]
                      have q : ∀ s : Str, (x == s) = decide (x = s) := fun s => by
                        rw [Bool.eq_iff_iff]
                        simp
                      rw [q, q]
                    | non => rfl
                    | bl b => rfl
                    | int i => rfl
                    | lst q r => cases fl
                    | tup q r => cases fl
                  show if (!inV kv [.str ("at" : Str), .str ("after" : Str)]) = true then _ else _
                  rw [inK]
                  have dt3 := dp_same s3 dt
                  have dk3 := dp_same s3 dk
                  have he3 := dp_same s23 he
                  have tail : ∀ b, arrivalD (.tuple [kd, t]) = b → (if b = true then integerD 0 e && le9 e else false) = jobD (.tuple [.str nm, .tuple [kd, t], e]) := fun b hb => by
                    rw [je, hb]
                    cases b <;> rfl
                  cases hor : (atS "at" kd || atS "after" kd) with
                  | false =>
                    obtain ⟨o1, o2⟩ := Bool.or_eq_false_iff.mp hor
                    refine iteT (noA ?_ _ s23)
                    rw [ae, if_neg (by rw [o1]; exact Bool.false_ne_true), o2]
                    rfl
                  | true =>
                    refine iteF ?_
                    refine ⟨_, rfl, pa, _, _, _, rfl, rfl, same_seqT s3 qa, rfl, _, rfl, pa, _, _, _, rfl, rfl, same_seqT s3 qa, rfl, scal_S dk3 fl, .inr ⟨_, rfl, ?_⟩⟩
                    rw [eq_S (s := ("after" : Str)) dk3]
                    have lst : ∃ m : Int, (if atS "after" kd = true then (1 : Int) else 0) = m ∧ arrivalD (.tuple [kd, t]) = integerD m t := by
                      refine ⟨_, rfl, ?_⟩
                      rw [ae]
                      cases h1 : atS "at" kd with
                      | true =>
                        have h2 : atS "after" kd = false := by
                          cases kd with
                          | str x =>
                            have z : x = "at" := of_decide_eq_true h1
                            subst z
                            decide +kernel
                          | _ => cases h1
                        rw [h2]
                        rfl
                      | false =>
                        rw [h1, Bool.false_or] at hor
                        rw [hor]
                        rfl
                    obtain ⟨m, hm, am⟩ := lst
                    rw [hm]
                    refine ⟨tv, t, m, rfl, dt3, _, rfl, ?_⟩
                    cases hi : integerD m t with
                    | false => exact iteF (noA (by rw [am, hi]) _ s23)
                    | true =>
                      refine iteT ⟨_, rfl, z, e, 0, rfl, he3, _, rfl, ?_⟩
                      have fin2 : ∀ b, (integerD 0 e && le9 e) = b → Q (.bl b) _ := fun b hb => fin b (by rw [je, am, hi, hb]; rfl) _ s23
                      cases he3 with
                      | int i =>
                        cases h0 : integerD 0 (.int i) with
                        | false => exact iteF (fin2 _ (by rw [h0]; rfl))
                        | true =>
                          refine iteT ⟨_, rfl, _, _, rfl, rfl, fin2 _ ?_⟩
                          rw [h0]
                          show decide (i ≤ 9) = decide (i < 10)
                          by_cases h : i ≤ 9
                          · rw [decide_eq_true h, decide_eq_true (show i < 10 by omega)]
                          · rw [decide_eq_false h, decide_eq_false (show ¬ i < 10 by omega)]
                      | bl b => exact iteF (fin2 _ rfl)
                      | non => exact iteF (fin2 _ rfl)
                      | str b => exact iteF (fin2 _ rfl)
                      | lst q r => exact iteF (fin2 _ rfl)
                      | tup q r => exact iteF (fin2 _ rfl)
end
end Vk
set_option maxHeartbeats 4000000
namespace Vk
open PySem PySem.Spec PyProof.Rows L2 GxR
def optV : Option Int → V
  | some i => .int i
  | none => .non
/-- a slice from the beginning to an inner place -/
theorem slice_to {K : PySem.W.Frag} {H : Hp} {p : Addr} {xs : List V} {i : Nat} {Q : VK} (h : SqT K H p xs) (hi : i < xs.length) (k : ∀ t, H t = none → Q (.ref t) (upd H t (.tup (xs.take i)))) : rSlA K (.ref p) none (some (i : Int)) H Q := by
  have e2 : HT.sIx xs.length xs.length (some (i : Int)) = i := by rw [HT.sIx_nat]; omega
  have e1 : HT.sIx xs.length 0 none = 0 := rfl
  refine ⟨p, xs, rfl, h, fun w => ?_, fun _ t nt => ?_⟩
  · rw [e2] at w
    omega
  · have z := k t nt
    unfold cutV
    rw [e2, e1]
    exact z
theorem waits_kind {js : List PyData} {n k : Str} {t e : Int} (hk : k = "at" ∨ k = "after") : waitsD js (.tuple [.str n, .tuple [.str k, .int t], .int e]) = (decide (k = "after") && decide ((((js.map arrD).countP (befA t) : Nat) : Int) < t)) := by
  show (!decide (k = "at") && _) = _
  rcases hk with rfl | rfl <;> rfl
section
variable {P : Program} {w : World} {K : PySem.W.Frag} {mg : Str → Option Value} {base : Heap}
def spFault (K : PySem.W.Frag) : Sp := fun vs H Q _ => ∃ (v : V) (d : PyData), vs = [v] ∧ Dp K H v d ∧ niceJobs d ∧ ∀ H', Same H H' → Q (optV (jobsPlace d)) H'
theorem scFault : FnScope ["jobs", "place", "job", "kind", "number", "earlier", "one"] ["jobs"] (defScope sFault) := ⟨rfl, rfl, rfl, by decide +kernel, rfl, by decide +kernel, by decide +kernel⟩
theorem ok_fault (D : Df K mg "_law_fault" sFault ["jobs"]) (B : Blt mg) (J : Cl P w K mg base CX0 2 "_law_is_job" ["job"] (spIsJobL K)) (BF : Cl P w K mg base CX0 1 "_law_before" ["arrival", "finishes"] (spBefore K)) : Cl P w K mg base CX0 3 "_law_fault" ["jobs"] (spFault K) := by
  refine cl0 D scFault (fun vs H Q E h => ?_) (fun f cdv A outer s H vs Q E hr h => ?_)
  · obtain ⟨v, d, rfl, _⟩ := h
    rfl
  · obtain ⟨v, d, rfl, hd, nj, k⟩ := h
    refine ⟨_, pss_cons (ps_if (pt_not (pt_val (pe_callB call_isi (by rfl) B.isi (by decide +kernel) (pa_cons (pv 0) (pa_cons (pe_bltn (v := .ty "tuple") (u := .type "tuple") (by rfl) B.tuple (by decide +kernel) rfl) pa_nil))))) (pss_one (ps_ret pe_int)) pss_nil)
      (pss_cons (ps_for PassesOwn.never rfl (pi_enumT B.enum (pa_cons (pv 0) pa_nil)) (pg_tup rfl (pgs_cons (pg_name (i := 1) scFault.nd rfl (.inl rfl)) (pgs_cons (pg_name (i := 2) scFault.nd rfl (.inl rfl)) pgs_nil)))
        (pss_one (ps_if (PW.pt (pw_or (pt_not (pt_val (pc J hr (by decide) (pa_cons (pv 2) pa_nil)))) (pw_or1 (pt_cmpR op_in_seq (pe_ix ix_tup (pv 2) pe_int (fun _ _ => rfl))
          (pe_lc (own := [("one", 6)]) (g := gName 6) (tt := tYes) (te := tOp (rIxT K) (tVar 6) (tC (.int 0))) (by rfl) scFault.nd (pi_tup (pe_slice sl_tupA (pv 0) po_none (po_some (pv 1))))
            (blkOk_by (own := [("one", 6)]) (N := ["jobs", "place", "job", "kind", "number", "earlier", "one"]) (sc := defScope sFault) (by decide +kernel)) (fun _ _ _ _ _ => pg_name (i := 6) scFault.nd rfl (Or.inl rfl)) (fun _ _ _ _ _ => pts_nil) (fun _ _ _ _ _ => pe_ix ix_tup (pv 6) pe_int (fun _ _ => rfl))) (by rfl)))))
          (pss_one (ps_ret (pv 1))) pss_nil)))
      (pss_cons (ps_for PassesOwn.never rfl (pi_enumT B.enum (pa_cons (pv 0) pa_nil)) (pg_tup rfl (pgs_cons (pg_name (i := 1) scFault.nd rfl (.inl rfl)) (pgs_cons (pg_name (i := 2) scFault.nd rfl (.inl rfl)) pgs_nil)))
        (pss_cons (ps_asg (pe_ix ix_tup (pv 2) pe_int (fun _ _ => rfl)) (pg_tup rfl (pgs_cons (pg_name (i := 3) scFault.nd rfl (.inl rfl)) (pgs_cons (pg_name (i := 4) scFault.nd rfl (.inr rfl)) pgs_nil))))
        (pss_cons (ps_setLc (i := 5) (own := [("one", 6)]) (g := gName 6) (tt := tB (tCal (spBefore K) (tCons (tOp (rIxT K) (tVar 6) (tC (.int 1))) (tCons (tVar 4) tNil)))) (te := tVar 6) rfl scFault.nd rfl rfl (sw_true rfl rfl rfl (by decide +kernel)) (pi_tup (pv 0)) (blkOk_by (own := [("one", 6)]) (N := ["jobs", "place", "job", "kind", "number", "earlier", "one"]) (sc := defScope sFault) (by decide +kernel))
          (fun _ _ _ _ _ => pg_name (i := 6) scFault.nd rfl (Or.inl rfl)) (fun _ _ _ _ _ => pts_one (pt_val (pc BF hr (by decide) (pa_cons (pe_ix ix_tup (pv 6) pe_int (fun _ _ => rfl)) (pa_cons (pv 4) pa_nil))))) (fun _ _ _ _ _ => pv 6))
        (pss_one (ps_if (PW.pt (pw_and (pt_cmpR op_eq (pv 3) pe_str (nomark _)) (pw_and1 (pt_cmpR op_lt (pe_callB call_len_seq (by rfl) B.len PySem.boot_len (pa_cons (pv 5) pa_nil)) (pv 4) (nomark _))))) (pss_one (ps_ret (pv 1))) pss_nil)))))
      (pss_one (ps_ret pe_non)))), ?_⟩
    refine ⟨_, rfl, v, _, _, _, _, rfl, .ty "tuple", dp_ty hd, kit_tup hd, _, rfl, ?_⟩
    have fin : ∀ b, jobsPlace d = b → ∀ H', Same H H' → Q (optV b) H' := fun b e H' s1 => by
      have z := k H' s1
      rw [e] at z
      exact z
    cases htup : isTupD d with
    | false =>
      refine iteT (fin (some 0) ?_ H (Same.refl H))
      cases d with
      | tuple ds => cases htup
      | _ => rfl
    | true =>
      obtain ⟨js, rfl⟩ : ∃ js, d = .tuple js := by
        cases d with
        | tuple ls => exact ⟨ls, rfl⟩
        | _ => cases htup
      obtain ⟨pj, xs, rfl, qj, rj⟩ := dp_tuple hd
      have xl := dps_len rj
      have l900 : js.length ≤ 900 := nj.2
      have jp : jobsPlace (.tuple js) = match eachPlace js with
        | some i => some (i : Int)
        | none => match waitPlace js with
          | some i => some (i : Int)
          | none => none := rfl
      refine iteF ?_
      refine ⟨_, rfl, pj, xs, rfl, qj, for_it (walk_enumT (K := K) (a := pj) (xs := xs)) (fun i σ H' => ∃ (u1 u2 : Option V), σ = [some (.ref pj), u1, u2, none, none, none, none] ∧ Same H H' ∧ ∀ j < i, badAt js j = false)
        ⟨none, none, rfl, Same.refl H, fun j hj => absurd hj (Nat.not_lt_zero _)⟩ (fun i σ H' _ ⟨_, _, _, s1, _⟩ => same_seqT s1 qj) ?_ ?_⟩
      · rintro i v1 σ H1 H2 hi ⟨u1, u2, rfl, s1, ok⟩ ⟨TT, x1, y1, rfl, nT, rfl, ex, ey⟩
        cases ex
        obtain ⟨d1, hd1, dp1⟩ := dps_getV rj ey
        have s2 := s1.trans (same_new (o := .tup [V.int (i : Nat), y1]) nT)
        refine ⟨TT, _, rfl, SqT.of upd_same, rfl, _, _, rfl, _, _, rfl, rfl, ?_⟩
        refine ⟨_, rfl, y1, d1, rfl, dp_same s2 dp1, nj.1 d1 (List.mem_of_getElem? hd1), fun H3 s3 => ⟨_, rfl, ?_⟩⟩
        have s23 := s2.trans s3
        have bad : badAt js i = (!jobD d1 || ((js.take i).map nameOf).any (fun y => y == nameOf d1)) := by
          unfold badAt
          rw [hd1]
        have stop : badAt js i = true → ∀ H', Same H H' → Q (.int (i : Int)) H' := fun hb => fin (some (i : Int)) (by
          rw [jp, show eachPlace js = some i from find_at (by omega) hb ok])
        cases hj : jobD d1 with
        | false => exact iteT (iteT ⟨_, rfl, stop (by rw [bad, hj]; rfl) _ s23⟩)
        | true =>
          obtain ⟨n1, k1, t1, x1, rfl, _, _⟩ := job_parts hj
          obtain ⟨p1, v1, v2, v3, rfl, q1, dv1, dv2, dv3⟩ := dp_three dp1
          have en := dp_str dv1
          subst en
          have qj3 := same_seqT s23 qj
          refine iteF ⟨_, rfl, p1, _, _, _, rfl, rfl, same_seqT s23 q1, rfl, ?_⟩
          refine ⟨_, rfl, _, rfl, ?_⟩
          dsimp only [tNoPart]
          refine ⟨_, rfl, slice_to qj3 (by omega) fun ts nts => ?_⟩
          have s24 := s23.trans (same_new (o := .tup (xs.take i)) nts)
          refine ⟨ts, rfl, ⟨_, SqT.of upd_same⟩, fun D0 nD => ?_⟩
          have qts : ∀ {Hx : Hp}, Same (upd H3 ts (.tup (xs.take i))) Hx → SqT K Hx ts (xs.take i) := fun s9 => SqT.of (s9.at upd_same)
          refine lc_it (walk_tup (K := K) (a := ts) (xs := xs.take i)) (fun m Hc => Same (upd H3 ts (.tup (xs.take i))) Hc ∧ Hc D0 = some (.lst (((js.take m).map nameOf).map V.str)))
            ⟨same_new nD, upd_same⟩ (fun m Hc _ ⟨s9, _⟩ => qts s9) ?_ ?_
          · rintro m y2 Hc0 Hc hm ⟨s9, hD⟩ ⟨rfl, hy2⟩
            rw [List.length_take] at hm
            have hy3 : xs[m]? = some y2 := by
              rw [List.getElem?_take_of_lt (by omega)] at hy2
              exact hy2
            obtain ⟨d2, hd2, dp2⟩ := dps_getV rj hy3
            have okm := ok m (by omega)
            have jd2 : jobD d2 = true := by
              unfold badAt at okm
              rw [hd2] at okm
              cases h : jobD d2 with
              | true => rfl
              | false =>
                have z' : (!jobD d2 || ((js.take m).map nameOf).any (fun y => y == nameOf d2)) = false := okm
                rw [h] at z'
                cases z'
            obtain ⟨n2, k2, t2, x2, rfl, _, _⟩ := job_parts jd2
            obtain ⟨p2, w1, w2, w3, rfl, q2, dw1, dw2, dw3⟩ := dp_three dp2
            have en2 := dp_str dw1
            subst en2
            refine ⟨rfl, _, rfl, p2, _, _, _, rfl, rfl, same_seqT (s24.trans s9) q2, rfl, _, hD, ?_, same_put s9 nD, ?_⟩
            · rw [List.length_map, List.length_map, List.length_take]
              exact Nat.lt_of_le_of_lt (show min m js.length ≤ 900 by omega) (by decide)
            · rw [upd_same, List.take_add_one, hd2]
              simp [nameOf]
          · rintro Hc ⟨s9, hD⟩
            rw [List.length_take, show min i xs.length = i by omega] at hD
            have s25 := s24.trans s9
            refine ⟨_, _, rfl, .inl (SqL.of hD), rfl, flat_strs _, _, rfl, ?_⟩
            show if inV (.str n1) (((js.take i).map nameOf).map V.str) = true then _ else _
            rw [inV_strs]
            cases hin : ((js.take i).map nameOf).any (fun y => y == n1) with
            | true => exact iteT ⟨_, rfl, stop (by rw [bad, hj]; exact hin) _ s25⟩
            | false =>
              refine iteF ⟨_, _, rfl, s25, fun j hj2 => ?_⟩
              by_cases z : j = i
              · subst z
                rw [bad, hj]
                exact hin
              · exact ok j (by omega)
      · rintro σ H1 ⟨u1, u2, rfl, s1, ok⟩
        have ep : eachPlace js = none := find_no fun j hj => ok j (by omega)
        have jp2 : jobsPlace (.tuple js) = match waitPlace js with
            | some i => some (i : Int)
            | none => none := by
          rw [jp, ep]
        have okall := each_all (js := js) (fun j hj => ok j (by omega))
        refine ⟨_, rfl, pj, xs, rfl, same_seqT s1 qj, for_it (walk_enumT (K := K) (a := pj) (xs := xs)) (fun i σ H' => ∃ (u1 u2 u3 u4 u5 : Option V), σ = [some (.ref pj), u1, u2, u3, u4, u5, none] ∧ Same H H' ∧ ∀ j < i, waitAt js j = false)
          ⟨_, _, _, _, _, rfl, s1, fun j hj => absurd hj (Nat.not_lt_zero _)⟩ (fun i σ H' _ ⟨_, _, _, _, _, _, s1, _⟩ => same_seqT s1 qj) ?_ ?_⟩
        · rintro i v1 σ H2 H3 hi ⟨u1, u2, u3, u4, u5, rfl, s2, ok2⟩ ⟨TT, x1, y1, rfl, nT, rfl, ex, ey⟩
          cases ex
          obtain ⟨d1, hd1, dp1⟩ := dps_getV rj ey
          have s3 := s2.trans (same_new (o := .tup [V.int (i : Nat), y1]) nT)
          refine ⟨TT, _, rfl, SqT.of upd_same, rfl, _, _, rfl, _, _, rfl, rfl, ?_⟩
          have wt : waitAt js i = waitsD js d1 := by
            unfold waitAt
            rw [hd1]
          obtain ⟨n1, k1, t1, x1, rfl, _, hk1⟩ := job_parts (List.all_eq_true.mp okall d1 (List.mem_of_getElem? hd1))
          rw [waits_kind hk1] at wt
          obtain ⟨p1, v1, v2, v3, rfl, q1, dv1, dv2, dv3⟩ := dp_three dp1
          obtain ⟨pa, kv, tv, rfl, qa, dk, dt⟩ := dp_two dv2
          have ek := dp_str dk
          subst ek
          have et := dp_int dt
          subst et
          refine ⟨_, rfl, p1, _, _, _, rfl, rfl, same_seqT s3 q1, rfl, pa, _, rfl, same_seqT s3 qa, rfl, _, _, rfl, _, _, rfl, rfl, ?_⟩
          refine ⟨_, rfl, pj, rfl, ⟨_, same_seqT s3 qj⟩, fun D2 nD2 => ?_⟩
          refine lc_it (walk_tup (K := K) (a := pj) (xs := xs)) (fun m Hd => ∃ ac2, Same H Hd ∧ Hd D2 = some (.lst ac2) ∧ ac2.length = ((js.map arrD).take m).countP (befA t1))
            ⟨[], s3.trans (same_new nD2), upd_same, rfl⟩ (fun m Hd _ ⟨ac2, s9, _⟩ => same_seqT s9 qj) ?_ ?_
          · rintro m y2 Hd0 Hd hm ⟨ac2, s9, hD2, lc2⟩ ⟨rfl, hy2⟩
            obtain ⟨d2, hd2, dp2⟩ := dps_getV rj hy2
            obtain ⟨n2, k2, t2, x2, rfl, _, _⟩ := job_parts (List.all_eq_true.mp okall d2 (List.mem_of_getElem? hd2))
            obtain ⟨p2, w1, w2, w3, rfl, q2, dw1, dw2, dw3⟩ := dp_three dp2
            have e2 : ((js.map arrD).take (m + 1)).countP (befA t1) = ((js.map arrD).take m).countP (befA t1) + (if befA t1 (.tuple [.str k2, .int t2]) = true then 1 else 0) := by
              rw [List.take_add_one, List.getElem?_map, hd2]
              show ((js.map arrD).take m ++ [PyData.tuple [.str k2, .int t2]]).countP (befA t1) = _
              rw [List.countP_append, List.countP_singleton]
            have small : ac2.length < sizeLine := by
              have z : ((js.map arrD).take m).countP (befA t1) ≤ ((js.map arrD).take m).length := List.countP_le_length
              rw [List.length_take, List.length_map] at z
              exact Nat.lt_of_le_of_lt (show ac2.length ≤ 1000 by omega) (by decide)
            refine ⟨rfl, _, rfl, p2, _, _, _, rfl, rfl, same_seqT s9 q2, rfl, _, rfl, w2, k2, t2, t1, rfl, dp_same s9 dw2, ?_⟩
            refine ⟨_, rfl, ?_⟩
            cases hb : (decide (k2 = "at") || decide (t2 < t1)) with
            | true =>
              refine iteT ⟨_, rfl, ac2, hD2, small, ac2 ++ [_], ?_, upd_same, ?_⟩
              · exact same_put s9 (s3.free nD2)
              · rw [e2, if_pos (show befA t1 (.tuple [.str k2, .int t2]) = true from hb), List.length_append, List.length_singleton, lc2]
            | false =>
              refine iteF ⟨ac2, s9, hD2, ?_⟩
              rw [e2, if_neg (by rw [show befA t1 (.tuple [.str k2, .int t2]) = false from hb]; exact Bool.false_ne_true), lc2]
              rfl
          · rintro Hd ⟨ac2, s9, hD2, lc2⟩
            rw [show (js.map arrD).take xs.length = js.map arrD from List.take_of_length_le (by rw [List.length_map]; omega)] at lc2
            refine ⟨_, rfl, rfl, _, rfl, ?_⟩
            have stop : waitAt js i = true → ∀ H', Same H H' → Q (.int (i : Int)) H' := fun hb => fin (some (i : Int)) (by
              rw [jp2, show waitPlace js = some i from find_at (by omega) hb ok2])
            have next : waitAt js i = false → ∀ j < i + 1, waitAt js j = false := fun hb j hj => by
              by_cases z : j = i
              · subst z
                exact hb
              · exact ok2 j (by omega)
            rw [eq_S (s := ("after" : Str)) dk]
            cases h1 : atS "after" (.str k1) with
            | false =>
              refine iteF (iteF ⟨_, _, _, _, _, rfl, s9, next ?_⟩)
              rw [wt, show decide (k1 = "after") = false from h1]
              rfl
            | true =>
              rw [show decide (k1 = "after") = true from h1, Bool.true_and, ← lc2] at wt
              refine iteT ⟨_, rfl, D2, ac2, rfl, .inl (SqL.of hD2), _, rfl, _, _, rfl, rfl, _, rfl, ?_⟩
              cases h2 : decide (((ac2.length : Nat) : Int) < t1) with
              | true => exact iteT ⟨_, rfl, stop (by rw [wt, h2]) _ s9⟩
              | false => exact iteF ⟨_, _, _, _, _, rfl, s9, next (by rw [wt, h2])⟩
        · rintro σ H2 ⟨u1, u2, u3, u4, u5, rfl, s2, ok2⟩
          refine fin none ?_ H2 s2
          rw [jp2, show waitPlace js = none from find_no fun j hj => ok2 j (by omega)]
end
end Vk
set_option maxHeartbeats 4000000
namespace Vk
open PySem PySem.Spec PyProof.Rows L2 GxR
theorem cutR {α : Type} {R : α} {F : α → Prop} {G : Prop} (h : F R → G) (c : F R) : G := h c
def sgn (c : Nat) : Str := ⟨#[c]⟩
theorem off_none {a : Addr} {H : Hp} (h : H a = none) : Off a H = H := by
  funext b
  by_cases e : b = a
  · rw [e, off_same, h]
  · rw [off_ne e]
theorem off_free {a D : Addr} {H : Hp} (h : H D = none) : Off a H D = none := by
  by_cases e : D = a
  · rw [e, off_same]
  · rw [off_ne e, h]
/-- what was built beside the store and a cell is built beside the store -/
theorem kept_of_off {a l : Addr} {H G : Hp} (h : H l = none) (k : Same (Off l (Off a H)) (Off l (Off a G))) : Kept a H G := by
  rw [off_none (off_free h)] at k
  exact k.trans (off_sub l _)
theorem kept_new_put {a D : Addr} {o : HO} {H G : Hp} (k : Kept a H G) (h : H D = none) (n : D ≠ a) : Kept a H (upd G D o) := by
  unfold Kept
  rw [off_other n]
  exact same_put k (off_free h)
theorem atI_abc {r : Int} (h0 : 0 ≤ r) (h1 : r < 26) : atI abc.cps.toList r = some (97 + r.toNat) := by
  have e : ((r.toNat : Nat) : Int) = r := Int.toNat_of_nonneg h0
  rw [← e]
  refine atI_nat ?_
  rw [abc_list, List.getElem?_range' (by omega)]
  congr 1
  omega
theorem az_of {n : Nat} (h : n < 26) : between "a" "z" (97 + n) = true := by
  rw [between_az]
  exact decide_eq_true (by omega)
theorem nameD_iff {s : Str} : nameD (.str s) = true ↔ 1 ≤ s.cps.toList.length ∧ s.cps.toList.length ≤ 8 ∧ ∀ c ∈ s.cps.toList, between "a" "z" c = true := by
  show (decide (1 ≤ s.length) && (decide (s.length ≤ 8) && s.cps.toList.all (between "a" "z"))) = true ↔ _
  rw [Bool.and_eq_true_iff, Bool.and_eq_true_iff, decide_eq_true_iff, decide_eq_true_iff, List.all_eq_true, Array.length_toList]
  exact Iff.rfl
theorem joinL_one : ∀ cs : List Nat, TL.joinL [] (cs.map fun c => [c]) = cs
  | [] => rfl
  | [c] => rfl
  | c :: d :: r => by
    show [c] ++ ([] ++ TL.joinL [] ((d :: r).map fun c => [c])) = _
    rw [joinL_one (d :: r)]
    rfl
theorem join_sgn (cs : List Nat) : (Txt.join "" (cs.map sgn)).cps.toList = cs := by
  show TL.tl (Txt.join "" (cs.map sgn)) = cs
  rw [TL.join_eq, TL.tl_join, List.map_map]
  exact joinL_one cs
theorem lens_sgn (cs : List Nat) : ((cs.map sgn).map (·.length)).sum + (cs.map sgn).length * ("" : Str).length = cs.length := by
  rw [show (("" : Str)).length = 0 from by decide +kernel, Nat.mul_zero, Nat.add_zero, List.map_map]
  induction cs with
  | nil => rfl
  | cons c r ih =>
    rw [List.map_cons, List.sum_cons, ih, List.length_cons]
    show 1 + r.length = _
    omega
theorem cps_app (x y : Str) : (x ++ y).cps.toList = x.cps.toList ++ y.cps.toList := by
  show (x.cps ++ y.cps).toList = _
  rw [Array.toList_append]
theorem cut_to {z : Str} {i : Nat} (h : i ≤ z.cps.toList.length) : (cutS z none (some (i : Int))).cps.toList = z.cps.toList.take i := by
  have e : HT.sIx z.length z.length (some (i : Int)) = i := by
    rw [HT.sIx_nat]
    have : z.length = z.cps.toList.length := by rw [Array.length_toList]; rfl
    omega
  show ((z.cps.toList.drop 0).take (HT.sIx z.length z.length (some (i : Int)) - 0)) = _
  rw [e]
  rfl
theorem cut_from {z : Str} {i : Nat} (h : i ≤ z.cps.toList.length) : (cutS z (some (i : Int)) none).cps.toList = z.cps.toList.drop i := by
  have e0 : z.length = z.cps.toList.length := by rw [Array.length_toList]; rfl
  have e : HT.sIx z.length 0 (some (i : Int)) = i := by
    rw [HT.sIx_nat]
    omega
  show ((z.cps.toList.drop (HT.sIx z.length 0 (some (i : Int)))).take (z.length - HT.sIx z.length 0 (some (i : Int)))) = _
  rw [e]
  exact List.take_of_length_le (by rw [List.length_drop]; omega)
/-- the word of a late turn -/
def wordT (t : Nat) : Str := (sgn (97 + t % 26) ++ "q") ++ sgn (97 + t / 26 % 26)
theorem sub_len {α : Type} [DecidableEq α] : ∀ {l m : List α}, l.Nodup → (∀ x ∈ l, x ∈ m) → l.length ≤ m.length
  | [], _, _, _ => Nat.zero_le _
  | x :: l, m, h, s => by
    obtain ⟨h1, h2⟩ := List.nodup_cons.mp h
    have hx := s x (by simp)
    have z := sub_len (l := l) (m := m.erase x) h2 fun y hy => (List.mem_erase_of_ne (fun e : y = x => h1 (by rw [← e]; exact hy))).mpr (s y (by simp [hy]))
    have lx := List.length_erase_of_mem hx
    have pos := List.length_pos_of_mem hx
    rw [List.length_cons]
    omega
theorem words_nodup : (((List.range' 41 13).map wordT).map fun s => s.cps.toList).Nodup := by decide +kernel
theorem late {t : Nat} {ws : List Str} (h : ∀ s, 41 ≤ s → s ≤ t → wordT s ∈ ws) (l : ws.length < 12) : t ≤ 52 := by
  refine Nat.le_of_not_lt fun h53 => ?_
  have z := sub_len (l := ((List.range' 41 13).map wordT).map fun s => s.cps.toList) (m := ws.map fun s => s.cps.toList) words_nodup fun x hx => by
    obtain ⟨y, hy, rfl⟩ := List.mem_map.mp hx
    obtain ⟨s, hs, rfl⟩ := List.mem_map.mp hy
    obtain ⟨h1, h2⟩ := List.mem_range'_1.mp hs
    exact List.mem_map.mpr ⟨_, h s (by omega) (by omega), rfl⟩
  rw [List.length_map, List.length_map, List.length_map, List.length_range'] at z
  omega
theorem nameD_word (t : Nat) : nameD (.str (wordT t)) = true := by
  rw [nameD_iff]
  have e : (wordT t).cps.toList = [97 + t % 26, 113, 97 + t / 26 % 26] := by
    unfold wordT
    rw [cps_app, cps_app]
    rfl
  rw [e]
  refine ⟨Nat.succ_le_succ (Nat.zero_le _), (show 3 ≤ 8 by decide), fun c hc => ?_⟩
  simp only [List.mem_cons, List.not_mem_nil, or_false] at hc
  rcases hc with rfl | rfl | rfl
  · exact az_of (Nat.mod_lt _ (by decide))
  · exact az_of (n := 16) (by decide)
  · exact az_of (Nat.mod_lt _ (by decide))
def NW (sc a l : Addr) (n m : Int) (H : Hp) (M : Nat) (σ : L2.St) (G : Hp) : Prop := ∃ (t : Nat) (ws : List Str) (u5 u6 u7 : Option V), M + t = 60 ∧ σ = [some (.ref a), some (.int m), some (.str abc), some (.ref l), some (.int (t : Nat)), u5, u6, u7, none] ∧
  Sto sc a (n + 13 * t) G ∧ Same (Off l (Off a H)) (Off l (Off a G)) ∧ G l = some (.lst (ws.map V.str)) ∧ (∀ s ∈ ws, nameD (.str s) = true) ∧ (ws.length : Int) ≤ m ∧ (∀ s, 41 ≤ s → s ≤ t → wordT s ∈ ws) ∧ ws.Nodup
section
variable {P : Program} {w : World} {K : PySem.W.Frag} {mg : Str → Option Value} {base : Heap}
def spNames : Sp := fun vs H Q _ => ∃ (a sc : Addr) (n m : Int), vs = [.ref a, .int m] ∧ Sto sc a n H ∧ n ≤ 900000 ∧ 0 ≤ m ∧ m ≤ 12 ∧
  ∀ (l : Addr) (ws : List Str) (H' : Hp), H l = none → l ≠ a → Sto sc a (n + 800) H' → Kept a H H' → H' l = some (.lst (ws.map V.str)) → (ws.length : Int) = m → (∀ s ∈ ws, nameD (.str s) = true) → ws.Nodup → Q (.ref l) H'
theorem scNames : FnScope ["store", "count", "letters", "names", "turn", "word", "old", "at", "k"] ["store", "count"] (defScope sNames) := ⟨rfl, rfl, rfl, by decide +kernel, rfl, by decide +kernel, by decide +kernel⟩
theorem ok_names (D : Df K mg "_law_names" sNames ["store", "count"]) (B : Blt mg) (PK : Cl P w K mg base CX0 2 "_law_pick" ["store", "count"] spPick) : Cl P w K mg base CX0 3 "_law_names" ["store", "count"] spNames := by
  refine cl0 D scNames (fun vs H Q E h => ?_) (fun f cdv A outer s H vs Q E hr h => ?_)
  · obtain ⟨a, sc, n, m, rfl, _⟩ := h
    rfl
  · obtain ⟨a, sc, n, m, rfl, S, n1, m0, m12, k⟩ := h
    refine ⟨_, pss_cons (ps_set (i := 2) scNames.nd rfl (Or.inr rfl) pe_str)
      (pss_cons (ps_set (i := 3) scNames.nd rfl (Or.inl rfl) (pe_lst pa_nil))
      (pss_cons (ps_set (i := 4) scNames.nd rfl (Or.inl rfl) pe_int)
      (pss_cons (ps_while PassesOwn.never (pt_cmpR op_lt (pe_callB call_len_seq (by rfl) B.len PySem.boot_len (pa_cons (pv 3) pa_nil)) (pv 1) (nomark _))
        (pss_cons (ps_set (i := 4) scNames.nd rfl (Or.inl rfl) (pe_op op_add (pv 4) pe_int))
        (pss_cons (ps_set (i := 5) scNames.nd rfl (Or.inl rfl) (pe_join pe_str (pe_lc (own := [("k", 8)]) (g := gName 8) (tt := tYes) (te := tOp rIxS (tVar 2) (tCal spPick (tCons (tVar 0) (tCons (tC (.int 26)) tNil)))) (by rfl) scNames.nd (pi_range1 rfl B.range (pa_cons (pe_op op_add pe_int (pc PK hr (by decide) (pa_cons (pv 0) (pa_cons pe_int pa_nil)))) pa_nil))
            (blkOk_by (own := [("k", 8)]) (N := ["store", "count", "letters", "names", "turn", "word", "old", "at", "k"]) (sc := defScope sNames) (by decide +kernel)) (fun _ _ _ _ _ => pg_name (i := 8) scNames.nd rfl (Or.inl rfl)) (fun _ _ _ _ _ => pts_nil) (fun _ _ _ _ _ => pe_ix ix_str (pv 2) (pc PK hr (by decide) (pa_cons (pv 0) (pa_cons pe_int pa_nil))) (fun _ _ => rfl)))))
        (pss_cons (ps_if (PW.pt (pw_and (pt_cmpR (op_neNilL (Nat.lt_of_succ_lt (hu_of hr))) (pv 3) (pe_lst pa_nil) (nomark _)) (pw_and1 (pt_cmpR op_eq (pc PK hr (by decide) (pa_cons (pv 0) (pa_cons pe_int pa_nil))) pe_int (nomark _)))))
          (pss_cons (ps_set (i := 6) scNames.nd rfl (Or.inl rfl) (pe_ix ix_list (pv 3) (pc PK hr (by decide) (pa_cons (pv 0) (pa_cons (pe_callB call_len_seq (by rfl) B.len PySem.boot_len (pa_cons (pv 3) pa_nil)) pa_nil))) (fun _ _ => rfl)))
          (pss_cons (ps_set (i := 7) scNames.nd rfl (Or.inl rfl) (pc PK hr (by decide) (pa_cons (pv 0) (pa_cons (pe_callB call_len (by rfl) B.len PySem.boot_len (pa_cons (pv 6) pa_nil)) pa_nil))))
          (pss_one (ps_set (i := 5) scNames.nd rfl (Or.inl rfl) (pe_op op_add_str (pe_op op_add_str (pe_slice sl_str (pv 6) po_none (po_some (pv 7))) (pe_ix ix_str (pv 2) (pc PK hr (by decide) (pa_cons (pv 0) (pa_cons pe_int pa_nil))) (fun _ _ => rfl))) (pe_slice sl_str (pv 6) (po_some (pe_op op_add (pv 7) pe_int)) po_none)))))) pss_nil)
        (pss_cons (ps_if (pt_cmpR op_gt (pv 4) pe_int (nomark _)) (pss_one (ps_set (i := 5) scNames.nd rfl (Or.inl rfl) (pe_op op_add_str (pe_op op_add_str (pe_ix ix_str (pv 2) (pe_op op_mod (pv 4) pe_int) (fun _ _ => rfl)) pe_str) (pe_ix ix_str (pv 2) (pe_op op_mod (pe_op op_fdiv (pv 4) pe_int) pe_int) (fun _ _ => rfl))))) pss_nil)
        (pss_one (ps_if (pt_cmpR op_notIn_seq (pv 5) (pv 3) (by rfl)) (pss_one (ps_expr (pe_bm PySem.F.plainAttrs_list PySem.F.slot_list_append PySem.F.type_list_append mt_append (pv 3) (pa_cons (pv 5) pa_nil)))) pss_nil)))))))
      (pss_one (ps_ret (pv 3)))))), ?_⟩
    refine ⟨(by show 0 ≤ sizeLine; decide), fun l nl => ?_⟩
    have la : l ≠ a := S.ne nl
    have lsc : l ≠ sc := S.ne2 nl
    refine ⟨NW sc a l n m H, ⟨60, 0, [], none, none, none, rfl, rfl, (S.same (same_new nl)).more (by omega), off_mono (off_mono (same_new nl)), upd_same, (fun s hs => absurd hs (by simp)), m0, (fun s h1 h2 => by omega), List.nodup_nil⟩, ?_⟩
    rintro M σ G ⟨t, ws, u5, u6, u7, hM, rfl, SG, KG, lG, okw, lw, pw, nd⟩
    have lm : (ws.map V.str).length = ws.length := List.length_map ..
    refine ⟨_, rfl, l, _, rfl, .inl (SqL.of lG), _, rfl, _, _, rfl, rfl, _, rfl, ?_⟩
    refine ite2 (fun hlt => ?_) (fun hlt => ?_)
    case refine_2 =>
      have z : ¬ ((ws.map V.str).length : Int) < m := fun z => hlt (decide_eq_true z)
      exact ⟨_, rfl, k l ws G nl la (SG.more (by omega)) (kept_of_off nl KG) lG (by omega) okw nd⟩
    have z : ((ws.map V.str).length : Int) < m := of_decide_eq_true hlt
    rw [lm] at z
    have t52 := late pw (by omega)
    refine ⟨NW sc a l n m H (M - 1), fun σ' G' q => ⟨M - 1, by omega, q⟩, ?_⟩
    refine ⟨_, rfl, _, _, rfl, rfl, ?_⟩
    -- word
    refine ⟨⟨_, rfl⟩, _, rfl, a, sc, 8, _, rfl, by decide, by decide, SG, by omega, fun r G1 r0 r8 S1 K1 => ?_⟩
    refine ⟨_, _, rfl, rfl, 1 + r, rfl, by omega, by omega, fun D0 nD => ?_⟩
    have Da := S1.ne nD
    have Dsc := S1.ne2 nD
    have lG1 := K1.at lG la
    have nDG : G D0 = none := by
      have z := Same.free K1 (off_free nD)
      rw [off_ne Da] at z
      exact z
    have Dl : D0 ≠ l := fun e => by rw [e, lG1] at nD; cases nD
    refine lc_range (n := (1 + r).toNat) (fun i Hc => ∃ cs : List Nat, Sto sc a (n + 13 * t + 1 + i) Hc ∧ Kept a G Hc ∧ Hc D0 = some (.lst ((cs.map sgn).map V.str)) ∧ cs.length = i ∧ ∀ c ∈ cs, between "a" "z" c = true)
      ⟨[], (S1.same (same_new nD)).more (by omega), K1.trans (kept_same (same_new nD)), upd_same, rfl, fun c hc => absurd hc (by simp)⟩ ?_ ?_
    · rintro i Hc hi ⟨cs, Sc, Kc, hD, lc, okc⟩
      refine ⟨rfl, _, rfl, _, rfl, a, sc, 26, _, rfl, by decide, by decide, Sc, by omega, fun x Hd x0 x26 Sd Kd => ?_⟩
      refine ⟨abc, x, _, rfl, rfl, by decide +kernel, atI_abc x0 x26, _, Kd.at hD Da, ?_, cs ++ [97 + x.toNat], ?_, ?_, ?_, by rw [List.length_append, lc]; rfl, ?_⟩
      · rw [List.length_map, List.length_map, lc]
        exact Nat.lt_of_le_of_lt (show i ≤ 9 by omega) (by decide)
      · exact (Sd.other Da Dsc).more (by omega)
      · exact kept_new_put (Kc.trans Kd) nDG Da
      · rw [upd_same, List.map_append, List.map_append]
        rfl
      · intro c hc
        rcases List.mem_append.mp hc with hc | hc
        · exact okc c hc
        · rw [List.mem_singleton.mp hc]
          exact az_of (by omega)
    rintro G2 ⟨cs, S2, K2, hD, lc, okc⟩
    refine ⟨_, D0, cs.map sgn, rfl, rfl, .inl (SqL.of hD), ?_, ?_⟩
    · rw [lens_sgn, lc]
      omega
    have hw0 : nameD (.str (Txt.join "" (cs.map sgn))) = true := by
      rw [nameD_iff, join_sgn]
      exact ⟨by omega, by omega, okc⟩
    have S2' : Sto sc a (n + 13 * t + 9) G2 := S2.more (by omega)
    generalize Txt.join "" (cs.map sgn) = w0 at hw0 ⊢
    have lG2 := K2.at lG la
    apply cutR (α := L2.St → Hp → Prop) (F := fun R => ∀ (wd : Str) (G3 : Hp) (v6 v7 : Option V), nameD (.str wd) = true → Sto sc a (n + 13 * t + 13) G3 → Kept a G G3 → R [some (.ref a), some (.int m), some (.str abc), some (.ref l), some (.int (t + 1)), some (.str wd), v6, v7, none] G3)
    · intro cont
      refine ⟨_, rfl, (by show 0 ≤ sizeLine; decide), fun e1 ne1 => ?_⟩
      have se := same_new (o := .lst []) ne1
      have e1a := S2'.ne ne1
      refine ⟨l, e1, _, rfl, rfl, SqL.of (se.at lG2), SqL.of upd_same, _, rfl, ?_⟩
      have K3 := K2.trans (kept_same se)
      cases he : (ws.map V.str).isEmpty with
      | true => exact iteF (iteF (cont w0 _ _ _ hw0 ((S2'.same se).more (by omega)) K3))
      | false =>
        refine iteT ⟨_, rfl, a, sc, 2, _, rfl, by decide, by decide, S2'.same se, by omega, fun x G3 x0 x2 S3 K23 => ?_⟩
        have K4 := K3.trans K23
        have lG3 := K23.at (se.at lG2) la
        refine ⟨rfl, _, rfl, ?_⟩
        refine ite2 (fun _ => ?_) (fun _ => cont w0 _ _ _ hw0 (S3.more (by omega)) K4)
        have wpos : 0 < ws.length := by
          cases ws with
          | nil => cases he
          | cons x r => exact Nat.succ_pos _
        refine ⟨_, rfl, _, rfl, _, rfl, l, _, rfl, .inl (SqL.of lG3), a, sc, _, _, rfl, by omega, by omega, S3, by omega, fun y G4 y0 y2 S4 K34 => ?_⟩
        have lG4 := K34.at lG3 la
        obtain ⟨ov, hov, mov⟩ := atI_mem (xs := ws.map V.str) y0 (by omega)
        obtain ⟨old, mold, rfl⟩ := List.mem_map.mp mov
        obtain ⟨o1, o8, oaz⟩ := nameD_iff.mp (okw old mold)
        have oe : old.length = old.cps.toList.length := by rw [Array.length_toList]; rfl
        have osm : old.length ≤ sizeLine := Nat.le_trans (show old.length ≤ 8 by omega) (by decide)
        refine ⟨l, _, _, _, rfl, rfl, SqL.of lG4, hov, ?_⟩
        refine ⟨_, rfl, _, rfl, .str old, old.length, rfl, ⟨osm, rfl⟩, a, sc, _, _, rfl, by omega, by omega, S4, by omega, fun x G5 x0 x1 S5 K45 => ?_⟩
        obtain ⟨j, rfl⟩ := Int.eq_ofNat_of_zero_le x0
        refine ⟨_, rfl, ?_⟩
        dsimp only [tNoPart]
        refine ⟨_, rfl, _, rfl, old, rfl, osm, ?_⟩
        refine ⟨_, rfl, _, rfl, a, sc, 26, _, rfl, by decide, by decide, S5, by omega, fun q G6 q0 q26 S6 K56 => ?_⟩
        refine ⟨abc, q, _, rfl, rfl, by decide +kernel, atI_abc q0 q26, _, _, rfl, rfl, ?_, ?_⟩
        · exact Nat.le_trans (Nat.add_le_add_right (Nat.le_trans (cutS_length _ _ _) (show old.length ≤ 8 by omega)) 1) (by decide)
        refine ⟨_, rfl, _, rfl, _, _, rfl, rfl, _, rfl, ?_⟩
        dsimp only [tNoPart]
        have t1 : (cutS old none (some (j : Int))).cps.toList = old.cps.toList.take j := cut_to (by omega)
        have t2 : (cutS old (some ((j + 1 : Nat) : Int)) none).cps.toList = old.cps.toList.drop (j + 1) := cut_from (by omega)
        have tw : ((cutS old none (some (j : Int)) ++ sgn (97 + q.toNat)) ++ cutS old (some ((j + 1 : Nat) : Int)) none).cps.toList = (old.cps.toList.take j ++ [97 + q.toNat]) ++ old.cps.toList.drop (j + 1) := by
          rw [cps_app, cps_app, t1, t2]
          rfl
        refine ⟨old, rfl, osm, _, _, rfl, rfl, ?_, cont _ _ _ _ ?_ (S6.more (by omega)) (((K4.trans K34).trans K45).trans K56)⟩
        · refine Nat.le_trans (Nat.add_le_add (b := 9) (d := 8) (show (cutS old none (some (j : Int)) ++ sgn (97 + q.toNat)).length ≤ 9 from ?_) (Nat.le_trans (cutS_length _ _ _) (show old.length ≤ 8 by omega))) (by decide)
          rw [show ∀ s : Str, s.length = s.cps.toList.length from fun s => by rw [Array.length_toList]; rfl, cps_app, t1, List.length_append, List.length_take]
          show min j _ + 1 ≤ 9
          omega
        · show nameD (.str ((cutS old none (some (j : Int)) ++ sgn (97 + q.toNat)) ++ cutS old (some ((j + 1 : Nat) : Int)) none)) = true
          rw [nameD_iff, tw]
          refine ⟨?_, ?_, fun c hc => ?_⟩
          · simp only [List.length_append, List.length_take, List.length_drop, List.length_cons, List.length_nil]
            omega
          · simp only [List.length_append, List.length_take, List.length_drop, List.length_cons, List.length_nil]
            omega
          · rcases List.mem_append.mp hc with hc | hc
            · rcases List.mem_append.mp hc with hc | hc
              · exact oaz c (List.mem_of_mem_take hc)
              · rw [List.mem_singleton.mp hc]
                exact az_of (by omega)
            · exact oaz c (List.mem_of_mem_drop hc)
    · intro wd G3 v6 v7 hwd S3 K3
      have lG3 := K3.at lG la
      apply cutR (α := L2.St → Hp → Prop) (F := fun R => ∀ (wd : Str), nameD (.str wd) = true → (41 ≤ t + 1 → wd = wordT (t + 1)) → R [some (.ref a), some (.int m), some (.str abc), some (.ref l), some (.int (t + 1)), some (.str wd), v6, v7, none] G3)
      · intro cont
        refine ⟨_, rfl, _, _, rfl, rfl, _, rfl, ?_⟩
        refine ite2 (fun hl => ?_) (fun hl => cont wd hwd (fun h => absurd (decide_eq_true (show (40 : Int) < t + 1 by omega)) hl))
        refine ⟨_, rfl, _, rfl, _, _, rfl, rfl, (by show (0 : Int) < 26; decide), abc, _, _, rfl, rfl, by decide +kernel, atI_abc (by omega) (by omega), _, _, rfl, rfl, ?_, ?_⟩
        · show 1 + 1 ≤ sizeLine
          decide
        refine ⟨_, rfl, _, rfl, _, _, rfl, rfl, ⟨by decide, by omega⟩, _, _, rfl, rfl, (by show (0 : Int) < 26; decide), abc, _, _, rfl, rfl, by decide +kernel, atI_abc (by omega) (by omega), _, _, rfl, rfl, ?_, ?_⟩
        · show 2 + 1 ≤ sizeLine
          decide
        have e1 : (((t : Int) + 1) % 26).toNat = (t + 1) % 26 := by omega
        have e2 : (((t : Int) + 1) / 26 % 26).toNat = (t + 1) / 26 % 26 := by omega
        refine cont _ ?_ (fun _ => ?_)
        · show nameD (.str ((sgn (97 + (((t : Int) + 1) % 26).toNat) ++ "q") ++ sgn (97 + (((t : Int) + 1) / 26 % 26).toNat))) = true
          rw [e1, e2]
          exact nameD_word (t + 1)
        · show (sgn (97 + (((t : Int) + 1) % 26).toNat) ++ "q") ++ sgn (97 + (((t : Int) + 1) / 26 % 26).toNat) = _
          rw [e1, e2]
          rfl
      · intro wd hwd hlate
        have KF := KG.trans (off_mono (a := l) K3)
        refine ⟨_, rfl, _, rfl, l, _, rfl, .inl (SqL.of lG3), rfl, flat_strs _, _, rfl, ?_⟩
        show if (!inV (.str wd) (ws.map V.str)) = true then _ else _
        rw [inV_strs]
        cases hin : ws.any (fun y => y == wd) with
        | false =>
          refine iteT ⟨_, rfl, .inl ⟨rfl, _, SqL.of lG3⟩, _, rfl, l, _, _, rfl, rfl, lG3, ?_, t + 1, ws ++ [wd], _, _, _, by omega, rfl, (S3.other la lsc).more (by omega), ?_, ?_, ?_, ?_, ?_, ?_⟩
          · rw [lm]
            exact Nat.lt_of_le_of_lt (show ws.length ≤ 12 by omega) (by decide)
          · rw [off_other la, off_upd]
            exact KF
          · rw [upd_same, List.map_append]
            rfl
          · intro s hs
            rcases List.mem_append.mp hs with hs | hs
            · exact okw s hs
            · rw [List.mem_singleton.mp hs]
              exact hwd
          · rw [List.length_append, List.length_singleton]
            omega
          · intro s h1 h2
            by_cases e : s = t + 1
            · subst e
              rw [← hlate h1]
              simp
            · exact List.mem_append_left _ (pw s h1 (by omega))
          · rw [List.nodup_append]
            refine ⟨nd, by simp, fun x hx y hy e => ?_⟩
            rw [List.mem_singleton.mp hy] at e
            subst e
            have z : ws.any (fun y => y == x) = true := List.any_eq_true.mpr ⟨x, hx, by simp⟩
            rw [hin] at z
            cases z
        | true =>
          refine iteF ⟨t + 1, ws, _, _, _, by omega, rfl, S3.more (by omega), KF, lG3, okw, lw, (fun s h1 h2 => ?_), nd⟩
          by_cases e : s = t + 1
          · subst e
            rw [← hlate h1]
            obtain ⟨y, hy, e⟩ := List.any_eq_true.mp hin
            rw [← eq_of_beq e]
            exact hy
          · exact pw s h1 (by omega)
end
end Vk
set_option maxHeartbeats 8000000
namespace Vk
open PySem PySem.Spec PyProof.Rows L2 GxR
theorem atI_three {x0 x1 x2 : V} {r : Int} (h0 : 0 ≤ r) (h4 : r < 3) : ∃ x, atI [x0, x1, x2] r = some x ∧ (x = x0 ∨ x = x1 ∨ x = x2) := by
  have z : r = 0 ∨ r = 1 ∨ r = 2 := by omega
  rcases z with rfl | rfl | rfl
  · exact ⟨_, rfl, .inl rfl⟩
  · exact ⟨_, rfl, .inr (.inl rfl)⟩
  · exact ⟨_, rfl, .inr (.inr rfl)⟩
theorem arr_parts {a : PyData} (h : arrivalD a = true) : ∃ (k : Str) (t : Int), a = .tuple [.str k, .int t] ∧ (k = "at" ∨ k = "after") := by
  have hj : jobD (.tuple [.str "a", a, .int 0]) = true := by
    show (nameD (.str "a") && (arrivalD a && (integerD 0 (.int 0) && le9 (.int 0)))) = true
    rw [h]
    decide +kernel
  obtain ⟨n, k, t, e, e1, _, hk⟩ := job_parts hj
  cases e1
  exact ⟨k, t, rfl, hk⟩
theorem arr_at {i : Int} (h : 0 ≤ i) : arrivalD (.tuple [.str "at", .int i]) = true := by
  show (if atS "at" (.str "at") = true then integerD 0 (.int i) else (atS "after" (.str "at") && integerD 1 (.int i))) = true
  rw [if_pos (by decide +kernel)]
  exact decide_eq_true h
theorem arr_after {i : Int} (h : 1 ≤ i) : arrivalD (.tuple [.str "after", .int i]) = true := by
  show (if atS "at" (.str "after") = true then integerD 0 (.int i) else (atS "after" (.str "after") && integerD 1 (.int i))) = true
  rw [if_neg (by decide +kernel), show atS "after" (.str "after") = true from by decide +kernel, Bool.true_and]
  exact decide_eq_true h
theorem dps_set {K : PySem.W.Frag} {H : Hp} {v : V} {d : PyData} (hv : Dp K H v d) : ∀ {vs : List V} {ds : List PyData} (j : Nat), DpAll K H vs ds → DpAll K H (vs.set j v) (ds.set j d)
  | _, _, _, .nil => .nil
  | _, _, 0, .cons x r => .cons hv r
  | _, _, j + 1, .cons x r => .cons x (dps_set hv j r)
theorem ixN_nat {n j : Nat} (h : j < n) : ixN n ((0 : Int) + (j : Nat)) = some j := by
  rw [Int.zero_add]
  unfold ixN
  rw [if_pos (by omega), if_pos (by omega)]
  rfl
/-- a number that can be written -/
def bnd (d : PyData) : Prop := ∀ (k : PyData) (t : Int), d = .tuple [k, .int t] → t ≤ 10 ^ 30
theorem bnd_of {k : Str} {i : Int} (h : i ≤ 1000000) : bnd (.tuple [.str k, .int i]) := fun _ _ e => by
  cases e
  have z : (1000000 : Int) ≤ 10 ^ 30 := by decide
  omega
/-- who comes behind so many finishes comes -/
def OkA (ds : List PyData) (j : Nat) : Prop := ∀ m < j, ∀ (k : Str) (t : Int), ds[m]? = some (.tuple [.str k, .int t]) → k = "at" ∨ t ≤ (ds.countP (befA t) : Nat)
theorem OkA.next {ds : List PyData} {i : Nat} {k : Str} {t : Int} (o : OkA ds i) (h : ds[i]? = some (.tuple [.str k, .int t])) (ok : k = "at" ∨ t ≤ (ds.countP (befA t) : Nat)) : OkA ds (i + 1) := fun m hm k' t' h' => by
  by_cases e : m = i
  · subst e
    rw [h] at h'
    cases h'
    exact ok
  · exact o m (by omega) k' t' h'
theorem cnt_set {p : PyData → Bool} {b : PyData} (hb : p b = true) : ∀ (ds : List PyData) (i : Nat), ds.countP p ≤ (ds.set i b).countP p
  | [], _ => Nat.le_refl _
  | x :: ds, 0 => by
    rw [List.set_cons_zero, List.countP_cons, List.countP_cons, if_pos hb]
    split <;> omega
  | x :: ds, i + 1 => by
    rw [List.set_cons_succ, List.countP_cons, List.countP_cons]
    have z := cnt_set hb ds i
    omega
theorem OkA.put {ds : List PyData} {i : Nat} {r : Int} (o : OkA ds i) (hi : i < ds.length) : OkA (ds.set i (.tuple [.str "at", .int r])) (i + 1) := fun m hm k t h => by
  by_cases e : m = i
  · subst e
    rw [List.getElem?_set_self hi] at h
    cases h
    exact .inl rfl
  · rw [List.getElem?_set_ne (fun z => e z.symm)] at h
    rcases o m (by omega) k t h with z | z
    · exact .inl z
    · refine .inr (Int.le_trans z ?_)
      have q := cnt_set (p := befA t) (b := .tuple [.str "at", .int r]) rfl ds i
      omega
theorem not_before {α : Type} : ∀ {l : List α} {j : Nat} {x : α}, l.Nodup → l[j]? = some x → x ∉ l.take j
  | [], _, _, _, h => by cases h
  | y :: l, 0, x, _, _ => by simp
  | y :: l, j + 1, x, nd, h => by
    obtain ⟨n1, n2⟩ := List.nodup_cons.mp nd
    rw [List.getElem?_cons_succ] at h
    rw [List.take_succ_cons, List.mem_cons]
    rintro (e | e)
    · subst e
      exact n1 (List.mem_of_getElem? h)
    · exact not_before n2 h e
/-- jobs without a fault -/
theorem place_none {es : List PyData} (ok : ∀ e ∈ es, jobD e = true) (nd : (es.map nameOf).Nodup) (w : ∀ (k : Str) (t : Int), .tuple [.str k, .int t] ∈ es.map arrD → k = "at" ∨ t ≤ ((es.map arrD).countP (befA t) : Nat)) : jobsPlace (.tuple es) = none := by
  have h1 : eachPlace es = none := find_no fun j hj => by
    unfold badAt
    rw [List.getElem?_eq_getElem hj]
    show (!jobD es[j] || ((es.take j).map nameOf).any (fun y => y == nameOf es[j])) = false
    rw [ok _ (List.getElem_mem hj)]
    refine Bool.eq_false_iff.mpr fun z => ?_
    obtain ⟨y, hy, e⟩ := List.any_eq_true.mp (show ((es.take j).map nameOf).any (fun y => y == nameOf es[j]) = true from z)
    rw [eq_of_beq e, List.map_take] at hy
    exact not_before nd (by rw [List.getElem?_map, List.getElem?_eq_getElem hj]; rfl) hy
  have h2 : waitPlace es = none := find_no fun j hj => by
    unfold waitAt
    rw [List.getElem?_eq_getElem hj]
    have hm := List.getElem_mem hj
    show waitsD es es[j] = false
    obtain ⟨n, k, t, e, e1, _, hk⟩ := job_parts (ok _ hm)
    have ha : PyData.tuple [.str k, .int t] ∈ es.map arrD := List.mem_map.mpr ⟨es[j], hm, by rw [e1]; rfl⟩
    rw [e1, waits_kind hk]
    rcases w k t ha with z | z
    · rw [z]
      rfl
    · rw [decide_eq_false (Int.not_lt.mpr z), Bool.and_false]
  show (match eachPlace es with
    | some i => some (i : Int)
    | none => match waitPlace es with
      | some i => some (i : Int)
      | none => none) = none
  rw [h1, h2]
/-- different names, nobody waits forever -/
def Fine (es : List PyData) : Prop := (es.map nameOf).Nodup ∧ ∀ (k : Str) (t : Int), .tuple [.str k, .int t] ∈ es.map arrD → k = "at" ∨ t ≤ ((es.map arrD).countP (befA t) : Nat)
section
variable {P : Program} {w : World} {K : PySem.W.Frag} {mg : Str → Option Value} {base : Heap}
def JW (K : PySem.W.Frag) (sc a l : Addr) (N : Int) (H : Hp) (len : Nat) (Pz : List PyData → Prop) (G : Hp) : Prop := ∃ (xs : List V) (ds : List PyData), Sto sc a N G ∧ Same (Off l (Off a H)) (Off l (Off a G)) ∧ G l = some (.lst xs) ∧ DpAll K (Off l (Off a G)) xs ds ∧ ds.length = len ∧ (∀ d ∈ ds, arrivalD d = true) ∧ Pz ds
theorem JW.ok0 {K : PySem.W.Frag} {sc a l : Addr} {N : Int} {H G : Hp} {len : Nat} (h : JW K sc a l N H len (fun ds => ∀ d ∈ ds, bnd d) G) : JW K sc a l N H len (fun ds => OkA ds 0 ∧ ∀ d ∈ ds, bnd d) G := by
  obtain ⟨xs, ds, h1, h2, h3, h4, h5, h6, b⟩ := h
  exact ⟨xs, ds, h1, h2, h3, h4, h5, h6, fun m hm => absurd hm (Nat.not_lt_zero _), b⟩
def spJobs (K : PySem.W.Frag) : Sp := fun vs H Q _ => ∃ (a sc : Addr) (n mo la : Int), vs = [.ref a, .int mo, .int la] ∧ Sto sc a n H ∧ n ≤ 800000 ∧ 0 ≤ mo ∧ mo ≤ 12 ∧ 0 ≤ la ∧ la ≤ 1000000 ∧
  ∀ (v : V) (js : List PyData) (H' : Hp), Sto sc a (n + 1000) H' → Kept a H H' → Dp K (Off a H') v (.tuple js) → js.all jobD = true → js.length ≤ 12 → Fine js → (∀ a ∈ js.map arrD, bnd a) → Q v H'
theorem scJobs : FnScope ["store", "most", "late", "count", "arrivals", "k", "at", "kind", "number", "earlier", "jobs", "name", "door", "one"] ["store", "most", "late"] (defScope sJobs) := ⟨rfl, rfl, rfl, by decide +kernel, rfl, by decide +kernel, by decide +kernel⟩
theorem ok_jobs (D : Df K mg "_law_jobs" sJobs ["store", "most", "late"]) (B : Blt mg) (PK : Cl P w K mg base CX0 2 "_law_pick" ["store", "count"] spPick) (NM : Cl P w K mg base CX0 3 "_law_names" ["store", "count"] spNames)
    (BF : Cl P w K mg base CX0 1 "_law_before" ["arrival", "finishes"] (spBefore K)) : Cl P w K mg base CX0 4 "_law_jobs" ["store", "most", "late"] (spJobs K) := by
  refine cl0 D scJobs (fun vs H Q E h => ?_) (fun f cdv A outer s H vs Q E hr h => ?_)
  · obtain ⟨a, sc, n, mo, la, rfl, _⟩ := h
    rfl
  · obtain ⟨a, sc, n, mo, la, rfl, S, n1, m0, m12, l0, l1000, k⟩ := h
    refine ⟨_, pss_cons (ps_set (i := 3) scJobs.nd rfl (Or.inl rfl) (pc PK hr (by decide) (pa_cons (pv 0) (pa_cons (pe_op op_add (pv 1) pe_int) pa_nil))))
      (pss_cons (ps_set (i := 4) scJobs.nd rfl (Or.inl rfl) (pe_lst pa_nil))
      (pss_cons (ps_for PassesOwn.never rfl (pi_range1 rfl B.range (pa_cons (pv 3) pa_nil)) (pg_name (i := 5) scJobs.nd rfl (Or.inl rfl))
        (pss_cons (ps_set (i := 6) scJobs.nd rfl (Or.inl rfl) (pe_ix ix_list (pe_lst (pa_cons pe_int (pa_cons (pc PK hr (by decide) (pa_cons (pv 0) (pa_cons pe_int pa_nil))) (pa_cons (pc PK hr (by decide) (pa_cons (pv 0) (pa_cons (pe_op op_add (pv 2) pe_int) pa_nil))) pa_nil)))) (pc PK hr (by decide) (pa_cons (pv 0) (pa_cons pe_int pa_nil))) (fun _ _ => rfl)))
        (pss_one (ps_expr (pe_bm PySem.F.plainAttrs_list PySem.F.slot_list_append PySem.F.type_list_append mt_append (pv 4)
          (pa_cons (pe_ix ix_list (pe_lst (pa_cons (pe_tup (pa_cons pe_str (pa_cons (pv 6) pa_nil))) (pa_cons (pe_tup (pa_cons pe_str (pa_cons (pv 6) pa_nil))) (pa_cons (pe_tup (pa_cons pe_str (pa_cons (pe_op op_add pe_int (pc PK hr (by decide) (pa_cons (pv 0) (pa_cons (pv 3) pa_nil)))) pa_nil))) pa_nil)))) (pc PK hr (by decide) (pa_cons (pv 0) (pa_cons pe_int pa_nil))) (fun _ _ => rfl)) pa_nil))))))
      (pss_cons (ps_for PassesOwn.never rfl (pi_range1 rfl B.range (pa_cons (pv 3) pa_nil)) (pg_name (i := 5) scJobs.nd rfl (Or.inl rfl))
        (pss_cons (ps_asg (pe_ix ix_list (pv 4) (pv 5) (fun _ _ => rfl)) (pg_tup rfl (pgs_cons (pg_name (i := 7) scJobs.nd rfl (.inl rfl)) (pgs_cons (pg_name (i := 8) scJobs.nd rfl (.inr rfl)) pgs_nil))))
        (pss_cons (ps_setLc (i := 9) (own := [("one", 13)]) (g := gName 13) (tt := tB (tCal (spBefore K) (tCons (tVar 13) (tCons (tVar 8) tNil)))) (te := tVar 13) rfl scJobs.nd rfl rfl (sw_true rfl rfl rfl (by decide +kernel)) (pi_list (pv 4)) (blkOk_by (own := [("one", 13)]) (N := ["store", "most", "late", "count", "arrivals", "k", "at", "kind", "number", "earlier", "jobs", "name", "door", "one"]) (sc := defScope sJobs) (by decide +kernel))
          (fun _ _ _ _ _ => pg_name (i := 13) scJobs.nd rfl (Or.inl rfl)) (fun _ _ _ _ _ => pts_one (pt_val (pc BF hr (by decide) (pa_cons (pv 13) (pa_cons (pv 8) pa_nil))))) (fun _ _ _ _ _ => pv 13))
        (pss_one (ps_if (PW.pt (pw_and (pt_cmpR op_eq (pv 7) pe_str (nomark _)) (pw_and1 (pt_cmpR op_lt (pe_callB call_len_seq (by rfl) B.len PySem.boot_len (pa_cons (pv 9) pa_nil)) (pv 8) (nomark _)))))
          (pss_one (ps_asg (pe_tup (pa_cons pe_str (pa_cons (pc PK hr (by decide) (pa_cons (pv 0) (pa_cons (pe_op op_add (pv 2) pe_int) pa_nil))) pa_nil))) (pg_sub (pv 4) (pv 5) set_list))) pss_nil)))))
      (pss_cons (ps_set (i := 10) scJobs.nd rfl (Or.inl rfl) (pe_lst pa_nil))
      (pss_cons (ps_for PassesOwn.never rfl (pi_list (pc NM hr (by decide) (pa_cons (pv 0) (pa_cons (pv 3) pa_nil)))) (pg_name (i := 11) scJobs.nd rfl (Or.inl rfl))
        (pss_cons (ps_set (i := 12) scJobs.nd rfl (Or.inl rfl) (pe_ix ix_list (pe_lst (pa_cons pe_int (pa_cons pe_int (pa_cons (pc PK hr (by decide) (pa_cons (pv 0) (pa_cons pe_int pa_nil))) pa_nil)))) (pc PK hr (by decide) (pa_cons (pv 0) (pa_cons pe_int pa_nil))) (fun _ _ => rfl)))
        (pss_one (ps_expr (pe_bm PySem.F.plainAttrs_list PySem.F.slot_list_append PySem.F.type_list_append mt_append (pv 10)
          (pa_cons (pe_tup (pa_cons (pv 11) (pa_cons (pe_ix ix_list (pv 4) (pe_callB call_len_seq (by rfl) B.len PySem.boot_len (pa_cons (pv 10) pa_nil)) (fun _ _ => rfl)) (pa_cons (pv 12) pa_nil)))) pa_nil))))))
      (pss_one (ps_ret (pe_callTy call_tuple_of (by rfl) B.tuple (by decide +kernel) (pa_cons (pv 10) pa_nil))))))))), ?_⟩
    -- count
    refine ⟨_, rfl, _, rfl, _, _, rfl, rfl, a, sc, mo + 1, n, rfl, by omega, by omega, S, by omega, fun c H1 c0 c1 S1 K1 => ?_⟩
    refine ⟨(by show 0 ≤ sizeLine; decide), fun l nl => ?_⟩
    have la_ : l ≠ a := S1.ne nl
    have lsc : l ≠ sc := S1.ne2 nl
    have S2 := S1.same (same_new (o := .lst []) nl)
    have far : ∀ {G : Hp} {t : Addr} {k : Str} {i : Int}, G t = some (.tup [.str k, .int i]) → t ≠ l → t ≠ a → Dp K (Off l (Off a G)) (.ref t) (.tuple [.str k, .int i]) := fun h1 h2 h3 =>
      .tup (SqT.of (by rw [off_ne h2, off_ne h3, h1])) (.cons (.str _) (.cons (.int _) .nil))
    -- the first loop
    refine ⟨_, rfl, c, rfl, by omega, by omega, ?_⟩
    refine for_range (lo := 0) (n := c.toNat) (fun i σ G => ∃ (u5 u6 : Option V), σ = [some (.ref a), some (.int mo), some (.int la), some (.int c), some (.ref l), u5, u6, none, none, none, none, none, none, none] ∧ JW K sc a l (n + 1 + 5 * i) H1 i (fun ds => ∀ d ∈ ds, bnd d) G)
      ⟨none, none, rfl, [], [], S2.more (by omega), off_mono (off_mono (same_new nl)), upd_same, .nil, rfl, (fun d hd => absurd hd (by simp)), (fun d hd => absurd hd (by simp))⟩ ?_ ?_
    · rintro i σ G hi ⟨u5, u6, rfl, xs, ds, SG, KG, lG, dG, ld, okd, bd⟩
      have xl := dps_len dG
      refine ⟨_, rfl, a, sc, 4, _, rfl, by decide, by decide, SG, by omega, fun x G1 x0 x4 SG1 KG1 => ?_⟩
      refine ⟨_, rfl, _, rfl, _, _, rfl, rfl, a, sc, la + 1, _, rfl, by omega, by omega, SG1, by omega, fun y G2 y0 y4 SG2 KG2 => ?_⟩
      refine ⟨(by show 3 ≤ sizeLine; decide), fun q nq => ?_⟩
      have sq := same_new (o := .lst [.int 0, .int x, .int y]) nq
      have qa := SG2.ne nq
      refine ⟨_, rfl, a, sc, 3, _, rfl, by decide, by decide, SG2.same sq, by omega, fun z G3 z0 z3 SG3 KG3 => ?_⟩
      obtain ⟨av, hav, vav⟩ := atI_three (x0 := .int 0) (x1 := .int x) (x2 := .int y) z0 z3
      refine ⟨q, _, _, av, rfl, rfl, SqL.of (KG3.at upd_same qa), hav, ?_⟩
      obtain ⟨ai, ai0, ai1, rfl⟩ : ∃ ai : Int, 0 ≤ ai ∧ ai ≤ 1000000 ∧ av = .int ai := by
        rcases vav with rfl | rfl | rfl
        · exact ⟨_, by decide, by decide, rfl⟩
        · exact ⟨_, x0, by omega, rfl⟩
        · exact ⟨_, y0, by omega, rfl⟩
      have KA : Kept a G G3 := ((KG1.trans KG2).trans (kept_same sq)).trans KG3
      have lG3 := KA.at lG la_
      -- arrivals.append
      refine ⟨_, rfl, .inl ⟨rfl, _, SqL.of lG3⟩, ?_⟩
      refine ⟨_, rfl, (by show 2 ≤ sizeLine; decide), fun t1 m1 => ?_⟩
      have g1 := same_new (o := .tup [.str ("at" : Str), .int ai]) m1
      refine ⟨_, rfl, (by show 2 ≤ sizeLine; decide), fun t2 m2 => ?_⟩
      have g2 := same_new (o := .tup [.str ("at" : Str), .int ai]) m2
      have SG4 := (SG3.same g1).same g2
      have t1a := SG3.ne m1
      have t2a := (SG3.same g1).ne m2
      refine ⟨_, rfl, _, rfl, a, sc, c, _, rfl, by omega, by omega, SG4, by omega, fun r G4 r0 rc SG5 KG4 => ?_⟩
      refine ⟨_, _, rfl, rfl, (by show 2 ≤ sizeLine; decide), fun t3 m3 => ?_⟩
      have g3 := same_new (o := .tup [.str ("after" : Str), .int (1 + r)]) m3
      have t3a := SG5.ne m3
      refine ⟨(by show 3 ≤ sizeLine; decide), fun q2 nq2 => ?_⟩
      have g4 := same_new (o := .lst [.ref t1, .ref t2, .ref t3]) nq2
      have q2a := (SG5.same g3).ne nq2
      refine ⟨_, rfl, a, sc, 3, _, rfl, by decide, by decide, (SG5.same g3).same g4, by omega, fun e G5 e0 e3 SG6 KG5 => ?_⟩
      obtain ⟨ev, hev, vev⟩ := atI_three (x0 := .ref t1) (x1 := .ref t2) (x2 := .ref t3) e0 e3
      refine ⟨q2, _, _, ev, rfl, rfl, SqL.of (KG5.at upd_same q2a), hev, ?_⟩
      have K45 : Kept a G4 G5 := (kept_same (g3.trans g4)).trans KG5
      have K35 : Kept a G3 G5 := ((kept_same (g1.trans g2)).trans KG4).trans K45
      have KB : Kept a G G5 := KA.trans K35
      have lG5 := KB.at lG la_
      have b1 : G5 t1 = some (.tup [.str ("at" : Str), .int ai]) := K45.at (KG4.at (g2.at upd_same) t1a) t1a
      have b2 : G5 t2 = some (.tup [.str ("at" : Str), .int ai]) := K45.at (KG4.at upd_same t2a) t2a
      have b3 : G5 t3 = some (.tup [.str ("after" : Str), .int (1 + r)]) := KG5.at (g4.at upd_same) t3a
      have tl1 : t1 ≠ l := fun e => by rw [e, lG3] at m1; cases m1
      have tl2 : t2 ≠ l := fun e => by rw [e, g1.at lG3] at m2; cases m2
      have tl3 : t3 ≠ l := fun e => by rw [e, KG4.at ((g1.trans g2).at lG3) la_] at m3; cases m3
      obtain ⟨ed, ded, oked, bed⟩ : ∃ ed, Dp K (Off l (Off a G5)) ev ed ∧ arrivalD ed = true ∧ bnd ed := by
        rcases vev with rfl | rfl | rfl
        · exact ⟨_, far b1 tl1 t1a, arr_at ai0, bnd_of ai1⟩
        · exact ⟨_, far b2 tl2 t2a, arr_at ai0, bnd_of ai1⟩
        · exact ⟨_, far b3 tl3 t3a, arr_after (by omega), bnd_of (by omega)⟩
      have offs : Off l (Off a (upd G5 l (.lst (xs ++ [ev])))) = Off l (Off a G5) := by rw [off_other la_, off_upd]
      refine ⟨l, _, _, rfl, rfl, lG5, by rw [xl, ld]; exact Nat.lt_of_lt_of_le (show i < 13 by omega) (by decide), _, _, rfl, xs ++ [ev], ds ++ [ed], (SG6.other la_ lsc).more (by omega), ?_, upd_same, ?_, by rw [List.length_append, ld]; rfl, ?_, ?_⟩
      · rw [offs]
        exact KG.trans (off_mono KB)
      · rw [offs]
        exact dps_app (dps_same (off_mono KB) dG) (.cons ded .nil)
      · intro d hd
        rcases List.mem_append.mp hd with hd | hd
        · exact okd d hd
        · rw [List.mem_singleton.mp hd]
          exact oked
      · intro d hd
        rcases List.mem_append.mp hd with hd | hd
        · exact bd d hd
        · rw [List.mem_singleton.mp hd]
          exact bed
    rintro σ G ⟨u5, u6, rfl, JG⟩
    -- the second loop
    refine ⟨_, rfl, c, rfl, by omega, by omega, ?_⟩
    refine for_range (lo := 0) (n := c.toNat) (fun i σ G => ∃ (u5 u6 u7 u8 u9 : Option V), σ = [some (.ref a), some (.int mo), some (.int la), some (.int c), some (.ref l), u5, u6, u7, u8, u9, none, none, none, none] ∧ JW K sc a l (n + 1 + 5 * c.toNat + i) H1 c.toNat (fun ds => OkA ds i ∧ ∀ d ∈ ds, bnd d) G)
      ⟨_, _, _, _, _, rfl, by rw [show n + 1 + 5 * (c.toNat : Int) + ((0 : Nat) : Int) = n + 1 + 5 * c.toNat by omega]; exact JG.ok0⟩ ?_ ?_
    · rintro i σ G hi ⟨u5, u6, u7, u8, u9, rfl, xs, ds, SG, KG, lG, dG, ld, okd, okA, bd⟩
      have xl := dps_len dG
      have hxi : xs[i]? = some xs[i] := List.getElem?_eq_getElem (by omega)
      obtain ⟨d, hd, dd⟩ := dps_getV dG hxi
      generalize xs[i] = v at hxi dd
      obtain ⟨kd, t, rfl, hkd⟩ := arr_parts (okd d (List.mem_of_getElem? hd))
      obtain ⟨pa, kv, tv, rfl, qa, dk, dt⟩ := dp_two dd
      have ek := dp_str dk
      subst ek
      have et := dp_int dt
      subst et
      have sub : Same (Off l (Off a G)) G := (off_sub l (Off a G)).trans (off_sub a G)
      have hat : atI xs ((0 : Int) + (i : Nat)) = some (.ref pa) := by
        rw [Int.zero_add]
        exact atI_nat hxi
      refine ⟨_, rfl, _, rfl, l, xs, _, _, rfl, rfl, SqL.of lG, hat, pa, _, rfl, same_seqT sub qa, rfl, _, _, rfl, _, _, rfl, rfl, ?_⟩
      -- earlier
      refine ⟨_, rfl, l, rfl, ⟨_, SqL.of lG⟩, fun D2 nD2 => ?_⟩
      refine lc_it (walk_list (K := K) (a := l) (xs := xs)) (fun m Hd => ∃ ac2, Same G Hd ∧ Hd D2 = some (.lst ac2) ∧ ac2.length = (ds.take m).countP (befA t))
        ⟨[], same_new nD2, upd_same, rfl⟩ (fun m Hd _ ⟨ac2, s9, _⟩ => SqL.of (s9.at lG)) ?_ ?_
      · rintro m y2 Hd0 Hd hm ⟨ac2, s9, hD2, lc2⟩ ⟨rfl, hy2⟩
        obtain ⟨d2, hd2, dp2⟩ := dps_getV dG hy2
        obtain ⟨k2, t2, rfl, _⟩ := arr_parts (okd d2 (List.mem_of_getElem? hd2))
        refine ⟨rfl, _, rfl, _, rfl, y2, k2, t2, t, rfl, dp_same (sub.trans s9) dp2, ⟨_, rfl, ?_⟩⟩
        have e2 : (ds.take (m + 1)).countP (befA t) = (ds.take m).countP (befA t) + (if befA t (.tuple [.str k2, .int t2]) = true then 1 else 0) := by
          rw [List.take_add_one, hd2]
          show (ds.take m ++ [PyData.tuple [.str k2, .int t2]]).countP (befA t) = _
          rw [List.countP_append, List.countP_singleton]
        have small : ac2.length ≤ 13 := by
          have z : (ds.take m).countP (befA t) ≤ (ds.take m).length := List.countP_le_length
          rw [List.length_take] at z
          omega
        cases hb : (decide (k2 = "at") || decide (t2 < t)) with
        | true =>
          refine iteT ⟨_, rfl, ac2, hD2, Nat.lt_of_le_of_lt small (by decide), ac2 ++ [_], same_put s9 nD2, upd_same, ?_⟩
          rw [e2, if_pos (show befA t (.tuple [.str k2, .int t2]) = true from hb), List.length_append, List.length_singleton, lc2]
        | false =>
          refine iteF ⟨ac2, s9, hD2, ?_⟩
          rw [e2, if_neg (by rw [show befA t (.tuple [.str k2, .int t2]) = false from hb]; exact Bool.false_ne_true), lc2]
          rfl
      rintro Hd ⟨ac2, s9, hD2, lc2⟩
      rw [List.take_of_length_le (by omega)] at lc2
      have next : (kd = "at" ∨ t ≤ (ds.countP (befA t) : Nat)) → JW K sc a l (n + 1 + 5 * c.toNat + ((i + 1 : Nat) : Int)) H1 c.toNat (fun ds => OkA ds (i + 1) ∧ ∀ d ∈ ds, bnd d) Hd := fun hok =>
        ⟨xs, ds, (SG.same s9).more (by omega), KG.trans (off_mono (off_mono s9)), s9.at lG, dps_same (off_mono (off_mono s9)) dG, ld, okd, okA.next hd hok, bd⟩
      refine ⟨_, rfl, rfl, _, rfl, ?_⟩
      refine ite2 (fun _ => ?_) (fun hz => iteF ⟨_, _, _, _, _, rfl, next (.inl (hkd.resolve_right fun e => hz (by rw [e]; rfl)))⟩)
      refine ⟨_, rfl, D2, ac2, rfl, .inl (SqL.of hD2), _, rfl, _, _, rfl, rfl, _, rfl, ?_⟩
      refine ite2 (fun _ => ?_) (fun hz => ⟨_, _, _, _, _, rfl, next (.inr (by rw [← lc2]; exact Int.not_lt.mp fun e => hz (decide_eq_true e)))⟩)
      refine ⟨_, rfl, _, rfl, _, _, rfl, rfl, a, sc, la + 1, _, rfl, by omega, by omega, SG.same s9, by omega, fun r G2 r0 r1 SG2 KG2 => ?_⟩
      refine ⟨(by show 2 ≤ sizeLine; decide), fun q nq => ?_⟩
      have lG2 := KG2.at (s9.at lG) la_
      have sq := same_new (o := .tup [.str ("at" : Str), .int r]) nq
      have qa := SG2.ne nq
      have ql : q ≠ l := fun e => by rw [e, lG2] at nq; cases nq
      have KA : Kept a G (upd G2 q (.tup [.str ("at" : Str), .int r])) := ((kept_same s9).trans KG2).trans (kept_same sq)
      have offs : Off l (Off a (upd (upd G2 q (.tup [.str ("at" : Str), .int r])) l (.lst (xs.set i (.ref q))))) = Off l (Off a (upd G2 q (.tup [.str ("at" : Str), .int r]))) := by rw [off_other la_, off_upd]
      refine ⟨_, rfl, _, rfl, l, xs, _, i, rfl, rfl, sq.at lG2, ixN_nat (by omega), _, _, _, _, _, rfl, xs.set i (.ref q), ds.set i (.tuple [.str "at", .int r]), ((SG2.same sq).other la_ lsc).more (by omega), ?_, upd_same, ?_, by rw [List.length_set, ld], ?_, okA.put (by omega), ?_⟩
      · rw [offs]
        exact KG.trans (off_mono KA)
      · rw [offs]
        exact dps_set (far upd_same ql qa) i (dps_same (off_mono KA) dG)
      · intro d hd
        rcases List.mem_or_eq_of_mem_set hd with hd | rfl
        · exact okd d hd
        · exact arr_at r0
      · intro d hd
        rcases List.mem_or_eq_of_mem_set hd with hd | rfl
        · exact bd d hd
        · exact bnd_of (by omega)
    rintro σ Gp ⟨u5, u6, u7, u8, u9, rfl, xs, ds, SG, KG, lG, dG, ld, okd, okA, bd⟩
    have xl := dps_len dG
    -- jobs, names
    refine ⟨(by show 0 ≤ sizeLine; decide), fun lj nlj => ?_⟩
    have sj := same_new (o := .lst []) nlj
    have lja := SG.ne nlj
    have ljsc := SG.ne2 nlj
    refine ⟨_, rfl, _, rfl, a, sc, _, c, rfl, SG.same sj, by omega, c0, by omega, fun ln ws G5 nln lna S5 K5 hln lws okws ndw => ?_⟩
    have lnj : ln ≠ lj := fun e => by rw [e, upd_same] at nln; cases nln
    have lj5 := K5.at (o := .lst []) upd_same lja
    have KP5 : Kept a Gp G5 := (kept_same sj).trans K5
    have llj : l ≠ lj := fun e => by rw [← e, lG] at nlj; cases nlj
    have l5 := KP5.at lG la_
    have dX : DpAll K (Off lj (Off a Gp)) xs ds := by
      rw [off_none (off_free nlj)]
      exact dps_same (off_sub l _) dG
    have F5 : Same (Off lj (Off a Gp)) (Off lj (Off a G5)) := off_mono KP5
    refine ⟨ln, rfl, ⟨_, SqL.of hln⟩, for_it (walk_list (K := K) (a := ln) (xs := ws.map V.str)) (fun i σ Gi => ∃ (u5 u6 u7 u8 u9 u11 u12 : Option V) (ys : List V) (es : List PyData), σ = [some (.ref a), some (.int mo), some (.int la), some (.int c), some (.ref l), u5, u6, u7, u8, u9, some (.ref lj), u11, u12, none] ∧
        Sto sc a (n + 1 + 5 * c.toNat + c.toNat + 800 + 2 * i) Gi ∧ Same (Off lj (Off a Gp)) (Off lj (Off a Gi)) ∧ Gi l = some (.lst xs) ∧ Gi ln = some (.lst (ws.map V.str)) ∧ Gi lj = some (.lst ys) ∧ DpAll K (Off lj (Off a Gi)) ys es ∧ es.length = i ∧ (∀ e ∈ es, jobD e = true) ∧ es.map nameOf = ws.take i ∧ es.map arrD = ds.take i)
      ⟨_, _, _, _, _, _, _, [], [], rfl, S5.more (by omega), F5, l5, hln, lj5, .nil, rfl, (fun e he => absurd he (by simp)), rfl, rfl⟩ (fun i σ Gi _ ⟨_, _, _, _, _, _, _, _, _, _, _, _, _, h, _⟩ => SqL.of h) ?_ ?_⟩
    · rintro i v1 σ Ga Gb hi ⟨u5, u6, u7, u8, u9, u11, u12, ys, es, rfl, Si, Fi, li, hi_n, hlj, dys, les, okes, enm, ear⟩ ⟨rfl, hy⟩
      rw [List.length_map] at hi
      rw [List.getElem?_map] at hy
      obtain ⟨nm, hnm, rfl⟩ := Option.map_eq_some_iff.mp hy
      have yl := dps_len dys
      refine ⟨_, rfl, a, sc, 10, _, rfl, by decide, by decide, Si, by omega, fun x G1 x0 x4 SG1 KG1 => ?_⟩
      refine ⟨(by show 3 ≤ sizeLine; decide), fun q nq => ?_⟩
      have sq := same_new (o := .lst [.int 0, .int 0, .int x]) nq
      have qa := SG1.ne nq
      refine ⟨_, rfl, a, sc, 3, _, rfl, by decide, by decide, SG1.same sq, by omega, fun z G3 z0 z3 SG3 KG3 => ?_⟩
      obtain ⟨av, hav, vav⟩ := atI_three (x0 := .int 0) (x1 := .int 0) (x2 := .int x) z0 z3
      refine ⟨q, _, _, av, rfl, rfl, SqL.of (KG3.at upd_same qa), hav, ?_⟩
      obtain ⟨ai, ai0, ai9, rfl⟩ : ∃ ai : Int, 0 ≤ ai ∧ ai ≤ 9 ∧ av = .int ai := by
        rcases vav with rfl | rfl | rfl
        · exact ⟨_, by decide, by decide, rfl⟩
        · exact ⟨_, by decide, by decide, rfl⟩
        · exact ⟨_, x0, by omega, rfl⟩
      have KA : Kept a Gb G3 := (KG1.trans (kept_same sq)).trans KG3
      have lG3 := KA.at li la_
      have lnG3 := KA.at hi_n lna
      have ljG3 := KA.at hlj lja
      have hxi : xs[i]? = some xs[i] := List.getElem?_eq_getElem (by omega)
      obtain ⟨d, hd, dd⟩ := dps_getV dX hxi
      generalize xs[i] = v at hxi dd
      have hat : atI xs ((ys.length : Nat) : Int) = some v := by
        rw [yl, les]
        exact atI_nat hxi
      refine ⟨_, rfl, .inl ⟨rfl, _, SqL.of ljG3⟩, ?_⟩
      refine ⟨_, rfl, _, rfl, _, rfl, lj, ys, rfl, .inl (SqL.of ljG3), l, xs, _, v, rfl, rfl, SqL.of lG3, hat, _, rfl, (by show 3 ≤ sizeLine; decide), fun t nt => ?_⟩
      have st := same_new (o := .tup [.str nm, v, .int ai]) nt
      have ta := SG3.ne nt
      have tl : t ≠ lj := fun e => by rw [e, ljG3] at nt; cases nt
      have KB : Kept a Gb (upd G3 t (.tup [.str nm, v, .int ai])) := KA.trans (kept_same st)
      have offs : Off lj (Off a (upd (upd G3 t (.tup [.str nm, v, .int ai])) lj (.lst (ys ++ [.ref t])))) = Off lj (Off a (upd G3 t (.tup [.str nm, v, .int ai]))) := by rw [off_other lja, off_upd]
      have FB := Fi.trans (off_mono (a := lj) KB)
      refine ⟨lj, _, _, rfl, rfl, st.at ljG3, by rw [yl, les]; exact Nat.lt_of_lt_of_le (show i < 13 by omega) (by decide), _, _, _, _, _, _, _, ys ++ [.ref t], es ++ [.tuple [.str nm, d, .int ai]], rfl, ((SG3.same st).other lja ljsc).more (by omega), ?_, ?_, ?_, upd_same, ?_, by rw [List.length_append, les]; rfl, ?_, ?_, ?_⟩
      · rw [offs]
        exact FB
      · rw [upd_ne llj]
        exact st.at lG3
      · rw [upd_ne lnj]
        exact st.at lnG3
      · rw [offs]
        refine dps_app (dps_same (off_mono KB) dys) (.cons (.tup (a := t) (SqT.of ?_) (.cons (.str nm) (.cons (dp_same FB dd) (.cons (.int ai) .nil)))) .nil)
        rw [off_ne tl, off_ne ta, upd_same]
      · intro e he
        rcases List.mem_append.mp he with he | he
        · exact okes e he
        · rw [List.mem_singleton.mp he]
          show (nameD (.str nm) && (arrivalD d && (integerD 0 (.int ai) && le9 (.int ai)))) = true
          rw [okws nm (List.mem_of_getElem? hnm), okd d (List.mem_of_getElem? hd), show integerD 0 (.int ai) = true from decide_eq_true ai0, show le9 (.int ai) = true from decide_eq_true ai9]
          rfl
      · rw [List.map_append, enm, List.take_add_one, hnm]
        rfl
      · rw [List.map_append, ear, List.take_add_one, hd]
        rfl
    · rintro σ Gi ⟨u5, u6, u7, u8, u9, u11, u12, ys, es, rfl, Si, Fi, li, hi_n, hlj, dys, les, okes, enm, ear⟩
      have yl := dps_len dys
      have wl : (ws.map V.str).length = ws.length := List.length_map ..
      rw [List.length_map] at les
      refine ⟨_, rfl, lj, ys, rfl, .inl ⟨SqL.of hlj, fun tp ntp => ?_⟩⟩
      have stp := same_new (o := .tup ys) ntp
      have tpa := Si.ne ntp
      refine k (.ref tp) es _ ((Si.same stp).more (by omega)) (((K1.trans (kept_of_off nl KG)).trans (kept_of_off nlj Fi)).trans (kept_same stp)) (.tup (a := tp) (SqT.of ?_) (dps_same ((off_sub lj _).trans (kept_same stp)) dys)) (List.all_eq_true.mpr okes) (by omega) ⟨?_, ?_⟩ ?_
      · rw [off_ne tpa, upd_same]
      · rw [enm, wl, List.take_of_length_le (Nat.le_refl _)]
        exact ndw
      · rw [ear, wl, List.take_of_length_le (by omega)]
        intro k t hm
        obtain ⟨j, hj, e⟩ := List.getElem_of_mem hm
        exact okA j (by omega) k t (by rw [List.getElem?_eq_getElem hj, e])
      · rw [ear, wl, List.take_of_length_le (by omega)]
        exact bd
end
end Vk
set_option maxHeartbeats 8000000
namespace Vk
open PySem PySem.Spec PyProof.Rows L2 GxR
def Of2 (l a : Addr) (H : Hp) : Hp := Off l (Off a H)
theorem of2_sub (l a : Addr) (H : Hp) : Same (Of2 l a H) H := (off_sub l _).trans (off_sub a H)
theorem of2_mono {l a : Addr} {H H' : Hp} (s : Same H H') : Same (Of2 l a H) (Of2 l a H') := off_mono (off_mono s)
theorem of2_kept {l a : Addr} {H H' : Hp} (k : Kept a H H') : Same (Of2 l a H) (Of2 l a H') := off_mono k
theorem of2_self {a : Addr} {H : Hp} : Of2 a a H = Off a H := by
  unfold Of2
  exact off_none off_same
theorem of2_new {l a : Addr} {H : Hp} {o : HO} (n : H l = none) (la : l ≠ a) : Of2 l a (upd H l o) = Off a H := by
  unfold Of2
  rw [off_other la, off_upd, off_none (off_free n)]
theorem of2_upd {l a : Addr} {H : Hp} {o : HO} (la : l ≠ a) : Of2 l a (upd H l o) = Of2 l a H := by
  unfold Of2
  rw [off_other la, off_upd]
theorem kept_has {a l : Addr} {H H' : Hp} (k : Kept a H H') (la : l ≠ a) (h : H l ≠ none) : H' l ≠ none := by
  have z := Same.has k l (by rw [off_ne la]; exact h)
  rw [off_ne la] at z
  exact z
theorem has2 {sc a l : Addr} {n : Int} {H H' : Hp} (S : Sto sc a n H') (k : Kept a H H') (h : H l ≠ none) : H' a ≠ none ∧ H' l ≠ none := by
  refine ⟨S.hasA, ?_⟩
  by_cases e : l = a
  · rw [e]
    exact S.hasA
  · exact kept_has k e h
theorem Same.has2 {a l : Addr} {H H' : Hp} (s : Same H H') (h : H a ≠ none ∧ H l ≠ none) : H' a ≠ none ∧ H' l ≠ none := ⟨s.has a h.1, s.has l h.2⟩
section
variable {K : PySem.W.Frag} {a l p : Addr} {G : Hp} {vs : List V} {ds : List PyData} {o : HO}
theorem new_tup2 (hA : G a ≠ none ∧ G l ≠ none) (np : G p = none) (h : DpAll K (Of2 l a G) vs ds) : Dp K (Of2 l a (upd G p (.tup vs))) (.ref p) (.tuple ds) := by
  have pa : p ≠ a := ne_has hA.1 np
  have pl : p ≠ l := ne_has hA.2 np
  exact .tup (SqT.of (by unfold Of2; rw [off_ne pl, off_ne pa, upd_same])) (dps_same (of2_mono (same_new np)) h)
theorem new_lst2 (hA : G a ≠ none ∧ G l ≠ none) (np : G p = none) (h : DpAll K (Of2 l a G) vs ds) : Dp K (Of2 l a (upd G p (.lst vs))) (.ref p) (.list ds) := by
  have pa : p ≠ a := ne_has hA.1 np
  have pl : p ≠ l := ne_has hA.2 np
  exact .lst (SqL.of (by unfold Of2; rw [off_ne pl, off_ne pa, upd_same])) (dps_same (of2_mono (same_new np)) h)
theorem dp_up2 {H H' : Hp} {v : V} {d : PyData} (s : Same H H') (h : Dp K (Of2 l a H) v d) : Dp K (Of2 l a H') v d := dp_same (of2_mono s) h
theorem cat_go2 {H : Hp} {x y : V} {ds es : List PyData} {Q : VK} (hA : H a ≠ none ∧ H l ≠ none) (hx : Dp K (Of2 l a H) x (.tuple ds)) (hy : Dp K (Of2 l a H) y (.tuple es)) (hl : ds.length + es.length ≤ 1000)
    (k : ∀ z H', Same H H' → Dp K (Of2 l a H') z (.tuple (ds ++ es)) → Q z H') : rCatA K x y H Q := by
  obtain ⟨p, xs, rfl, qx, rx⟩ := dp_tuple hx
  obtain ⟨q, ys, rfl, qy, ry⟩ := dp_tuple hy
  have l1 := dps_len rx
  have l2 := dps_len ry
  refine ⟨p, q, xs, ys, rfl, rfl, same_seqT (of2_sub l a H) qx, same_seqT (of2_sub l a H) qy, Nat.le_trans (show xs.length + ys.length ≤ 1000 by omega) (by decide), fun e => ?_, fun _ e => ?_, fun _ _ t nt => ?_⟩
  · subst e
    have e2 : ds = [] := List.eq_nil_of_length_eq_zero l1.symm
    subst e2
    exact k _ H (Same.refl H) hy
  · subst e
    have e2 : es = [] := List.eq_nil_of_length_eq_zero l2.symm
    subst e2
    rw [List.append_nil] at k
    exact k _ H (Same.refl H) hx
  · exact k _ _ (same_new nt) (new_tup2 hA nt (dps_app rx ry))
theorem slice_go2 {H : Hp} {x : V} {ds : List PyData} {lo hi : Option Int} {Q : VK} (hA : H a ≠ none ∧ H l ≠ none) (hx : Dp K (Of2 l a H) x (.tuple ds))
    (k : ∀ z H', Same H H' → Dp K (Of2 l a H') z (.tuple ((ds.drop (HT.sIx ds.length 0 lo)).take (HT.sIx ds.length ds.length hi - HT.sIx ds.length 0 lo))) → Q z H') : rSlA K x lo hi H Q := by
  obtain ⟨p, xs, rfl, qx, rx⟩ := dp_tuple hx
  have l1 := dps_len rx
  refine ⟨p, xs, rfl, same_seqT (of2_sub l a H) qx, fun w => ?_, fun _ t nt => ?_⟩
  · rw [l1] at w
    have z := k (.ref p) H (Same.refl H)
    rw [w.1, w.2, List.drop_zero, Nat.sub_zero, List.take_length] at z
    exact z hx
  · refine k _ _ (same_new nt) (new_tup2 hA nt ?_)
    unfold cutV
    rw [l1]
    exact dps_take _ (dps_drop _ rx)
end
theorem new_at {G : Hp} {p : Addr} {o : HO} (_s : Same G (upd G p o)) : upd G p o p = some o := upd_same
theorem atI_get {α : Type} {xs : List α} {r : Int} (h0 : 0 ≤ r) (h1 : r < xs.length) : ∃ x, atI xs r = some x := by
  have hj : r.toNat < xs.length := by omega
  have z := atI_nat (List.getElem?_eq_getElem hj)
  rw [Int.toNat_of_nonneg h0] at z
  exact ⟨_, z⟩
theorem dp_lst {K : PySem.W.Frag} {H : Hp} {v : V} {ds : List PyData} (h : Dp K H v (.list ds)) : ∃ p xs, v = .ref p ∧ SqL K H p xs ∧ DpAll K H xs ds := by
  cases h with
  | lst q r => exact ⟨_, _, rfl, q, r⟩
/-- an item of a list of data -/
theorem pick_dp {K : PySem.W.Frag} {a l : Addr} {H : Hp} {v : V} {ds : List PyData} {r : Int} (h : Dp K (Of2 l a H) v (.list ds)) (h0 : 0 ≤ r) (h1 : r < ds.length) : ∃ p xs x d, v = .ref p ∧ SqL K H p xs ∧ atI xs r = some x ∧ d ∈ ds ∧ Dp K (Of2 l a H) x d := by
  obtain ⟨p, xs, rfl, q, rr⟩ := dp_lst h
  obtain ⟨x, d, e1, e2, e3⟩ := atI_dp rr h0 h1
  exact ⟨p, xs, x, d, rfl, (of2_sub l a H).seq q, e1, List.mem_of_getElem? e2, e3⟩
def rEqNilT (K : PySem.W.Frag) : R2 := fun x y H Q => ∃ p q xs, x = .ref p ∧ y = .ref q ∧ SqT K H p xs ∧ SqT K H q [] ∧ Q (.bl xs.isEmpty) H
theorem op_eqNilT {X : Cx} (hu : X.A.units < cLine) : OpR X (compareOp .Eq) (rEqNilT X.K) := by
  intro pins s σ H x y v u Q I rx ry h
  obtain ⟨p, q, xs, rfl, rfl, hp, hq, k⟩ := h
  cases rx
  cases ry
  obtain ⟨is1, r1, p1, _⟩ := I.tuple hp
  obtain ⟨is2, r2, p2, _⟩ := I.tuple hq
  cases r2
  have z : ((List.range (min is1.toArray.size ([] : List Value).toArray.size)).all (fun _ => true) && is1.toArray.size == ([] : List Value).toArray.size) = xs.isEmpty := by
    cases xs with
    | nil =>
      cases r1
      rfl
    | cons x r =>
      cases r1
      simp
  refine SeqAt.eq_tupleAt (e := fun _ => true) p1 p2 hu (fun j _ h2 => absurd h2 (Nat.not_lt_zero _)) ?_
  rw [z]
  exact ⟨.bl xs.isEmpty, H, I, rfl, k⟩
end Vk
set_option maxHeartbeats 8000000
namespace Vk
open PySem PySem.Spec PyProof.Rows L2 GxR
section
variable {P : Program} {w : World} {K : PySem.W.Frag} {mg : Str → Option Value} {base : Heap}
def lenMost (m : Nat) (d : PyData) : Prop := ∀ ms, d = .tuple ms → ms.length ≤ m
def spSpoilt (K : PySem.W.Frag) : Sp := fun vs H Q _ => ∃ (a sc l : Addr) (n : Int) (v : V) (js : List PyData), vs = [.ref a, v] ∧ Sto sc a n H ∧ H l ≠ none ∧ n ≤ 900000 ∧ Dp K (Of2 l a H) v (.tuple js) ∧ js.all jobD = true ∧ js.length ≤ 12 ∧
  ∀ (v' : V) (d' : PyData) (H' : Hp), Sto sc a (n + 10) H' → Kept a H H' → Dp K (Of2 l a H') v' d' → niceJobs d' → lenMost 12 d' → Q v' H'
theorem scSpoilt : FnScope ["store", "jobs", "at", "name", "arrival", "door", "twin", "char", "cut", "names", "moments", "doors", "way", "job"] ["store", "jobs"] (defScope sSpoilt) := ⟨rfl, rfl, rfl, by decide +kernel, rfl, by decide +kernel, by decide +kernel⟩
theorem str_len {s : Str} : s.length = s.cps.toList.length := by rw [Array.length_toList]; rfl
theorem app_len {x y : Str} : (x ++ y).length = x.length + y.length := by rw [str_len, cps_app, List.length_append, ← str_len, ← str_len]
theorem ok_spoilt (D : Df K mg "_law_spoilt" sSpoilt ["store", "jobs"]) (B : Blt mg) (PK : Cl P w K mg base CX0 2 "_law_pick" ["store", "count"] spPick) : Cl P w K mg base CX0 3 "_law_spoilt" ["store", "jobs"] (spSpoilt K) := by
  refine cl0 D scSpoilt (fun vs H Q E h => ?_) (fun f cdv A outer s H vs Q E hr h => ?_)
  · obtain ⟨a, sc, l, n, v, js, rfl, _⟩ := h
    rfl
  · obtain ⟨a, sc, l, n, v, js, rfl, S, hl, n1, hd, okj, l12, k⟩ := h
    refine ⟨_, (pss_cons (ps_if (pt_cmpR (op_eqNilT (Nat.lt_of_succ_lt (hu_of hr))) (pv 1) (pe_tup pa_nil) (nomark _)) (pss_one (ps_ret (pe_ix ix_list (pe_lst (pa_cons (pe_lst pa_nil) (pa_cons pe_non (pa_cons (pe_tup (pa_cons (pe_tup (pa_cons pe_str (pa_cons (pe_tup (pa_cons pe_str (pa_cons pe_int pa_nil))) pa_nil))) pa_nil)) (pa_cons (pe_tup (pa_cons (pe_tup (pa_cons pe_str (pa_cons (pe_tup (pa_cons pe_str (pa_cons pe_int pa_nil))) (pa_cons pe_int pa_nil)))) pa_nil)) pa_nil))))) (pc PK hr (by decide) (pa_cons (pv 0) (pa_cons pe_int pa_nil))) (fun _ _ => rfl)))) pss_nil)
      (pss_cons (ps_set (i := 2) scSpoilt.nd rfl (Or.inl rfl) (pc PK hr (by decide) (pa_cons (pv 0) (pa_cons (pe_callB call_len_seq (by rfl) B.len PySem.boot_len (pa_cons (pv 1) pa_nil)) pa_nil))))
      (pss_cons (ps_asg (pe_ix ix_tup (pv 1) (pv 2) (fun _ _ => rfl)) (pg_tup rfl (pgs_cons (pg_name (i := 3) scSpoilt.nd rfl (.inl rfl)) (pgs_cons (pg_name (i := 4) scSpoilt.nd rfl (.inl rfl)) (pgs_cons (pg_name (i := 5) scSpoilt.nd rfl (.inl rfl)) pgs_nil)))))
      (pss_cons (ps_set (i := 6) scSpoilt.nd rfl (Or.inl rfl) (pe_ix ix_tup (pe_ix ix_tup (pv 1) (pc PK hr (by decide) (pa_cons (pv 0) (pa_cons (pe_callB call_len_seq (by rfl) B.len PySem.boot_len (pa_cons (pv 1) pa_nil)) pa_nil))) (fun _ _ => rfl)) pe_int (fun _ _ => rfl)))
      (pss_cons (ps_set (i := 7) scSpoilt.nd rfl (Or.inl rfl) (pe_ix ix_str pe_str (pc PK hr (by decide) (pa_cons (pv 0) (pa_cons pe_int pa_nil))) (fun _ _ => rfl)))
      (pss_cons (ps_set (i := 8) scSpoilt.nd rfl (Or.inl rfl) (pc PK hr (by decide) (pa_cons (pv 0) (pa_cons (pe_op op_add (pe_callB call_len (by rfl) B.len PySem.boot_len (pa_cons (pv 3) pa_nil)) pe_int) pa_nil))))
      (pss_cons (ps_set (i := 9) scSpoilt.nd rfl (Or.inl rfl) (pe_lst (pa_cons pe_str (pa_cons (pe_op op_add_str (pe_op op_add_str (pe_slice sl_str (pv 3) po_none (po_some (pv 8))) (pv 7)) (pe_slice sl_str (pv 3) (po_some (pv 8)) po_none)) (pa_cons (pv 6) (pa_cons (pe_slice sl_str (pe_op op_add_str (pv 3) pe_str) po_none (po_some pe_int)) (pa_cons pe_non (pa_cons pe_int (pa_cons (pe_tup (pa_cons (pv 3) pa_nil)) (pa_cons (pe_lst (pa_cons (pv 3) pa_nil)) pa_nil))))))))))
      (pss_cons (ps_set (i := 10) scSpoilt.nd rfl (Or.inl rfl) (pe_lst (pa_cons (pe_tup (pa_cons pe_str (pa_cons (pe_un un_neg pe_int) pa_nil))) (pa_cons (pe_tup (pa_cons pe_str (pa_cons pe_int pa_nil))) (pa_cons (pe_tup (pa_cons pe_str (pa_cons pe_bl pa_nil))) (pa_cons (pe_tup (pa_cons pe_str (pa_cons (pe_op op_add (pe_callB call_len_seq (by rfl) B.len PySem.boot_len (pa_cons (pv 1) pa_nil)) pe_int) pa_nil))) (pa_cons (pe_tup (pa_cons pe_str (pa_cons (pe_callB call_len_seq (by rfl) B.len PySem.boot_len (pa_cons (pv 1) pa_nil)) pa_nil))) (pa_cons (pe_lst (pa_cons pe_str (pa_cons pe_int pa_nil))) pa_nil))))))))
      (pss_cons (ps_set (i := 10) scSpoilt.nd rfl (Or.inl rfl) (pe_op op_cat (pv 10) (pe_lst (pa_cons (pe_tup (pa_cons pe_str pa_nil)) (pa_cons (pe_tup (pa_cons pe_str (pa_cons pe_int (pa_cons pe_int pa_nil)))) (pa_cons (pe_tup (pa_cons pe_str (pa_cons pe_int pa_nil))) (pa_cons (pe_tup (pa_cons pe_int (pa_cons pe_str pa_nil))) (pa_cons pe_non (pa_cons (pe_tup (pa_cons pe_str (pa_cons pe_non pa_nil))) (pa_cons (pe_tup (pa_cons pe_str (pa_cons pe_str pa_nil))) (pa_cons pe_str pa_nil)))))))))))
      (pss_cons (ps_set (i := 11) scSpoilt.nd rfl (Or.inl rfl) (pe_lst (pa_cons (pe_un un_neg pe_int) (pa_cons pe_int (pa_cons pe_bl (pa_cons pe_non (pa_cons pe_str (pa_cons (pe_op op_pow pe_int pe_int) pa_nil))))))))
      (pss_cons (ps_set (i := 12) scSpoilt.nd rfl (Or.inl rfl) (pc PK hr (by decide) (pa_cons (pv 0) (pa_cons pe_int pa_nil))))
      (pss_cons (ps_set (i := 13) scSpoilt.nd rfl (Or.inl rfl) (pe_tup (pa_cons (pe_ix ix_list (pv 9) (pc PK hr (by decide) (pa_cons (pv 0) (pa_cons pe_int pa_nil))) (fun _ _ => rfl)) (pa_cons (pv 4) (pa_cons (pv 5) pa_nil)))))
      (pss_cons (ps_if (PW.pt (pw_or (pt_cmpR op_eq (pv 12) pe_int (nomark _)) (pw_or1 (pt_cmpR op_eq (pv 12) pe_int (nomark _))))) (pss_one (ps_set (i := 13) scSpoilt.nd rfl (Or.inl rfl) (pe_tup (pa_cons (pv 3) (pa_cons (pe_ix ix_list (pv 10) (pc PK hr (by decide) (pa_cons (pv 0) (pa_cons pe_int pa_nil))) (fun _ _ => rfl)) (pa_cons (pv 5) pa_nil)))))) pss_nil)
      (pss_cons (ps_if (pt_cmpR op_eq (pv 12) pe_int (nomark _)) (pss_one (ps_set (i := 13) scSpoilt.nd rfl (Or.inl rfl) (pe_tup (pa_cons (pv 3) (pa_cons (pv 4) (pa_cons (pe_ix ix_list (pv 11) (pc PK hr (by decide) (pa_cons (pv 0) (pa_cons pe_int pa_nil))) (fun _ _ => rfl)) pa_nil)))))) pss_nil)
      (pss_cons (ps_if (pt_cmpR op_eq (pv 12) pe_int (nomark _)) (pss_one (ps_set (i := 13) scSpoilt.nd rfl (Or.inl rfl) (pe_ix ix_list (pe_lst (pa_cons (pe_lst (pa_cons (pv 3) (pa_cons (pv 4) (pa_cons (pv 5) pa_nil)))) (pa_cons (pe_tup (pa_cons (pv 3) (pa_cons (pv 4) pa_nil))) (pa_cons (pe_tup (pa_cons (pv 3) (pa_cons (pv 4) (pa_cons (pv 5) (pa_cons pe_int pa_nil))))) (pa_cons pe_non (pa_cons (pv 3) pa_nil)))))) (pc PK hr (by decide) (pa_cons (pv 0) (pa_cons pe_int pa_nil))) (fun _ _ => rfl)))) pss_nil)
      (pss_one (ps_ret (pe_op op_catA (pe_op op_catA (pe_slice sl_tupA (pv 1) po_none (po_some (pv 2))) (pe_tup (pa_cons (pv 13) pa_nil))) (pe_slice sl_tupA (pv 1) (po_some (pe_op op_add (pv 2) pe_int)) po_none))))))))))))))))))), ?_⟩
    obtain ⟨pj, xs, rfl, qj, rj⟩ := dp_tuple hd
    have xl := dps_len rj
    refine ⟨_, rfl, (by show 0 ≤ sizeLine; decide), fun e0 ne0 => ?_⟩
    have se := same_new (o := .tup []) ne0
    have S0 := S.same se
    have qj0 : SqT K (Of2 l a (upd H e0 (.tup []))) pj xs := same_seqT (of2_mono se) qj
    have rj0 := dps_same (of2_mono se) rj
    refine ⟨pj, e0, xs, rfl, rfl, same_seqT (of2_sub l a _) qj0, SqT.of upd_same, _, rfl, ?_⟩
    cases he : xs.isEmpty with
    | true =>
      refine iteT ?_
      have hA := has2 (l := l) S0 (kept_same se) hl
      generalize upd H e0 (.tup []) = H0 at S0 se hA qj0 rj0 ⊢
      have fg0 : Same H0 H0 := Same.refl H0
      refine ⟨(by show 0 ≤ sizeLine; decide), fun ft1 fm1 => ?_⟩
      have fd1 := new_lst2 (K := K) (vs := []) (fg0.has2 hA) fm1 .nil
      have fs1 := same_new (o := .lst []) fm1
      have fg1 := fg0.trans fs1
      refine ⟨(by show 2 ≤ sizeLine; decide), fun ft2 fm2 => ?_⟩
      have fd2 := new_tup2 (K := K) (vs := [.str ("at" : Str), .int 0]) (fg1.has2 hA) fm2 (.cons (.str _) (.cons (.int _) .nil))
      have fs2 := same_new (o := .tup [.str ("at" : Str), .int 0]) fm2
      have fg2 := fg1.trans fs2
      have fd1 := dp_up2 (K := K) fs2 fd1
      refine ⟨(by show 2 ≤ sizeLine; decide), fun ft3 fm3 => ?_⟩
      have fd3 := new_tup2 (K := K) (vs := [.str ("a" : Str), .ref ft2]) (fg2.has2 hA) fm3 (.cons (.str _) (.cons fd2 .nil))
      have fs3 := same_new (o := .tup [.str ("a" : Str), .ref ft2]) fm3
      have fg3 := fg2.trans fs3
      have fd1 := dp_up2 (K := K) fs3 fd1
      have fd2 := dp_up2 (K := K) fs3 fd2
      refine ⟨(by show 1 ≤ sizeLine; decide), fun ft4 fm4 => ?_⟩
      have fd4 := new_tup2 (K := K) (vs := [.ref ft3]) (fg3.has2 hA) fm4 (.cons fd3 .nil)
      have fs4 := same_new (o := .tup [.ref ft3]) fm4
      have fg4 := fg3.trans fs4
      have fd1 := dp_up2 (K := K) fs4 fd1
      have fd2 := dp_up2 (K := K) fs4 fd2
      have fd3 := dp_up2 (K := K) fs4 fd3
      refine ⟨(by show 2 ≤ sizeLine; decide), fun ft5 fm5 => ?_⟩
      have fd5 := new_tup2 (K := K) (vs := [.str ("at" : Str), .int 0]) (fg4.has2 hA) fm5 (.cons (.str _) (.cons (.int _) .nil))
      have fs5 := same_new (o := .tup [.str ("at" : Str), .int 0]) fm5
      have fg5 := fg4.trans fs5
      have fd1 := dp_up2 (K := K) fs5 fd1
      have fd2 := dp_up2 (K := K) fs5 fd2
      have fd3 := dp_up2 (K := K) fs5 fd3
      have fd4 := dp_up2 (K := K) fs5 fd4
      refine ⟨(by show 3 ≤ sizeLine; decide), fun ft6 fm6 => ?_⟩
      have fd6 := new_tup2 (K := K) (vs := [.str ("" : Str), .ref ft5, .int 0]) (fg5.has2 hA) fm6 (.cons (.str _) (.cons fd5 (.cons (.int _) .nil)))
      have fs6 := same_new (o := .tup [.str ("" : Str), .ref ft5, .int 0]) fm6
      have fg6 := fg5.trans fs6
      have fd1 := dp_up2 (K := K) fs6 fd1
      have fd2 := dp_up2 (K := K) fs6 fd2
      have fd3 := dp_up2 (K := K) fs6 fd3
      have fd4 := dp_up2 (K := K) fs6 fd4
      have fd5 := dp_up2 (K := K) fs6 fd5
      refine ⟨(by show 1 ≤ sizeLine; decide), fun ft7 fm7 => ?_⟩
      have fd7 := new_tup2 (K := K) (vs := [.ref ft6]) (fg6.has2 hA) fm7 (.cons fd6 .nil)
      have fs7 := same_new (o := .tup [.ref ft6]) fm7
      have fg7 := fg6.trans fs7
      have fd1 := dp_up2 (K := K) fs7 fd1
      have fd2 := dp_up2 (K := K) fs7 fd2
      have fd3 := dp_up2 (K := K) fs7 fd3
      have fd4 := dp_up2 (K := K) fs7 fd4
      have fd5 := dp_up2 (K := K) fs7 fd5
      have fd6 := dp_up2 (K := K) fs7 fd6
      refine ⟨(by show 4 ≤ sizeLine; decide), fun ft8 fm8 => ?_⟩
      have fd8 := new_lst2 (K := K) (vs := [.ref ft1, .non, .ref ft4, .ref ft7]) (fg7.has2 hA) fm8 (.cons fd1 (.cons .non (.cons fd4 (.cons fd7 .nil))))
      have fs8 := same_new (o := .lst [.ref ft1, .non, .ref ft4, .ref ft7]) fm8
      have fg8 := fg7.trans fs8
      have fd1 := dp_up2 (K := K) fs8 fd1
      have fd2 := dp_up2 (K := K) fs8 fd2
      have fd3 := dp_up2 (K := K) fs8 fd3
      have fd4 := dp_up2 (K := K) fs8 fd4
      have fd5 := dp_up2 (K := K) fs8 fd5
      have fd6 := dp_up2 (K := K) fs8 fd6
      have fd7 := dp_up2 (K := K) fs8 fd7
      refine ⟨_, rfl, a, sc, 4, _, rfl, by decide, by decide, S0.same fg8, by omega, fun r H1 r0 r4 S1 K1 => ?_⟩
      obtain ⟨p, ys, x, xd, e, qp, hx, mx, dx⟩ := pick_dp (dp_same (of2_kept K1) fd8) r0 r4
      cases e
      refine ⟨_, _, _, _, rfl, rfl, qp, hx, k x xd H1 (S1.more (by omega)) ((kept_same (se.trans fg8)).trans K1) dx ?_ ?_⟩
      · simp only [List.mem_cons, List.not_mem_nil, or_false] at mx
        rcases mx with rfl | rfl | rfl | rfl
        · exact True.intro
        · exact True.intro
        · refine ⟨fun d hd => ?_, by decide⟩
          rw [List.mem_singleton.mp hd]
          exact True.intro
        · refine ⟨fun d hd => ?_, by decide⟩
          rw [List.mem_singleton.mp hd]
          exact ⟨(by show _ ≤ 1000; decide +kernel), rfl⟩
      · simp only [List.mem_cons, List.not_mem_nil, or_false] at mx
        intro ms e
        rcases mx with rfl | rfl | rfl | rfl
        · cases e
        · cases e
        · cases e
          decide
        · cases e
          decide
    | false =>
      refine iteF ?_
      have jpos : 1 ≤ js.length := by
        cases xs with
        | nil => cases he
        | cons x r =>
          rw [← xl, List.length_cons]
          omega
      have K0 : Kept a H (upd H e0 (.tup [])) := kept_same se
      generalize upd H e0 (.tup []) = H0 at S0 K0 se qj0 rj0 ⊢
      -- at
      refine ⟨_, rfl, _, rfl, pj, xs, rfl, .inr (same_seqT (of2_sub l a H0) qj0), a, sc, _, n, rfl, by omega, by omega, S0, by omega, fun at_ H1 at0 at1 S1 K1 => ?_⟩
      obtain ⟨ix, rfl⟩ := Int.eq_ofNat_of_zero_le at0
      have rj1 := dps_same (of2_kept K1) rj0
      have qj1 : SqT K (Of2 l a H1) pj xs := same_seqT (of2_kept K1) qj0
      -- name, arrival, door = jobs[at]
      obtain ⟨lv, ld, hat, hld, dld⟩ := atI_dp (r := (ix : Int)) rj1 at0 (by omega)
      have jld := List.all_eq_true.mp okj ld (List.mem_of_getElem? hld)
      obtain ⟨nm, kd, t, e, rfl, hnm, hkd⟩ := job_parts jld
      obtain ⟨lp, nv, av, dv, rfl, qlp, dn, da, de⟩ := dp_three dld
      have en := dp_str dn
      subst en
      have ee := dp_int de
      subst ee
      obtain ⟨o1, o8, _⟩ := nameD_iff.mp hnm
      rw [← str_len] at o1 o8
      have osm : nm.length ≤ sizeLine := Nat.le_trans o8 (by decide)
      refine ⟨_, rfl, _, rfl, pj, xs, _, _, rfl, rfl, same_seqT (of2_sub l a H1) qj1, hat, lp, _, rfl, same_seqT (of2_sub l a H1) qlp, rfl, _, _, rfl, _, _, rfl, _, _, rfl, rfl, ?_⟩
      -- twin
      refine ⟨_, rfl, _, rfl, _, rfl, pj, xs, rfl, .inr (same_seqT (of2_sub l a H1) qj1), a, sc, _, _, rfl, by omega, by omega, S1, by omega, fun tw H2 tw0 tw1 S2 K2 => ?_⟩
      have rj2 := dps_same (of2_kept K2) rj1
      have qj2 : SqT K (Of2 l a H2) pj xs := same_seqT (of2_kept K2) qj1
      obtain ⟨lv2, ld2, hat2, hld2, dld2⟩ := atI_dp (r := tw) rj2 tw0 (by omega)
      have jld2 := List.all_eq_true.mp okj ld2 (List.mem_of_getElem? hld2)
      obtain ⟨nm2, kd2, t2, e2, rfl, hnm2, _⟩ := job_parts jld2
      obtain ⟨lp2, nv2, av2, dv2, rfl, qlp2, dn2, _, _⟩ := dp_three dld2
      have en2 := dp_str dn2
      subst en2
      obtain ⟨_, o82, _⟩ := nameD_iff.mp hnm2
      rw [← str_len] at o82
      refine ⟨pj, xs, _, _, rfl, rfl, same_seqT (of2_sub l a H2) qj2, hat2, lp2, _, _, _, rfl, rfl, same_seqT (of2_sub l a H2) qlp2, rfl, ?_⟩
      -- char
      refine ⟨_, rfl, a, sc, 8, _, rfl, by decide, by decide, S2, by omega, fun ci H3 ci0 ci8 S3 K3 => ?_⟩
      obtain ⟨ch, hch⟩ := atI_get (xs := ("AZ09 -_\n" : Str).cps.toList) ci0 (by rw [show ("AZ09 -_\n" : Str).cps.toList.length = 8 from by decide +kernel]; exact ci8)
      refine ⟨_, ci, ch, rfl, rfl, by decide +kernel, hch, ?_⟩
      -- cut
      refine ⟨_, rfl, _, rfl, .str nm, nm.length, rfl, ⟨osm, rfl⟩, _, _, rfl, rfl, a, sc, _, _, rfl, by omega, by omega, S3, by omega, fun ct H4 ct0 ct1 S4 K4 => ?_⟩
      obtain ⟨j, rfl⟩ := Int.eq_ofNat_of_zero_le ct0
      have K14 : Kept a H1 H4 := (K2.trans K3).trans K4
      have K04 : Kept a H H4 := (K0.trans K1).trans K14
      have qj4 : SqT K (Of2 l a H4) pj xs := same_seqT (of2_kept K14) qj1
      have dJ : Dp K (Of2 l a H4) (.ref pj) (.tuple js) := dp_same (of2_kept K04) hd
      have dA := dp_same (of2_kept K14) da
      have hA := has2 (l := l) S4 K04 hl
      clear K1 K2 K3 K4 K0 se qj0 rj0 rj1 qj1 rj2 qj2 S1 S2 S3 S0
      -- names
      refine ⟨_, rfl, ?_⟩
      dsimp only [tNoPart]
      have c1 : (cutS nm none (some (j : Int))).length ≤ 8 := Nat.le_trans (cutS_length _ _ _) o8
      have c2 : (cutS nm (some (j : Int)) none).length ≤ 8 := Nat.le_trans (cutS_length _ _ _) o8
      have c3 : (cutS nm none (some (j : Int)) ++ (⟨#[ch]⟩ : Str)).length ≤ 9 := by
        rw [app_len]
        show _ + 1 ≤ 9
        omega
      refine ⟨_, rfl, _, rfl, nm, rfl, osm, _, rfl, _, _, rfl, rfl, ?_, ?_⟩
      · exact Nat.le_trans (Nat.add_le_add_right c1 1) (by decide)
      refine ⟨_, rfl, _, rfl, _, rfl, ?_⟩
      dsimp only [tNoPart]
      refine ⟨nm, rfl, osm, _, _, rfl, rfl, ?_, ?_⟩
      · exact Nat.le_trans (Nat.add_le_add c3 c2) (by decide)
      have c4 : ((cutS nm none (some (j : Int)) ++ (⟨#[ch]⟩ : Str)) ++ cutS nm (some (j : Int)) none).length ≤ 1000 := by
        rw [app_len]
        omega
      generalize (cutS nm none (some (j : Int)) ++ (⟨#[ch]⟩ : Str)) ++ cutS nm (some (j : Int)) none = w1 at c4 ⊢
      refine ⟨_, rfl, _, rfl, _, _, rfl, rfl, ?_, ?_⟩
      · exact Nat.le_trans (Nat.add_le_add (b := 8) (d := 9) o8 (show ("abcdefghi" : Str).length ≤ 9 by decide +kernel)) (by decide)
      dsimp only [tNoPart]
      have c5 : (nm ++ ("abcdefghi" : Str)).length ≤ 17 := by
        rw [app_len, show ("abcdefghi" : Str).length = 9 from by decide +kernel]
        omega
      refine ⟨_, rfl, _, rfl, Nat.le_trans c5 (by decide), ?_⟩
      have c6 : (cutS (nm ++ ("abcdefghi" : Str)) none (some 9)).length ≤ 1000 := Nat.le_trans (Nat.le_trans (cutS_length _ _ _) c5) (by decide)
      generalize cutS (nm ++ ("abcdefghi" : Str)) none (some 9) = w2 at c6 ⊢
      have hg0 : Same H4 H4 := Same.refl H4
      refine ⟨_, rfl, (by show 1 ≤ sizeLine; decide), fun ht1 hm1 => ?_⟩
      have hd1 := new_tup2 (K := K) (vs := [.str nm]) (hg0.has2 hA) hm1 (.cons (.str nm) .nil)
      have hs1 := same_new (o := .tup [.str nm]) hm1
      have hg1 := hg0.trans hs1
      refine ⟨_, rfl, (by show 1 ≤ sizeLine; decide), fun ht2 hm2 => ?_⟩
      have hd2 := new_lst2 (K := K) (vs := [.str nm]) (hg1.has2 hA) hm2 (.cons (.str nm) .nil)
      have hs2 := same_new (o := .lst [.str nm]) hm2
      have hg2 := hg1.trans hs2
      have hd1 := dp_up2 (K := K) hs2 hd1
      refine ⟨(by show 8 ≤ sizeLine; decide), fun ht3 hm3 => ?_⟩
      have hd3 := new_lst2 (K := K) (vs := [.str ("" : Str), .str w1, .str nm2, .str w2, .non, .int 7, .ref ht1, .ref ht2]) (hg2.has2 hA) hm3 (.cons (.str _) (.cons (.str w1) (.cons (.str nm2) (.cons (.str w2) (.cons .non (.cons (.int 7) (.cons hd1 (.cons hd2 .nil))))))))
      have hs3 := same_new (o := .lst [.str ("" : Str), .str w1, .str nm2, .str w2, .non, .int 7, .ref ht1, .ref ht2]) hm3
      have hg3 := hg2.trans hs3
      have hd1 := dp_up2 (K := K) hs3 hd1
      have hd2 := dp_up2 (K := K) hs3 hd2
      obtain ⟨nds, dN, lN, okN⟩ : ∃ nds, Dp K (Of2 l a _) (.ref ht3) (.list nds) ∧ nds.length = 8 ∧ ∀ d ∈ nds, smallS d := ⟨_, hd3, rfl, fun d hd => by
        simp only [List.mem_cons, List.not_mem_nil, or_false] at hd
        rcases hd with rfl | rfl | rfl | rfl | rfl | rfl | rfl | rfl
        · show _ ≤ 1000
          decide +kernel
        · exact c4
        · exact Nat.le_trans o82 (by decide)
        · exact c6
        · exact True.intro
        · exact True.intro
        · exact True.intro
        · exact True.intro⟩
      -- moments
      refine ⟨_, rfl, (by show 2 ≤ sizeLine; decide), fun ht4 hm4 => ?_⟩
      have hd4 := new_tup2 (K := K) (vs := [.str ("at" : Str), .int (-1)]) (hg3.has2 hA) hm4 (.cons (.str _) (.cons (.int _) .nil))
      have hs4 := same_new (o := .tup [.str ("at" : Str), .int (-1)]) hm4
      have hg4 := hg3.trans hs4
      have dN := dp_up2 (K := K) hs4 dN
      refine ⟨(by show 2 ≤ sizeLine; decide), fun ht5 hm5 => ?_⟩
      have hd5 := new_tup2 (K := K) (vs := [.str ("after" : Str), .int 0]) (hg4.has2 hA) hm5 (.cons (.str _) (.cons (.int _) .nil))
      have hs5 := same_new (o := .tup [.str ("after" : Str), .int 0]) hm5
      have hg5 := hg4.trans hs5
      have dN := dp_up2 (K := K) hs5 dN
      have hd4 := dp_up2 (K := K) hs5 hd4
      refine ⟨(by show 2 ≤ sizeLine; decide), fun ht6 hm6 => ?_⟩
      have hd6 := new_tup2 (K := K) (vs := [.str ("at" : Str), .bl true]) (hg5.has2 hA) hm6 (.cons (.str _) (.cons (.bl _) .nil))
      have hs6 := same_new (o := .tup [.str ("at" : Str), .bl true]) hm6
      have hg6 := hg5.trans hs6
      have dN := dp_up2 (K := K) hs6 dN
      have hd4 := dp_up2 (K := K) hs6 hd4
      have hd5 := dp_up2 (K := K) hs6 hd5
      have qj6 := same_seqT hg6 (same_seqT (of2_sub l a H4) qj4)
      refine ⟨_, rfl, pj, xs, rfl, .inr qj6, _, _, rfl, rfl, (by show 2 ≤ sizeLine; decide), fun ht7 hm7 => ?_⟩
      have hd7 := new_tup2 (K := K) (vs := [.str ("after" : Str), .int ((xs.length : Nat) + 1)]) (hg6.has2 hA) hm7 (.cons (.str _) (.cons (.int _) .nil))
      have hs7 := same_new (o := .tup [.str ("after" : Str), .int ((xs.length : Nat) + 1)]) hm7
      have hg7 := hg6.trans hs7
      have dN := dp_up2 (K := K) hs7 dN
      have hd4 := dp_up2 (K := K) hs7 hd4
      have hd5 := dp_up2 (K := K) hs7 hd5
      have hd6 := dp_up2 (K := K) hs7 hd6
      have qj6 := same_seqT hs7 qj6
      refine ⟨_, rfl, pj, xs, rfl, .inr qj6, (by show 2 ≤ sizeLine; decide), fun ht8 hm8 => ?_⟩
      have hd8 := new_tup2 (K := K) (vs := [.str ("after" : Str), .int (xs.length : Nat)]) (hg7.has2 hA) hm8 (.cons (.str _) (.cons (.int _) .nil))
      have hs8 := same_new (o := .tup [.str ("after" : Str), .int (xs.length : Nat)]) hm8
      have hg8 := hg7.trans hs8
      have dN := dp_up2 (K := K) hs8 dN
      have hd4 := dp_up2 (K := K) hs8 hd4
      have hd5 := dp_up2 (K := K) hs8 hd5
      have hd6 := dp_up2 (K := K) hs8 hd6
      have hd7 := dp_up2 (K := K) hs8 hd7
      refine ⟨(by show 2 ≤ sizeLine; decide), fun ht9 hm9 => ?_⟩
      have hd9 := new_lst2 (K := K) (vs := [.str ("at" : Str), .int 0]) (hg8.has2 hA) hm9 (.cons (.str _) (.cons (.int _) .nil))
      have hs9 := same_new (o := .lst [.str ("at" : Str), .int 0]) hm9
      have hg9 := hg8.trans hs9
      have dN := dp_up2 (K := K) hs9 dN
      have hd4 := dp_up2 (K := K) hs9 hd4
      have hd5 := dp_up2 (K := K) hs9 hd5
      have hd6 := dp_up2 (K := K) hs9 hd6
      have hd7 := dp_up2 (K := K) hs9 hd7
      have hd8 := dp_up2 (K := K) hs9 hd8
      refine ⟨(by show 6 ≤ sizeLine; decide), fun ht10 hm10 => ?_⟩
      have hd10 := new_lst2 (K := K) (vs := [.ref ht4, .ref ht5, .ref ht6, .ref ht7, .ref ht8, .ref ht9]) (hg9.has2 hA) hm10 (.cons hd4 (.cons hd5 (.cons hd6 (.cons hd7 (.cons hd8 (.cons hd9 .nil))))))
      have hs10 := same_new (o := .lst [.ref ht4, .ref ht5, .ref ht6, .ref ht7, .ref ht8, .ref ht9]) hm10
      have hg10 := hg9.trans hs10
      have dN := dp_up2 (K := K) hs10 dN
      have hd4 := dp_up2 (K := K) hs10 hd4
      have hd5 := dp_up2 (K := K) hs10 hd5
      have hd6 := dp_up2 (K := K) hs10 hd6
      have hd7 := dp_up2 (K := K) hs10 hd7
      have hd8 := dp_up2 (K := K) hs10 hd8
      have hd9 := dp_up2 (K := K) hs10 hd9
      have hM := new_at hs10
      -- more moments
      refine ⟨_, rfl, (by show 1 ≤ sizeLine; decide), fun ht11 hm11 => ?_⟩
      have hd11 := new_tup2 (K := K) (vs := [.str ("at" : Str)]) (hg10.has2 hA) hm11 (.cons (.str _) .nil)
      have hs11 := same_new (o := .tup [.str ("at" : Str)]) hm11
      have hg11 := hg10.trans hs11
      have dN := dp_up2 (K := K) hs11 dN
      have hd4 := dp_up2 (K := K) hs11 hd4
      have hd5 := dp_up2 (K := K) hs11 hd5
      have hd6 := dp_up2 (K := K) hs11 hd6
      have hd7 := dp_up2 (K := K) hs11 hd7
      have hd8 := dp_up2 (K := K) hs11 hd8
      have hd9 := dp_up2 (K := K) hs11 hd9
      have hd10 := dp_up2 (K := K) hs11 hd10
      have hM := hs11.at hM
      refine ⟨(by show 3 ≤ sizeLine; decide), fun ht12 hm12 => ?_⟩
      have hd12 := new_tup2 (K := K) (vs := [.str ("at" : Str), .int 0, .int 0]) (hg11.has2 hA) hm12 (.cons (.str _) (.cons (.int _) (.cons (.int _) .nil)))
      have hs12 := same_new (o := .tup [.str ("at" : Str), .int 0, .int 0]) hm12
      have hg12 := hg11.trans hs12
      have dN := dp_up2 (K := K) hs12 dN
      have hd4 := dp_up2 (K := K) hs12 hd4
      have hd5 := dp_up2 (K := K) hs12 hd5
      have hd6 := dp_up2 (K := K) hs12 hd6
      have hd7 := dp_up2 (K := K) hs12 hd7
      have hd8 := dp_up2 (K := K) hs12 hd8
      have hd9 := dp_up2 (K := K) hs12 hd9
      have hd10 := dp_up2 (K := K) hs12 hd10
      have hM := hs12.at hM
      have hd11 := dp_up2 (K := K) hs12 hd11
      refine ⟨(by show 2 ≤ sizeLine; decide), fun ht13 hm13 => ?_⟩
      have hd13 := new_tup2 (K := K) (vs := [.str ("in" : Str), .int 0]) (hg12.has2 hA) hm13 (.cons (.str _) (.cons (.int _) .nil))
      have hs13 := same_new (o := .tup [.str ("in" : Str), .int 0]) hm13
      have hg13 := hg12.trans hs13
      have dN := dp_up2 (K := K) hs13 dN
      have hd4 := dp_up2 (K := K) hs13 hd4
      have hd5 := dp_up2 (K := K) hs13 hd5
      have hd6 := dp_up2 (K := K) hs13 hd6
      have hd7 := dp_up2 (K := K) hs13 hd7
      have hd8 := dp_up2 (K := K) hs13 hd8
      have hd9 := dp_up2 (K := K) hs13 hd9
      have hd10 := dp_up2 (K := K) hs13 hd10
      have hM := hs13.at hM
      have hd11 := dp_up2 (K := K) hs13 hd11
      have hd12 := dp_up2 (K := K) hs13 hd12
      refine ⟨(by show 2 ≤ sizeLine; decide), fun ht14 hm14 => ?_⟩
      have hd14 := new_tup2 (K := K) (vs := [.int 0, .str ("at" : Str)]) (hg13.has2 hA) hm14 (.cons (.int _) (.cons (.str _) .nil))
      have hs14 := same_new (o := .tup [.int 0, .str ("at" : Str)]) hm14
      have hg14 := hg13.trans hs14
      have dN := dp_up2 (K := K) hs14 dN
      have hd4 := dp_up2 (K := K) hs14 hd4
      have hd5 := dp_up2 (K := K) hs14 hd5
      have hd6 := dp_up2 (K := K) hs14 hd6
      have hd7 := dp_up2 (K := K) hs14 hd7
      have hd8 := dp_up2 (K := K) hs14 hd8
      have hd9 := dp_up2 (K := K) hs14 hd9
      have hd10 := dp_up2 (K := K) hs14 hd10
      have hM := hs14.at hM
      have hd11 := dp_up2 (K := K) hs14 hd11
      have hd12 := dp_up2 (K := K) hs14 hd12
      have hd13 := dp_up2 (K := K) hs14 hd13
      refine ⟨(by show 2 ≤ sizeLine; decide), fun ht15 hm15 => ?_⟩
      have hd15 := new_tup2 (K := K) (vs := [.str ("after" : Str), .non]) (hg14.has2 hA) hm15 (.cons (.str _) (.cons .non .nil))
      have hs15 := same_new (o := .tup [.str ("after" : Str), .non]) hm15
      have hg15 := hg14.trans hs15
      have dN := dp_up2 (K := K) hs15 dN
      have hd4 := dp_up2 (K := K) hs15 hd4
      have hd5 := dp_up2 (K := K) hs15 hd5
      have hd6 := dp_up2 (K := K) hs15 hd6
      have hd7 := dp_up2 (K := K) hs15 hd7
      have hd8 := dp_up2 (K := K) hs15 hd8
      have hd9 := dp_up2 (K := K) hs15 hd9
      have hd10 := dp_up2 (K := K) hs15 hd10
      have hM := hs15.at hM
      have hd11 := dp_up2 (K := K) hs15 hd11
      have hd12 := dp_up2 (K := K) hs15 hd12
      have hd13 := dp_up2 (K := K) hs15 hd13
      have hd14 := dp_up2 (K := K) hs15 hd14
      refine ⟨(by show 2 ≤ sizeLine; decide), fun ht16 hm16 => ?_⟩
      have hd16 := new_tup2 (K := K) (vs := [.str ("at" : Str), .str ("0" : Str)]) (hg15.has2 hA) hm16 (.cons (.str _) (.cons (.str _) .nil))
      have hs16 := same_new (o := .tup [.str ("at" : Str), .str ("0" : Str)]) hm16
      have hg16 := hg15.trans hs16
      have dN := dp_up2 (K := K) hs16 dN
      have hd4 := dp_up2 (K := K) hs16 hd4
      have hd5 := dp_up2 (K := K) hs16 hd5
      have hd6 := dp_up2 (K := K) hs16 hd6
      have hd7 := dp_up2 (K := K) hs16 hd7
      have hd8 := dp_up2 (K := K) hs16 hd8
      have hd9 := dp_up2 (K := K) hs16 hd9
      have hd10 := dp_up2 (K := K) hs16 hd10
      have hM := hs16.at hM
      have hd11 := dp_up2 (K := K) hs16 hd11
      have hd12 := dp_up2 (K := K) hs16 hd12
      have hd13 := dp_up2 (K := K) hs16 hd13
      have hd14 := dp_up2 (K := K) hs16 hd14
      have hd15 := dp_up2 (K := K) hs16 hd15
      refine ⟨(by show 8 ≤ sizeLine; decide), fun ht17 hm17 => ?_⟩
      have hd17 := new_lst2 (K := K) (vs := [.ref ht11, .ref ht12, .ref ht13, .ref ht14, .non, .ref ht15, .ref ht16, .str ("at" : Str)]) (hg16.has2 hA) hm17 (.cons hd11 (.cons hd12 (.cons hd13 (.cons hd14 (.cons .non (.cons hd15 (.cons hd16 (.cons (.str _) .nil))))))))
      have hs17 := same_new (o := .lst [.ref ht11, .ref ht12, .ref ht13, .ref ht14, .non, .ref ht15, .ref ht16, .str ("at" : Str)]) hm17
      have hg17 := hg16.trans hs17
      have dN := dp_up2 (K := K) hs17 dN
      have hd4 := dp_up2 (K := K) hs17 hd4
      have hd5 := dp_up2 (K := K) hs17 hd5
      have hd6 := dp_up2 (K := K) hs17 hd6
      have hd7 := dp_up2 (K := K) hs17 hd7
      have hd8 := dp_up2 (K := K) hs17 hd8
      have hd9 := dp_up2 (K := K) hs17 hd9
      have hd10 := dp_up2 (K := K) hs17 hd10
      have hM := hs17.at hM
      have hd11 := dp_up2 (K := K) hs17 hd11
      have hd12 := dp_up2 (K := K) hs17 hd12
      have hd13 := dp_up2 (K := K) hs17 hd13
      have hd14 := dp_up2 (K := K) hs17 hd14
      have hd15 := dp_up2 (K := K) hs17 hd15
      have hd16 := dp_up2 (K := K) hs17 hd16
      have hM2 := new_at hs17
      refine ⟨ht10, ht17, _, _, rfl, rfl, hM, hM2, (by show 6 + 8 ≤ sizeLine; decide), fun ht18 hm18 => ?_⟩
      have hd18 := new_lst2 (K := K) (vs := [.ref ht4, .ref ht5, .ref ht6, .ref ht7, .ref ht8, .ref ht9] ++ [.ref ht11, .ref ht12, .ref ht13, .ref ht14, .non, .ref ht15, .ref ht16, .str ("at" : Str)]) (hg17.has2 hA) hm18 (.cons hd4 (.cons hd5 (.cons hd6 (.cons hd7 (.cons hd8 (.cons hd9 (.cons hd11 (.cons hd12 (.cons hd13 (.cons hd14 (.cons .non (.cons hd15 (.cons hd16 (.cons (.str _) .nil))))))))))))))
      have hs18 := same_new (o := .lst ([.ref ht4, .ref ht5, .ref ht6, .ref ht7, .ref ht8, .ref ht9] ++ [.ref ht11, .ref ht12, .ref ht13, .ref ht14, .non, .ref ht15, .ref ht16, .str ("at" : Str)])) hm18
      have hg18 := hg17.trans hs18
      have dN := dp_up2 (K := K) hs18 dN
      obtain ⟨mds, dM, lM, okM⟩ : ∃ mds, Dp K (Of2 l a _) (.ref ht18) (.list mds) ∧ mds.length = 14 ∧ ∀ d ∈ mds, headD d = true := ⟨_, hd18, rfl, fun d hd => by
        simp only [List.mem_cons, List.not_mem_nil, or_false] at hd
        rcases hd with rfl | rfl | rfl | rfl | rfl | rfl | rfl | rfl | rfl | rfl | rfl | rfl | rfl | rfl <;> rfl⟩
      refine ⟨_, rfl, _, _, rfl, rfl, ⟨by decide, by decide, by decide⟩, (by show 6 ≤ sizeLine; decide), fun ht19 hm19 => ?_⟩
      have hd19 := new_lst2 (K := K) (vs := [.int (-1), .int 10, .bl true, .non, .str ("0" : Str), .int (10 ^ Int.toNat 30)]) (hg18.has2 hA) hm19 (.cons (.int _) (.cons (.int _) (.cons (.bl _) (.cons .non (.cons (.str _) (.cons (.int _) .nil))))))
      have hs19 := same_new (o := .lst [.int (-1), .int 10, .bl true, .non, .str ("0" : Str), .int (10 ^ Int.toNat 30)]) hm19
      have hg19 := hg18.trans hs19
      have dN := dp_up2 (K := K) hs19 dN
      have dM := dp_up2 (K := K) hs19 dM
      obtain ⟨dds, dD, lD⟩ : ∃ dds, Dp K (Of2 l a _) (.ref ht19) (.list dds) ∧ dds.length = 6 := ⟨_, hd19, rfl⟩
      -- way
      refine ⟨_, rfl, a, sc, 5, _, rfl, by decide, by decide, S4.same hg19, by omega, fun way H5 w0 w5 S5 K5 => ?_⟩
      have K45 : Kept a H4 H5 := (kept_same hg19).trans K5
      have dN5 := dp_same (of2_kept K5) dN
      have dM5 := dp_same (of2_kept K5) dM
      have dD5 := dp_same (of2_kept K5) dD
      have dJ5 := dp_same (of2_kept K45) dJ
      have dA5 := dp_same (of2_kept K45) dA
      have K05 := K04.trans K45
      clear K5 dN dM dD dJ dA K04 K45
      -- the job
      refine ⟨_, rfl, _, rfl, a, sc, 8, _, rfl, by decide, by decide, S5, by omega, fun r6 H6 r60 r68 S6 K6 => ?_⟩
      obtain ⟨p6, x6, nv, nd, e6, q6, h6, m6, dnv⟩ := pick_dp (dp_same (of2_kept K6) dN5) r60 (by omega)
      cases e6
      refine ⟨_, _, _, nv, rfl, rfl, q6, h6, _, rfl, _, rfl, (by show 3 ≤ sizeLine; decide), fun tj mtj => ?_⟩
      have dtj := new_tup2 (K := K) (has2 (l := l) S6 (K05.trans K6) hl) mtj (.cons dnv (.cons (dp_same (of2_kept K6) dA5) (.cons (.int e) .nil)))
      have sj := same_new (o := .tup [nv, av, .int e]) mtj
      have hkf : headD (.tuple [.str kd, .int t]) = true := rfl
      have nmS : smallS (.str nm) := Nat.le_trans o8 (by decide)
      have K56 : Kept a H5 (upd H6 tj (.tup [nv, av, .int e])) := K6.trans (kept_same sj)
      apply cutR (α := L2.St → Hp → Prop) (F := fun R => ∀ (jv : V) (jd : PyData) (G : Hp), Dp K (Of2 l a G) jv jd → niceJob jd → Sto sc a (n + 7) G → Kept a H5 G → R [some (.ref a), some (.ref pj), some (.int (ix : Int)), some (.str nm), some av, some (.int e), some (.str nm2), some (.str ⟨#[ch]⟩), some (.int (j : Int)), some (.ref ht3), some (.ref ht18), some (.ref ht19), some (.int way), some jv] G)
      · intro cont
        have dflt := cont (.ref tj) _ _ dtj ⟨okN nd m6, hkf⟩ ((S6.same sj).more (by omega)) K56
        apply cutR (α := Prop) (F := fun B => B)
        · intro br
          exact ⟨_, rfl, rfl, _, rfl, ite2 (fun _ => iteT br) (fun _ => ⟨_, rfl, rfl, _, rfl, ite2 (fun _ => br) (fun _ => dflt)⟩)⟩
        · refine ⟨_, rfl, _, rfl, _, rfl, a, sc, 14, _, rfl, by decide, by decide, S6.same sj, by omega, fun r7 H7 r70 r71 S7 K7 => ?_⟩
          obtain ⟨p7, x7, mv, md, e7, q7, h7, m7, dmv⟩ := pick_dp (dp_same (of2_kept (K56.trans K7)) dM5) r70 (by omega)
          cases e7
          refine ⟨_, _, _, mv, rfl, rfl, q7, h7, _, rfl, (by show 3 ≤ sizeLine; decide), fun t7 mt7 => ?_⟩
          have dt7 := new_tup2 (K := K) (vs := [.str nm, mv, .int e]) (has2 (l := l) S7 (K05.trans (K56.trans K7)) hl) mt7 (.cons (.str nm) (.cons dmv (.cons (.int e) .nil)))
          have s7 := same_new (o := .tup [.str nm, mv, .int e]) mt7
          exact cont _ _ _ dt7 ⟨nmS, okM md m7⟩ ((S7.same s7).more (by omega)) ((K56.trans K7).trans (kept_same s7))
      clear dtj sj K56 K6 S6 dnv q6 h6 m6
      intro jv jd G dj nj SG KG
      apply cutR (α := L2.St → Hp → Prop) (F := fun R => ∀ (jv : V) (jd : PyData) (G : Hp), Dp K (Of2 l a G) jv jd → niceJob jd → Sto sc a (n + 8) G → Kept a H5 G → R [some (.ref a), some (.ref pj), some (.int (ix : Int)), some (.str nm), some av, some (.int e), some (.str nm2), some (.str ⟨#[ch]⟩), some (.int (j : Int)), some (.ref ht3), some (.ref ht18), some (.ref ht19), some (.int way), some jv] G)
      · intro cont
        have dflt := cont jv jd G dj nj (SG.more (by omega)) KG
        refine ⟨_, rfl, rfl, _, rfl, ite2 (fun _ => ?_) (fun _ => dflt)⟩
        refine ⟨_, rfl, _, rfl, _, rfl, _, rfl, a, sc, 6, _, rfl, by decide, by decide, SG, by omega, fun r7 H7 r70 r71 S7 K7 => ?_⟩
        obtain ⟨p7, x7, mv, md, e7, q7, h7, m7, dmv⟩ := pick_dp (dp_same (of2_kept (KG.trans K7)) dD5) r70 (by omega)
        cases e7
        refine ⟨_, _, _, mv, rfl, rfl, q7, h7, (by show 3 ≤ sizeLine; decide), fun t7 mt7 => ?_⟩
        have dt7 := new_tup2 (K := K) (vs := [.str nm, av, mv]) (has2 (l := l) S7 (K05.trans (KG.trans K7)) hl) mt7 (.cons (.str nm) (.cons (dp_same (of2_kept (KG.trans K7)) dA5) (.cons dmv .nil)))
        have s7 := same_new (o := .tup [.str nm, av, mv]) mt7
        exact cont _ _ _ dt7 ⟨nmS, hkf⟩ ((S7.same s7).more (by omega)) ((KG.trans K7).trans (kept_same s7))
      clear jv jd G dj nj SG KG
      intro jv jd G dj nj SG KG
      apply cutR (α := L2.St → Hp → Prop) (F := fun R => ∀ (jv : V) (jd : PyData) (G : Hp), Dp K (Of2 l a G) jv jd → niceJob jd → Sto sc a (n + 9) G → Kept a H5 G → R [some (.ref a), some (.ref pj), some (.int (ix : Int)), some (.str nm), some av, some (.int e), some (.str nm2), some (.str ⟨#[ch]⟩), some (.int (j : Int)), some (.ref ht3), some (.ref ht18), some (.ref ht19), some (.int way), some jv] G)
      · intro cont
        have dflt := cont jv jd G dj nj (SG.more (by omega)) KG
        refine ⟨_, rfl, rfl, _, rfl, ite2 (fun _ => ?_) (fun _ => dflt)⟩
        have hA := has2 (l := l) SG (K05.trans KG) hl
        have dAG := dp_same (of2_kept KG) dA5
        have wg0 : Same G G := Same.refl G
        refine ⟨_, rfl, _, rfl, _, rfl, (by show 3 ≤ sizeLine; decide), fun wt1 wm1 => ?_⟩
        have wd1 := new_lst2 (K := K) (vs := [.str nm, av, .int e]) (wg0.has2 hA) wm1 (.cons (.str nm) (.cons (dp_up2 wg0 dAG) (.cons (.int e) .nil)))
        have ws1 := same_new (o := .lst [.str nm, av, .int e]) wm1
        have wg1 := wg0.trans ws1
        refine ⟨_, rfl, _, rfl, (by show 2 ≤ sizeLine; decide), fun wt2 wm2 => ?_⟩
        have wd2 := new_tup2 (K := K) (vs := [.str nm, av]) (wg1.has2 hA) wm2 (.cons (.str nm) (.cons (dp_up2 wg1 dAG) .nil))
        have ws2 := same_new (o := .tup [.str nm, av]) wm2
        have wg2 := wg1.trans ws2
        have wd1 := dp_up2 (K := K) ws2 wd1
        refine ⟨_, rfl, _, rfl, _, rfl, (by show 4 ≤ sizeLine; decide), fun wt3 wm3 => ?_⟩
        have wd3 := new_tup2 (K := K) (vs := [.str nm, av, .int e, .int 0]) (wg2.has2 hA) wm3 (.cons (.str nm) (.cons (dp_up2 wg2 dAG) (.cons (.int e) (.cons (.int 0) .nil))))
        have ws3 := same_new (o := .tup [.str nm, av, .int e, .int 0]) wm3
        have wg3 := wg2.trans ws3
        have wd1 := dp_up2 (K := K) ws3 wd1
        have wd2 := dp_up2 (K := K) ws3 wd2
        refine ⟨_, rfl, (by show 5 ≤ sizeLine; decide), fun wt4 wm4 => ?_⟩
        have wd4 := new_lst2 (K := K) (vs := [.ref wt1, .ref wt2, .ref wt3, .non, .str nm]) (wg3.has2 hA) wm4 (.cons wd1 (.cons wd2 (.cons wd3 (.cons .non (.cons (.str nm) .nil)))))
        have ws4 := same_new (o := .lst [.ref wt1, .ref wt2, .ref wt3, .non, .str nm]) wm4
        have wg4 := wg3.trans ws4
        have wd1 := dp_up2 (K := K) ws4 wd1
        have wd2 := dp_up2 (K := K) ws4 wd2
        have wd3 := dp_up2 (K := K) ws4 wd3
        refine ⟨_, rfl, a, sc, 5, _, rfl, by decide, by decide, SG.same wg4, by omega, fun r7 H7 r70 r71 S7 K7 => ?_⟩
        obtain ⟨p7, x7, mv, md, e7, q7, h7, m7, dmv⟩ := pick_dp (dp_same (of2_kept K7) wd4) r70 r71
        cases e7
        refine ⟨_, _, _, mv, rfl, rfl, q7, h7, cont _ _ _ dmv ?_ (S7.more (by omega)) ((KG.trans (kept_same wg4)).trans K7)⟩
        simp only [List.mem_cons, List.not_mem_nil, or_false] at m7
        rcases m7 with rfl | rfl | rfl | rfl | rfl <;> exact True.intro
      clear jv jd G dj nj SG KG
      intro jv jd G dj nj SG KG
      have hA := has2 (l := l) SG (K05.trans KG) hl
      have dG := dp_same (of2_kept KG) dJ5
      have e1 : HT.sIx js.length js.length (some (ix : Int)) = ix := by rw [HT.sIx_nat]; omega
      have e2 : HT.sIx js.length 0 (some ((ix : Int) + 1)) = ix + 1 := by
        show HT.sIx js.length 0 (some ((ix + 1 : Nat) : Int)) = ix + 1
        rw [HT.sIx_nat]
        omega
      have e3 : HT.sIx js.length 0 none = 0 := rfl
      have e4 : HT.sIx js.length js.length none = js.length := rfl
      refine ⟨_, rfl, _, rfl, _, rfl, slice_go2 hA dG (fun z1 G1 s1 d1 => ?_)⟩
      rw [e1, e3] at d1
      refine ⟨_, rfl, (by show 1 ≤ sizeLine; decide), fun t2 m2 => ?_⟩
      have d2 := new_tup2 (K := K) (vs := [jv]) (s1.has2 hA) m2 (.cons (dp_up2 s1 dj) .nil)
      have s2 := same_new (o := .tup [jv]) m2
      refine cat_go2 (s2.has2 (s1.has2 hA)) (dp_up2 s2 d1) d2 ?_ (fun z3 G3 s3 d3 => ?_)
      · simp only [List.length_take, List.length_drop, List.length_cons, List.length_nil]
        omega
      refine ⟨_, rfl, _, rfl, _, _, rfl, rfl, _, rfl, ?_⟩
      dsimp only [tNoPart]
      have s123 := (s1.trans s2).trans s3
      refine slice_go2 (s123.has2 hA) (dp_up2 s123 dG) (fun z4 G4 s4 d4 => ?_)
      rw [e2, e4] at d4
      refine cat_go2 (s4.has2 (s123.has2 hA)) (dp_up2 s4 d3) d4 ?_ (fun z5 G5 s5 d5 => ?_)
      · simp only [List.length_append, List.length_take, List.length_drop, List.length_cons, List.length_nil]
        omega
      have sAll := (s123.trans s4).trans s5
      refine k _ _ _ ((SG.same sAll).more (by omega)) ((K05.trans KG).trans (kept_same sAll)) d5 ⟨fun d hd => ?_, ?_⟩ (fun ms e => ?_)
      · have old : ∀ d ∈ js, niceJob d := fun d hd => nice_of (List.all_eq_true.mp okj d hd)
        rcases List.mem_append.mp hd with hd | hd
        · rcases List.mem_append.mp hd with hd | hd
          · exact old d (List.mem_of_mem_drop (List.mem_of_mem_take hd))
          · rw [List.mem_singleton.mp hd]
            exact nj
        · exact old d (List.mem_of_mem_drop (List.mem_of_mem_take hd))
      · simp only [List.length_append, List.length_take, List.length_drop, List.length_cons, List.length_nil]
        omega
      · cases e
        simp only [List.length_append, List.length_take, List.length_drop, List.length_cons, List.length_nil]
        omega
end
end Vk
set_option maxHeartbeats 4000000
namespace Vk
open PySem PySem.Spec PyProof.Rows L2 GxR
/-- an arrival at a moment up to m, or after up to f finishes -/
def reachA (m f : Int) : PyData → Bool
  | .tuple [k, .int t] => decide (t ≤ if atS "at" k = true then m else f)
  | _ => false
def countA (js : List PyData) (m f : Int) : Nat := (js.map arrD).countP (reachA m f)
theorem place_each {js : List PyData} (h : jobsPlace (.tuple js) = none) : js.all jobD = true := by
  have e1 : eachPlace js = none := by
    cases he : eachPlace js with
    | none => rfl
    | some i =>
      have z : (match eachPlace js with
        | some i => some (i : Int)
        | none => match waitPlace js with
          | some i => some (i : Int)
          | none => none) = none := h
      rw [he] at z
      cases z
  exact each_all fun j hj => Bool.eq_false_iff.mpr (List.find?_eq_none.mp e1 j (List.mem_range.mpr hj))
section
variable {P : Program} {w : World} {K : PySem.W.Frag} {mg : Str → Option Value} {base : Heap}
def spHas (K : PySem.W.Frag) : Sp := fun vs H Q _ => ∃ (v : V) (d : PyData) (m f : Int), vs = [v, .int m, .int f] ∧ Dp K H v d ∧ jobD d = true ∧ Q (.bl (reachA m f (arrD d))) H
theorem scHas : FnScope ["job", "moment", "finished", "kind", "number"] ["job", "moment", "finished"] (defScope sHas) := ⟨rfl, rfl, rfl, by decide +kernel, rfl, by decide +kernel, by decide +kernel⟩
theorem ok_has (D : Df K mg "has_arrived" sHas ["job", "moment", "finished"]) : Cl P w K mg base CX0 1 "has_arrived" ["job", "moment", "finished"] (spHas K) := by
  refine cl0 D scHas (fun vs H Q E h => ?_) (fun f cdv A outer s H vs Q E hr h => ?_)
  · obtain ⟨v, d, m, f, rfl, _⟩ := h
    rfl
  · obtain ⟨v, d, m, fi, rfl, hd, jd, k⟩ := h
    refine ⟨_, pss_cons (ps_asg (pe_ix ix_tup (pv 0) pe_int (fun _ _ => rfl)) (pg_tup rfl (pgs_cons (pg_name (i := 3) scHas.nd rfl (.inl rfl)) (pgs_cons (pg_name (i := 4) scHas.nd rfl (.inl rfl)) pgs_nil))))
      (pss_one (ps_ret (pe_cmpR op_le (pv 4) (pe_ifExp (pt_cmpR op_eq (pv 3) pe_str (nomark _)) (pv 1) (pv 2)) (nomark _)))), ?_⟩
    obtain ⟨n, kd, t, e, rfl, hn, hk⟩ := job_parts jd
    obtain ⟨p, x, y, z, rfl, q, dn, da, de⟩ := dp_three hd
    obtain ⟨pa, kv, tv, rfl, qa, dk, dt⟩ := dp_two da
    have ek := dp_str dk
    subst ek
    have et := dp_int dt
    subst et
    refine ⟨_, rfl, p, _, _, _, rfl, rfl, q, rfl, pa, _, rfl, qa, rfl, _, _, rfl, _, _, rfl, rfl, ?_⟩
    refine ⟨_, rfl, _, rfl, rfl, _, rfl, ?_⟩
    rw [eq_S (s := ("at" : Str)) dk]
    have re : reachA m fi (arrD (.tuple [.str n, .tuple [.str kd, .int t], .int e])) = decide (t ≤ if atS "at" (.str kd) = true then m else fi) := rfl
    rw [re] at k
    cases hat : atS "at" (.str kd) with
    | true =>
      rw [hat] at k
      exact iteT ⟨_, rfl, _, _, rfl, rfl, k⟩
    | false =>
      rw [hat] at k
      exact iteF ⟨_, rfl, _, _, rfl, rfl, k⟩
def spCount (K : PySem.W.Frag) : Sp := fun vs H Q _ => ∃ (v : V) (js : List PyData) (m f : Int), vs = [v, .int m, .int f] ∧ Dp K H v (.tuple js) ∧ js.all jobD = true ∧ js.length ≤ 900 ∧ ∀ H', Same H H' → Q (.int (countA js m f : Nat)) H'
theorem scCount : FnScope ["jobs", "moment", "finished", "job"] ["jobs", "moment", "finished"] (defScope sCount) := ⟨rfl, rfl, rfl, by decide +kernel, rfl, by decide +kernel, by decide +kernel⟩
theorem ok_count (D : Df K mg "count_arrived" sCount ["jobs", "moment", "finished"]) (B : Blt mg) (HA : Cl P w K mg base CX0 1 "has_arrived" ["job", "moment", "finished"] (spHas K)) : Cl P w K mg base CX0 2 "count_arrived" ["jobs", "moment", "finished"] (spCount K) := by
  refine cl0 D scCount (fun vs H Q E h => ?_) (fun f cdv A outer s H vs Q E hr h => ?_)
  · obtain ⟨v, d, m, f, rfl, _⟩ := h
    rfl
  · obtain ⟨v, js, m, fi, rfl, hd, okj, l900, k⟩ := h
    refine ⟨_, pss_one (ps_ret (pe_callB call_len_seq (by rfl) B.len PySem.boot_len (pa_cons (pe_lc (own := [("job", 3)]) (g := gName 3) (tt := tB (tCal (spHas K) (tCons (tVar 3) (tCons (tVar 1) (tCons (tVar 2) tNil))))) (te := tVar 3) (by rfl) scCount.nd (pi_tup (pv 0))
          (blkOk_by (own := [("job", 3)]) (N := ["jobs", "moment", "finished", "job"]) (sc := defScope sCount) (by decide +kernel))
          (fun _ _ _ _ _ => pg_name (i := 3) scCount.nd rfl (Or.inl rfl))
          (fun _ _ _ _ _ => pts_one (pt_val (pc HA hr (by decide) (pa_cons (pv 3) (pa_cons (pv 1) (pa_cons (pv 2) pa_nil)))))) (fun _ _ _ _ _ => pv 3)) pa_nil))), ?_⟩
    obtain ⟨pj, xs, rfl, qj, rj⟩ := dp_tuple hd
    have xl := dps_len rj
    refine ⟨_, rfl, pj, rfl, ⟨_, qj⟩, fun D1 nD1 => ?_⟩
    refine lc_it (walk_tup (K := K) (a := pj) (xs := xs)) (fun i Hc => ∃ acc, Same H Hc ∧ Hc D1 = some (.lst acc) ∧ acc.length = ((js.take i).map arrD).countP (reachA m fi))
      ⟨[], same_new nD1, upd_same, rfl⟩ (fun i Hc _ ⟨acc, s3, _⟩ => same_seqT s3 qj) ?_ ?_
    · rintro i y1 Hc Hc2 hm ⟨acc, s3, hD, lc⟩ ⟨rfl, hy1⟩
      obtain ⟨e1, he1, de1⟩ := dps_getV rj hy1
      have jd1 := List.all_eq_true.mp okj e1 (List.mem_of_getElem? he1)
      have e2 : ((js.take (i + 1)).map arrD).countP (reachA m fi) = ((js.take i).map arrD).countP (reachA m fi) + (if reachA m fi (arrD e1) = true then 1 else 0) := by
        rw [List.take_add_one, he1]
        show ((js.take i ++ [e1]).map arrD).countP (reachA m fi) = _
        rw [List.map_append, List.countP_append]
        show _ + [arrD e1].countP (reachA m fi) = _
        rw [List.countP_singleton]
      have small : acc.length < sizeLine := by
        have z : ((js.take i).map arrD).countP (reachA m fi) ≤ ((js.take i).map arrD).length := List.countP_le_length
        rw [List.length_map, List.length_take] at z
        exact Nat.lt_of_le_of_lt (show acc.length ≤ 1000 by omega) (by decide)
      refine ⟨rfl, _, rfl, _, rfl, _, rfl, y1, e1, m, fi, rfl, dp_same s3 de1, jd1, _, rfl, ?_⟩
      cases hb : reachA m fi (arrD e1) with
      | true =>
        refine iteT ⟨_, rfl, acc, hD, small, acc ++ [y1], same_put s3 nD1, upd_same, ?_⟩
        rw [e2, if_pos hb, List.length_append, List.length_singleton, lc]
      | false =>
        refine iteF ⟨acc, s3, hD, ?_⟩
        rw [e2, if_neg (by rw [hb]; exact Bool.false_ne_true), lc]
        rfl
    · rintro Hc ⟨acc, s3, hD, lc⟩
      rw [xl, List.take_length] at lc
      refine ⟨D1, acc, rfl, .inl (SqL.of hD), ?_⟩
      rw [lc]
      exact k Hc s3
end
end Vk
set_option maxHeartbeats 4000000
namespace Vk
open PySem PySem.Spec PyProof.Rows L2 GxR
abbrev sLogInit : Stmt := inClass (top 10) 0
/-- a pair of a log -/
def pairP (p : Int × Int) : PyData := .tuple [.int p.1, .int p.2]
def pairD (before : Int) : PyData → Option (Int × Int)
  | .tuple [.int u, .int f] => if before + 1 ≤ u ∧ 1 ≤ f then some (u, f) else none
  | _ => none
/-- the place of the first wrong pair -/
def badPair : Int → Nat → List PyData → Option Nat
  | _, _, [] => none
  | b, i, d :: ds => match pairD b d with
    | some p => badPair p.1 (i + 1) ds
    | none => some i
def logPlace : PyData → Option Int
  | .tuple ds => match badPair 0 0 ds with
    | some i => some (i : Int)
    | none => none
  | _ => some 0
def lenLog : PyData → Nat
  | .tuple ds => ds.length
  | _ => 0
/-- ascending units from behind b on, finishes from 1 on -/
def Asc : Int → List (Int × Int) → Prop
  | _, [] => True
  | b, p :: r => b + 1 ≤ p.1 ∧ 1 ≤ p.2 ∧ Asc p.1 r
theorem pairD_some {b : Int} {d : PyData} {p : Int × Int} (h : pairD b d = some p) : d = pairP p ∧ b + 1 ≤ p.1 ∧ 1 ≤ p.2 := by
  unfold pairD at h
  split at h
  · split at h
    · cases h
      rename_i h
      exact ⟨rfl, h.1, h.2⟩
    · cases h
  · cases h
theorem pairD_P {b : Int} {p : Int × Int} (h1 : b + 1 ≤ p.1) (h2 : 1 ≤ p.2) : pairD b (pairP p) = some p := by
  show (if b + 1 ≤ p.1 ∧ 1 ≤ p.2 then some (p.1, p.2) else none) = some p
  rw [if_pos ⟨h1, h2⟩]
theorem bad_pairs : ∀ {ds : List PyData} {b : Int} {i : Nat}, badPair b i ds = none → ∃ lg, ds = lg.map pairP ∧ Asc b lg
  | [], _, _, _ => ⟨[], rfl, trivial⟩
  | d :: ds, b, i, h => by
    have e : badPair b i (d :: ds) = match pairD b d with
      | some p => badPair p.1 (i + 1) ds
      | none => some i := rfl
    rw [e] at h
    cases hp : pairD b d with
    | none =>
      rw [hp] at h
      cases h
    | some p =>
      rw [hp] at h
      obtain ⟨e1, e2, e3⟩ := pairD_some hp
      obtain ⟨lg, e4, e5⟩ := bad_pairs (ds := ds) h
      exact ⟨p :: lg, by rw [e1, e4]; rfl, e2, e3, e5⟩
theorem asc_pairs : ∀ {lg : List (Int × Int)} {b : Int} {i : Nat}, Asc b lg → badPair b i (lg.map pairP) = none
  | [], _, _, _ => rfl
  | p :: lg, b, i, h => by
    show (match pairD b (pairP p) with
      | some p => badPair p.1 (i + 1) (lg.map pairP)
      | none => some i) = none
    rw [pairD_P h.1 h.2.1]
    exact asc_pairs h.2.2
theorem log_pairs {d : PyData} (h : logPlace d = none) : ∃ lg, d = .tuple (lg.map pairP) ∧ Asc 0 lg := by
  cases d with
  | tuple ds =>
    have z : (match badPair 0 0 ds with
      | some i => some (i : Int)
      | none => none) = none := h
    cases hb : badPair 0 0 ds with
    | some i =>
      rw [hb] at z
      cases z
    | none =>
      obtain ⟨lg, e1, e2⟩ := bad_pairs hb
      exact ⟨lg, by rw [e1], e2⟩
  | _ => cases h
theorem log_none {lg : List (Int × Int)} (h : Asc 0 lg) : logPlace (.tuple (lg.map pairP)) = none := by
  show (match badPair 0 0 (lg.map pairP) with
    | some i => some (i : Int)
    | none => none) = none
  rw [asc_pairs h]
/-- a pair that is no pair -/
theorem pair_not {b : Int} {d : PyData} (h : tupleND 2 d = false) : pairD b d = none := by
  cases d with
  | tuple ds =>
    have z : ¬ (ds.length : Int) = 2 := of_decide_eq_false h
    match ds, z with
    | [a, b], z => exact absurd rfl z
    | [], _ => rfl
    | [x], _ => cases x <;> rfl
    | x :: y :: _ :: l, _ => cases x <;> first | rfl | (cases y <;> rfl)
  | _ => rfl
theorem pair_fst {b : Int} {x y : PyData} (h : integerD (b + 1) x = false) : pairD b (.tuple [x, y]) = none := by
  cases x with
  | int u =>
    cases y with
    | int f =>
      show (if b + 1 ≤ u ∧ 1 ≤ f then some (u, f) else none) = none
      rw [if_neg (fun z => (of_decide_eq_false h) z.1)]
    | _ => rfl
  | _ => rfl
theorem pair_snd {b : Int} {x y : PyData} (h : integerD 1 y = false) : pairD b (.tuple [x, y]) = none := by
  cases x with
  | int u =>
    cases y with
    | int f =>
      show (if b + 1 ≤ u ∧ 1 ≤ f then some (u, f) else none) = none
      rw [if_neg (fun z => (of_decide_eq_false h) z.2)]
    | _ => rfl
  | _ => rfl
theorem int_of {m : Int} {q : PyData} (z : integerD m q = true) : ∃ i, q = .int i ∧ m ≤ i := by
  cases q with
  | int i => exact ⟨i, rfl, of_decide_eq_true z⟩
  | _ => cases z
/-- the numbers of present and of running jobs -/
def presI (js : List PyData) (u f : Int) : Int := (countA js (u - 1) f : Int) - f
def runI (js : List PyData) (u f c : Int) : Int := if c < presI js u f then c else presI js u f
/-- the certificate of impossibility, or none -/
def certD (js : List PyData) (c : Int) : Int → List (Int × Int) → PyData
  | f, [] => if f = (js.length : Int) then .none else .tuple [.str "unfinished", .int ((js.length : Int) - f)]
  | f, p :: r => if runI js p.1 f c < p.2 then .tuple [.str "crowded", .int p.1, .int (runI js p.1 f c)] else certD js c (f + p.2) r
theorem count_le (js : List PyData) (m f : Int) : countA js m f ≤ js.length := by
  unfold countA
  have z : (js.map arrD).countP (reachA m f) ≤ (js.map arrD).length := List.countP_le_length
  rw [List.length_map] at z
  exact z
theorem run_le {js : List PyData} {u f c : Int} : runI js u f c ≤ presI js u f := by
  unfold runI
  split <;> omega
section
variable {P : Program} {w : World} {K : PySem.W.Frag} {mg : Str → Option Value} {base : Heap}
theorem scLogInit : FnScope ["self", "place"] ["self", "place"] (defScope sLogInit) := ⟨rfl, rfl, rfl, by decide +kernel, rfl, by decide +kernel, by decide +kernel⟩
theorem ok_logInit {C fI : Addr} {fd : FuncData} (F : Fun K "__init__" "NoLog.__init__" sLogInit fI fd) (T : OexC K C) (no : PySem.W.findIn K (.ref C) "place" = some none) : FnOk P w K mg base CX0 1 fI fd ["self", "place"] (spIni C "place") := by
  refine F.ok scLogInit (fun vs H Q E h => ?_) (fun cdv A outer s H vs Q E hr h => ?_)
  · obtain ⟨a, v, rfl, _⟩ := h
    rfl
  · obtain ⟨a, v, rfl, ha, k⟩ := h
    refine ⟨_, pss_one (ps_ost (pv 0) (pv 1)), ?_⟩
    exact ⟨_, rfl, _, rfl, a, C, rfl, T, no, .inl ⟨ha, fun dx n1 n2 => k dx n1 n2⟩⟩
theorem erc_log {C : Addr} (g : mg "NoLog" = some (.ref C)) (T : OexC K C) (no : PySem.W.findIn K (.ref C) "place" = some none) (N : Nit K "NoLog" "NoLog.__init__" "place" sLogInit C) : ErC P w K mg base "NoLog" "place" C := by
  obtain ⟨fI, fd, h1, h2, h3, h4⟩ := N.ex
  exact ⟨g, T, fI, fd, h1, h2, h4, ok_logInit h3 T no⟩
def spCheckLog (K : PySem.W.Frag) (C : Addr) : Sp := fun vs H Q E => ∃ (v : V) (d : PyData), vs = [v] ∧ Dp K H v d ∧ lenLog d ≤ 50000 ∧ (logPlace d = none → ∀ H', Same H H' → Q .non H') ∧
  (∀ i, logPlace d = some i → ∀ (dx : Addr) (H' : Hp), Same H H' → H' dx = some (.xd [(("place" : Str), .int i)]) → E (.ref C) (some dx) H')
theorem scCheckLog : FnScope ["log", "before", "place", "pair"] ["log"] (defScope sCheckLog) := ⟨rfl, rfl, rfl, by decide +kernel, rfl, by decide +kernel, by decide +kernel⟩
theorem ok_checkLog {C : Addr} (D : Df K mg "check_log" sCheckLog ["log"]) (B : Blt mg) (ER : ErC P w K mg base "NoLog" "place" C) (T : Cl P w K mg base CX0 1 "is_tuple_of" ["value", "many"] (spTupleOf K)) (I : Cl P w K mg base CX0 1 "is_integer" ["value", "least"] (spInteger K)) :
    Cl P w K mg base (L2.CX P w) 3 "check_log" ["log"] (spCheckLog K C) := by
  refine clX D scCheckLog (fun vs H Q E h => ?_) (fun f cdv A outer s H vs Q E hr h => ?_)
  · obtain ⟨v, d, rfl, _⟩ := h
    rfl
  · obtain ⟨v, d, rfl, hd, ld, kN, kE⟩ := h
    refine ⟨_, pss_cons (ps_if (pt_not (pt_val (pe_callB call_isi (by rfl) B.isi (by decide +kernel) (pa_cons (pv 0) (pa_cons (pe_bltn (v := .ty "tuple") (u := .type "tuple") (by rfl) B.tuple (by decide +kernel) rfl) pa_nil))))) (pss_one (ps_raiseE ER rfl hr (by decide) (takes_of rfl rfl rfl rfl) pe_int)) pss_nil)
      (pss_cons (ps_set (i := 1) scCheckLog.nd rfl (Or.inl rfl) pe_int)
      (pss_one (ps_for (passes_of rfl) rfl (pi_enumT B.enum (pa_cons (pv 0) pa_nil)) (pg_tup rfl (pgs_cons (pg_name (i := 2) scCheckLog.nd rfl (.inl rfl)) (pgs_cons (pg_name (i := 3) scCheckLog.nd rfl (.inl rfl)) pgs_nil)))
        (pss_cons (ps_if (PW.pt (pw_or (pt_not (pt_val (pc T hr (by decide) (pa_cons (pv 3) (pa_cons pe_int pa_nil))))) (pw_or (pt_not (pt_val (pc I hr (by decide) (pa_cons (pe_ix ix_tup (pv 3) pe_int (fun _ _ => rfl)) (pa_cons (pe_op op_add (pv 1) pe_int) pa_nil)))))
            (pw_or1 (pt_not (pt_val (pc I hr (by decide) (pa_cons (pe_ix ix_tup (pv 3) pe_int (fun _ _ => rfl)) (pa_cons pe_int pa_nil)))))))))
          (pss_one (ps_raiseE ER rfl hr (by decide) (takes_of rfl rfl rfl rfl) (pv 2))) pss_nil)
        (pss_one (ps_set (i := 1) scCheckLog.nd rfl (Or.inl rfl) (pe_ix ix_tup (pv 3) pe_int (fun _ _ => rfl)))))))), ?_⟩
    refine ⟨_, rfl, v, _, _, _, _, rfl, .ty "tuple", dp_ty hd, kit_tup hd, _, rfl, ?_⟩
    cases htup : isTupD d with
    | false =>
      have e2 : logPlace d = some 0 := by
        cases d with
        | tuple ds => cases htup
        | _ => rfl
      refine iteT ?_
      exact raise_go fun dx H2 s1 _ hx => kE 0 e2 dx H2 s1 hx
    | true =>
      obtain ⟨ds, rfl⟩ : ∃ ds, d = .tuple ds := by
        cases d with
        | tuple ls => exact ⟨ls, rfl⟩
        | _ => cases htup
      obtain ⟨pj, xs, rfl, qj, rj⟩ := dp_tuple hd
      have xl := dps_len rj
      have lp : logPlace (.tuple ds) = match badPair 0 0 ds with
        | some i => some (i : Int)
        | none => none := rfl
      refine iteF ⟨_, rfl, pj, xs, rfl, qj, for_it (walk_enumT (K := K) (a := pj) (xs := xs)) (fun i σ G => ∃ (b : Int) (u2 u3 : Option V), σ = [some (.ref pj), some (.int b), u2, u3] ∧ Same H G ∧ badPair 0 0 ds = badPair b i (ds.drop i))
        ⟨0, none, none, rfl, Same.refl H, rfl⟩ (fun i σ G _ ⟨_, _, _, _, s1, _⟩ => same_seqT s1 qj) ?_ ?_⟩
      · rintro i v1 σ G G2 hi ⟨b, u2, u3, rfl, s1, eb⟩ ⟨TT, x1, y1, rfl, nT, rfl, ex, ey⟩
        cases ex
        obtain ⟨d1, hd1, dp1⟩ := dps_getV rj ey
        have s2 := s1.trans (same_new (o := .tup [V.int (i : Nat), y1]) nT)
        have dr : ds.drop i = d1 :: ds.drop (i + 1) := by
          obtain ⟨h1, h2⟩ := List.getElem?_eq_some_iff.mp hd1
          rw [List.drop_eq_getElem_cons h1, h2]
        rw [dr] at eb
        replace eb : badPair 0 0 ds = match pairD b d1 with
          | some p => badPair p.1 (i + 1) (ds.drop (i + 1))
          | none => some i := eb
        refine ⟨TT, _, rfl, SqT.of upd_same, rfl, _, _, rfl, _, _, rfl, rfl, ?_⟩
        have stop : pairD b d1 = none → ∀ (dx : Addr) (H' : Hp), Same H H' → H' dx = some (.xd [(("place" : Str), .int (i : Int))]) → E (.ref C) (some dx) H' := fun hp dx H' s' hx => kE (i : Int) (by rw [lp, eb, hp]) dx H' s' hx
        have dp2 := dp_same s2 dp1
        refine ⟨_, rfl, y1, d1, 2, rfl, dp2, _, rfl, ?_⟩
        cases ht : tupleND 2 d1 with
        | false =>
          refine iteT (iteT ⟨_, rfl, ?_⟩)
          exact raise_go fun dx H5 s5 _ hx => stop (pair_not ht) dx H5 (s2.trans s5) hx
        | true =>
          obtain ⟨x, y, rfl⟩ := tup_two ht
          obtain ⟨pp, xv, yv, rfl, qp, dx', dy'⟩ := dp_two dp2
          refine iteF ⟨_, rfl, pp, _, _, _, rfl, rfl, qp, rfl, _, rfl, _, _, rfl, rfl, xv, x, b + 1, rfl, dx', _, rfl, ?_⟩
          cases h1 : integerD (b + 1) x with
          | false =>
            refine iteT (iteT ⟨_, rfl, ?_⟩)
            exact raise_go fun dx H5 s5 _ hx => stop (pair_fst h1) dx H5 (s2.trans s5) hx
          | true =>
            refine iteF ⟨_, rfl, pp, _, _, _, rfl, rfl, qp, rfl, yv, y, 1, rfl, dy', _, rfl, ?_⟩
            cases h2 : integerD 1 y with
            | false =>
              refine iteT ⟨_, rfl, ?_⟩
              exact raise_go fun dx H5 s5 _ hx => stop (pair_snd h2) dx H5 (s2.trans s5) hx
            | true =>
              obtain ⟨u, rfl, hu⟩ := int_of h1
              obtain ⟨f, rfl, hf⟩ := int_of h2
              have exv := dp_int dx'
              subst exv
              refine iteF ⟨_, rfl, pp, _, _, _, rfl, rfl, qp, rfl, u, _, _, rfl, s2, ?_⟩
              rw [eb, show pairD b (.tuple [.int u, .int f]) = some (u, f) from pairD_P (p := (u, f)) hu hf]
      · rintro σ G ⟨b, u2, u3, rfl, s1, eb⟩
        rw [xl, List.drop_length] at eb
        exact kN (by rw [lp, eb]; rfl) G s1
def spPresent (K : PySem.W.Frag) : Sp := fun vs H Q _ => ∃ (v : V) (js : List PyData) (m f : Int), vs = [v, .int m, .int f] ∧ Dp K H v (.tuple js) ∧ js.all jobD = true ∧ js.length ≤ 900 ∧ ∀ H', Same H H' → Q (.int ((countA js m f : Nat) - f)) H'
theorem scPresent : FnScope ["jobs", "moment", "finished"] ["jobs", "moment", "finished"] (defScope sPresent) := ⟨rfl, rfl, rfl, by decide +kernel, rfl, by decide +kernel, by decide +kernel⟩
theorem ok_present (D : Df K mg "count_present" sPresent ["jobs", "moment", "finished"]) (CA : Cl P w K mg base CX0 2 "count_arrived" ["jobs", "moment", "finished"] (spCount K)) : Cl P w K mg base CX0 3 "count_present" ["jobs", "moment", "finished"] (spPresent K) := by
  refine cl0 D scPresent (fun vs H Q E h => ?_) (fun f cdv A outer s H vs Q E hr h => ?_)
  · obtain ⟨v, js, m, f, rfl, _⟩ := h
    rfl
  · obtain ⟨v, js, m, fi, rfl, hd, okj, l9, k⟩ := h
    refine ⟨_, pss_one (ps_ret (pe_op op_sub (pc CA hr (by decide) (pa_cons (pv 0) (pa_cons (pv 1) (pa_cons (pv 2) pa_nil)))) (pv 2))), ?_⟩
    exact ⟨_, rfl, _, rfl, _, rfl, v, js, m, fi, rfl, hd, okj, l9, fun H2 s2 => ⟨_, rfl, _, _, rfl, rfl, k H2 s2⟩⟩
def spRunning (K : PySem.W.Frag) : Sp := fun vs H Q _ => ∃ (v : V) (js : List PyData) (u f c : Int), vs = [v, .int u, .int f, .int c] ∧ Dp K H v (.tuple js) ∧ js.all jobD = true ∧ js.length ≤ 900 ∧ ∀ H', Same H H' → Q (.int (runI js u f c)) H'
theorem scRunning : FnScope ["jobs", "unit", "finished", "processors"] ["jobs", "unit", "finished", "processors"] (defScope sRunning) := ⟨rfl, rfl, rfl, by decide +kernel, rfl, by decide +kernel, by decide +kernel⟩
theorem ok_running (D : Df K mg "count_running" sRunning ["jobs", "unit", "finished", "processors"]) (mn : mg "min" = none) (CP : Cl P w K mg base CX0 3 "count_present" ["jobs", "moment", "finished"] (spPresent K)) : Cl P w K mg base CX0 4 "count_running" ["jobs", "unit", "finished", "processors"] (spRunning K) := by
  refine cl0 D scRunning (fun vs H Q E h => ?_) (fun f cdv A outer s H vs Q E hr h => ?_)
  · obtain ⟨v, js, u, f, c, rfl, _⟩ := h
    rfl
  · obtain ⟨v, js, u, fi, c, rfl, hd, okj, l9, k⟩ := h
    refine ⟨_, pss_one (ps_ret (pe_callB (call_min2 rfl) (by rfl) mn (by decide +kernel) (pa_cons (pc CP hr (by decide) (pa_cons (pv 0) (pa_cons (pe_op op_sub (pv 1) pe_int) (pa_cons (pv 2) pa_nil)))) (pa_cons (pv 3) pa_nil)))), ?_⟩
    exact ⟨_, rfl, _, rfl, _, _, rfl, rfl, _, rfl, v, js, u - 1, fi, rfl, hd, okj, l9, fun H2 s2 => ⟨_, rfl, _, _, rfl, k H2 s2⟩⟩
end
end Vk
set_option maxHeartbeats 4000000
namespace Vk
open PySem PySem.Spec PyProof.Rows L2 GxR
theorem run_min (js : List PyData) (u f c : Int) : (if presI js u f < c then presI js u f else c) = runI js u f c := by
  unfold runI
  split <;> split <;> omega
section
variable {P : Program} {w : World} {K : PySem.W.Frag} {mg : Str → Option Value} {base : Heap}
def spPresL (K : PySem.W.Frag) : Sp := fun vs H Q _ => ∃ (v : V) (js : List PyData) (u f : Int), vs = [v, .int u, .int f] ∧ Dp K H v (.tuple js) ∧ js.all jobD = true ∧ js.length ≤ 900 ∧ ∀ H', Same H H' → Q (.int (presI js u f)) H'
theorem scPresL : FnScope ["jobs", "unit", "finished", "here", "name", "arrival", "door"] ["jobs", "unit", "finished"] (defScope sPresentL) := ⟨rfl, rfl, rfl, by decide +kernel, rfl, by decide +kernel, by decide +kernel⟩
theorem ok_presL (D : Df K mg "_law_present" sPresentL ["jobs", "unit", "finished"]) (B : Blt mg) : Cl P w K mg base CX0 1 "_law_present" ["jobs", "unit", "finished"] (spPresL K) := by
  refine cl0 D scPresL (fun vs H Q E h => ?_) (fun f cdv A outer s H vs Q E hr h => ?_)
  · obtain ⟨v, js, u, f, rfl, _⟩ := h
    rfl
  · obtain ⟨v, js, u, fi, rfl, hd, okj, l9, k⟩ := h
    refine ⟨_, pss_cons (ps_set (i := 3) scPresL.nd rfl (Or.inl rfl) pe_int)
      (pss_cons (ps_for PassesOwn.never rfl (pi_tup (pv 0)) (pg_tup rfl (pgs_cons (pg_name (i := 4) scPresL.nd rfl (.inl rfl)) (pgs_cons (pg_name (i := 5) scPresL.nd rfl (.inl rfl)) (pgs_cons (pg_name (i := 6) scPresL.nd rfl (.inl rfl)) pgs_nil))))
        (pss_one (ps_set (i := 3) scPresL.nd rfl (Or.inl rfl) (pe_op op_add (pv 3) (pe_callTy call_int1 (by rfl) B.int (by decide +kernel) (pa_cons (pe_cmpR op_le (pe_ix ix_tup (pv 5) pe_int (fun _ _ => rfl))
          (pe_ix ix_list (pe_lst (pa_cons (pe_op op_sub (pv 1) pe_int) (pa_cons (pv 2) pa_nil))) (pe_callTy call_int1 (by rfl) B.int (by decide +kernel) (pa_cons (pe_cmpR op_eq (pe_ix ix_tup (pv 5) pe_int (fun _ _ => rfl)) pe_str (nomark _)) pa_nil)) (fun _ _ => rfl)) (nomark _)) pa_nil))))))
      (pss_one (ps_ret (pe_op op_sub (pv 3) (pv 2))))), ?_⟩
    obtain ⟨pj, xs, rfl, qj, rj⟩ := dp_tuple hd
    have xl := dps_len rj
    refine ⟨_, rfl, pj, rfl, ⟨_, qj⟩, for_it (walk_tup (K := K) (a := pj) (xs := xs)) (fun i σ G => ∃ (u4 u5 u6 : Option V), σ = [some (.ref pj), some (.int u), some (.int fi), some (.int (((js.take i).map arrD).countP (reachA (u - 1) fi) : Nat)), u4, u5, u6] ∧ Same H G)
      ⟨none, none, none, rfl, Same.refl H⟩ (fun i σ G _ ⟨_, _, _, _, s⟩ => same_seqT s qj) ?_ ?_⟩
    · rintro i y1 σ G0 G hi ⟨u4, u5, u6, rfl, sG⟩ ⟨rfl, hy1⟩
      obtain ⟨d1, hd1, dd1⟩ := dps_getV rj hy1
      obtain ⟨n, kd, t, e, rfl, hn, hk⟩ := job_parts (List.all_eq_true.mp okj d1 (List.mem_of_getElem? hd1))
      obtain ⟨p, x, y, z, rfl, q, dn, da, de⟩ := dp_three (dp_same sG dd1)
      obtain ⟨pa, kv, tv, rfl, qa, dk, dt⟩ := dp_two da
      have ek := dp_str dk
      subst ek
      have et := dp_int dt
      subst et
      have e2 : ((js.take (i + 1)).map arrD).countP (reachA (u - 1) fi) = ((js.take i).map arrD).countP (reachA (u - 1) fi) + (if reachA (u - 1) fi (.tuple [.str kd, .int t]) = true then 1 else 0) := by
        rw [List.take_add_one, hd1]
        show ((js.take i ++ [PyData.tuple [.str n, .tuple [.str kd, .int t], .int e]]).map arrD).countP (reachA (u - 1) fi) = _
        rw [List.map_append, List.countP_append]
        show _ + [PyData.tuple [.str kd, .int t]].countP (reachA (u - 1) fi) = _
        rw [List.countP_singleton]
      have er : reachA (u - 1) fi (.tuple [.str kd, .int t]) = decide (t ≤ if atS "at" (.str kd) = true then u - 1 else fi) := rfl
      refine ⟨p, _, rfl, q, rfl, _, _, rfl, _, _, rfl, _, _, rfl, rfl, ?_⟩
      refine ⟨_, rfl, _, rfl, pa, _, _, _, rfl, rfl, qa, rfl, _, rfl, _, _, rfl, rfl, _, rfl, (by show 2 ≤ sizeLine; decide), fun l nl => ?_⟩
      have sl := same_new (o := .lst [.int (u - 1), .int fi]) nl
      refine ⟨_, rfl, pa, _, _, _, rfl, rfl, same_seqT sl qa, rfl, rfl, .inr ⟨_, rfl, ?_⟩⟩
      have fin : ∀ b : Bool, reachA (u - 1) fi (.tuple [.str kd, .int t]) = b → ((((js.take i).map arrD).countP (reachA (u - 1) fi) : Nat) : Int) + (if b = true then 1 else 0) = ((((js.take (i + 1)).map arrD).countP (reachA (u - 1) fi) : Nat) : Int) := fun b hb => by
        rw [e2, hb]
        cases b <;> simp
      rcases hk with rfl | rfl
      · refine ⟨l, _, _, _, rfl, rfl, SqL.of upd_same, atI_nat (j := 0) rfl, _, _, rfl, rfl, .inr ⟨_, rfl, _, _, rfl, rfl, some x, some (.ref pa), some z, ?_, sG.trans sl⟩⟩
        rw [← fin (decide (t ≤ u - 1)) er]
        rfl
      · refine ⟨l, _, _, _, rfl, rfl, SqL.of upd_same, atI_nat (j := 1) rfl, _, _, rfl, rfl, .inr ⟨_, rfl, _, _, rfl, rfl, some x, some (.ref pa), some z, ?_, sG.trans sl⟩⟩
        rw [← fin (decide (t ≤ fi)) er]
        rfl
    · rintro σ G ⟨u4, u5, u6, rfl, sG⟩
      rw [xl, List.take_length]
      exact ⟨_, rfl, _, rfl, _, _, rfl, rfl, k G sG⟩
def spLogFault (K : PySem.W.Frag) : Sp := fun vs H Q _ => ∃ (v : V) (d : PyData), vs = [v] ∧ Dp K H v d ∧ lenLog d ≤ 50000 ∧ ∀ H', Same H H' → Q (optV (logPlace d)) H'
theorem scLogFault : FnScope ["log", "before", "place", "pair"] ["log"] (defScope sLogFault) := ⟨rfl, rfl, rfl, by decide +kernel, rfl, by decide +kernel, by decide +kernel⟩
theorem ok_logFault (D : Df K mg "_law_log_fault" sLogFault ["log"]) (B : Blt mg) (I : Cl P w K mg base CX0 1 "_law_is_int" ["value", "least"] (spInteger K)) : Cl P w K mg base CX0 2 "_law_log_fault" ["log"] (spLogFault K) := by
  refine cl0 D scLogFault (fun vs H Q E h => ?_) (fun f cdv A outer s H vs Q E hr h => ?_)
  · obtain ⟨v, d, rfl, _⟩ := h
    rfl
  · obtain ⟨v, d, rfl, hd, ld, k⟩ := h
    refine ⟨_, pss_cons (ps_if (pt_not (pt_val (pe_callB call_isi (by rfl) B.isi (by decide +kernel) (pa_cons (pv 0) (pa_cons (pe_bltn (v := .ty "tuple") (u := .type "tuple") (by rfl) B.tuple (by decide +kernel) rfl) pa_nil))))) (pss_one (ps_ret pe_int)) pss_nil)
      (pss_cons (ps_set (i := 1) scLogFault.nd rfl (Or.inl rfl) pe_int)
      (pss_cons (ps_for PassesOwn.never rfl (pi_enumT B.enum (pa_cons (pv 0) pa_nil)) (pg_tup rfl (pgs_cons (pg_name (i := 2) scLogFault.nd rfl (.inl rfl)) (pgs_cons (pg_name (i := 3) scLogFault.nd rfl (.inl rfl)) pgs_nil)))
        (pss_cons (ps_if (PW.pt (pw_or (pt_not (pt_val (pe_callB call_isi (by rfl) B.isi (by decide +kernel) (pa_cons (pv 3) (pa_cons (pe_bltn (v := .ty "tuple") (u := .type "tuple") (by rfl) B.tuple (by decide +kernel) rfl) pa_nil))))) (pw_or1 (pt_cmpR op_ne (pe_callB call_len_seq (by rfl) B.len PySem.boot_len (pa_cons (pv 3) pa_nil)) pe_int (nomark _))))) (pss_one (ps_ret (pv 2))) pss_nil)
        (pss_cons (ps_if (PW.pt (pw_or (pt_not (pt_val (pc I hr (by decide) (pa_cons (pe_ix ix_tup (pv 3) pe_int (fun _ _ => rfl)) (pa_cons (pe_op op_add (pv 1) pe_int) pa_nil)))))
            (pw_or1 (pt_not (pt_val (pc I hr (by decide) (pa_cons (pe_ix ix_tup (pv 3) pe_int (fun _ _ => rfl)) (pa_cons pe_int pa_nil))))))))
          (pss_one (ps_ret (pv 2))) pss_nil)
        (pss_one (ps_set (i := 1) scLogFault.nd rfl (Or.inl rfl) (pe_ix ix_tup (pv 3) pe_int (fun _ _ => rfl)))))))
      (pss_one (ps_ret pe_non)))), ?_⟩
    have fin : ∀ o, logPlace d = o → ∀ H', Same H H' → Q (optV o) H' := fun o e H' s' => by
      have z := k H' s'
      rw [e] at z
      exact z
    refine ⟨_, rfl, v, _, _, _, _, rfl, .ty "tuple", dp_ty hd, kit_tup hd, _, rfl, ?_⟩
    cases htup : isTupD d with
    | false =>
      have e2 : logPlace d = some 0 := by
        cases d with
        | tuple ds => cases htup
        | _ => rfl
      exact iteT (fin (some 0) e2 H (Same.refl H))
    | true =>
      obtain ⟨ds, rfl⟩ : ∃ ds, d = .tuple ds := by
        cases d with
        | tuple ls => exact ⟨ls, rfl⟩
        | _ => cases htup
      obtain ⟨pj, xs, rfl, qj, rj⟩ := dp_tuple hd
      have xl := dps_len rj
      have lp : logPlace (.tuple ds) = match badPair 0 0 ds with
        | some i => some (i : Int)
        | none => none := rfl
      refine iteF ⟨_, rfl, pj, xs, rfl, qj, for_it (walk_enumT (K := K) (a := pj) (xs := xs)) (fun i σ G => ∃ (b : Int) (u2 u3 : Option V), σ = [some (.ref pj), some (.int b), u2, u3] ∧ Same H G ∧ badPair 0 0 ds = badPair b i (ds.drop i))
        ⟨0, none, none, rfl, Same.refl H, rfl⟩ (fun i σ G _ ⟨_, _, _, _, s1, _⟩ => same_seqT s1 qj) ?_ ?_⟩
      · rintro i v1 σ G G2 hi ⟨b, u2, u3, rfl, s1, eb⟩ ⟨TT, x1, y1, rfl, nT, rfl, ex, ey⟩
        cases ex
        obtain ⟨d1, hd1, dp1⟩ := dps_getV rj ey
        have s2 := s1.trans (same_new (o := .tup [V.int (i : Nat), y1]) nT)
        have dr : ds.drop i = d1 :: ds.drop (i + 1) := by
          obtain ⟨h1, h2⟩ := List.getElem?_eq_some_iff.mp hd1
          rw [List.drop_eq_getElem_cons h1, h2]
        rw [dr] at eb
        replace eb : badPair 0 0 ds = match pairD b d1 with
          | some p => badPair p.1 (i + 1) (ds.drop (i + 1))
          | none => some i := eb
        refine ⟨TT, _, rfl, SqT.of upd_same, rfl, _, _, rfl, _, _, rfl, rfl, ?_⟩
        have stop : pairD b d1 = none → ∀ H', Same H H' → Q (.int (i : Int)) H' := fun hp H' s' => fin (some (i : Int)) (by rw [lp, eb, hp]) H' s'
        have dp2 := dp_same s2 dp1
        refine ⟨_, rfl, y1, _, _, _, _, rfl, .ty "tuple", dp_ty dp2, kit_tup dp2, _, rfl, ?_⟩
        cases ht1 : isTupD d1 with
        | false =>
          refine iteT (iteT ⟨_, rfl, stop ?_ _ s2⟩)
          cases d1 with
          | tuple _ => cases ht1
          | _ => rfl
        | true =>
        obtain ⟨es, rfl⟩ : ∃ es, d1 = .tuple es := by
          cases d1 with
          | tuple ls => exact ⟨ls, rfl⟩
          | _ => cases ht1
        refine iteF ?_
        cases ht : tupleND 2 (.tuple es) with
        | false =>
          obtain ⟨pp, zs, rfl, q0, r0⟩ := dp_tuple dp2
          have z : ¬ (es.length : Int) = 2 := of_decide_eq_false ht
          refine ⟨_, rfl, pp, zs, rfl, .inr q0, rfl, _, rfl, ?_⟩
          have e3 : (!decide (V.int (zs.length : Nat) = V.int 2)) = true := by
            rw [decide_eq_false (fun y => z (by rw [← dps_len r0]; exact V.int.inj y))]
            rfl
          rw [e3]
          refine iteT ⟨_, rfl, ?_⟩
          exact stop (pair_not ht) _ s2
        | true =>
          obtain ⟨x, y, e5⟩ := tup_two ht
          cases e5
          obtain ⟨pp, xv, yv, rfl, qp, dx', dy'⟩ := dp_two dp2
          refine ⟨_, rfl, pp, _, rfl, .inr qp, rfl, _, rfl, iteF ?_⟩
          refine ⟨_, rfl, pp, _, _, _, rfl, rfl, qp, rfl, _, rfl, _, _, rfl, rfl, xv, x, b + 1, rfl, dx', _, rfl, ?_⟩
          cases h1 : integerD (b + 1) x with
          | false =>
            refine iteT (iteT ⟨_, rfl, ?_⟩)
            exact stop (pair_fst h1) _ s2
          | true =>
            refine iteF ⟨_, rfl, pp, _, _, _, rfl, rfl, qp, rfl, yv, y, 1, rfl, dy', _, rfl, ?_⟩
            cases h2 : integerD 1 y with
            | false =>
              refine iteT ⟨_, rfl, ?_⟩
              exact stop (pair_snd h2) _ s2
            | true =>
              obtain ⟨u, rfl, hu⟩ := int_of h1
              obtain ⟨f, rfl, hf⟩ := int_of h2
              have exv := dp_int dx'
              subst exv
              refine iteF ⟨_, rfl, pp, _, _, _, rfl, rfl, qp, rfl, u, _, _, rfl, s2, ?_⟩
              rw [eb, show pairD b (.tuple [.int u, .int f]) = some (u, f) from pairD_P (p := (u, f)) hu hf]
      · rintro σ G ⟨b, u2, u3, rfl, s1, eb⟩
        rw [xl, List.drop_length] at eb
        exact fin none (by rw [lp, eb]; rfl) G s1
end
end Vk
set_option maxHeartbeats 4000000
namespace Vk
open PySem PySem.Spec PyProof.Rows L2 GxR
theorem jobs_arr {js : List PyData} (ok : js.all jobD = true) {d : PyData} (h : d ∈ js.map arrD) : ∃ (k : Str) (t : Int), d = .tuple [.str k, .int t] ∧ (k = "at" ∨ k = "after") := by
  obtain ⟨j, hj, rfl⟩ := List.mem_map.mp h
  obtain ⟨n, k, t, e, rfl, _, hk⟩ := job_parts (List.all_eq_true.mp ok j hj)
  exact ⟨k, t, rfl, hk⟩
theorem reach_at {m f t : Int} : reachA m f (.tuple [.str "at", .int t]) = decide (t ≤ m) := rfl
theorem reach_after {m f t : Int} : reachA m f (.tuple [.str "after", .int t]) = decide (t ≤ f) := rfl
/-- who is reached stays reached -/
theorem reach_mono {m m' f f' : Int} (hm : m ≤ m') (hf : f ≤ f') {d : PyData} (h : reachA m f d = true) : reachA m' f' d = true := by
  unfold reachA at h ⊢
  split at h
  · rename_i k t
    have z := of_decide_eq_true h
    refine decide_eq_true ?_
    split at z <;> rename_i e <;> first | rw [if_pos e] ; omega | rw [if_neg e]; omega
  · cases h
theorem count_mono {js : List PyData} {m m' f f' : Int} (hm : m ≤ m') (hf : f ≤ f') : countA js m f ≤ countA js m' f' :=
  List.countP_mono_left fun d _ h => reach_mono hm hf h
/-- with the moment of one who waits for it, one more -/
theorem count_more {js : List PyData} {m m' f t : Int} (h : .tuple [.str "at", .int t] ∈ js.map arrD) (h1 : m < t) (h2 : t ≤ m') : countA js m f + 1 ≤ countA js m' f := by
  obtain ⟨l1, l2, e⟩ := List.append_of_mem h
  unfold countA
  rw [e, List.countP_append, List.countP_append, List.countP_cons, List.countP_cons, reach_at, reach_at, if_neg (by rw [decide_eq_false (by omega)]; exact Bool.false_ne_true), if_pos (decide_eq_true h2)]
  have z1 : l1.countP (reachA m f) ≤ l1.countP (reachA m' f) := List.countP_mono_left fun d _ h => reach_mono (by omega) (Int.le_refl _) h
  have z2 : l2.countP (reachA m f) ≤ l2.countP (reachA m' f) := List.countP_mono_left fun d _ h => reach_mono (by omega) (Int.le_refl _) h
  omega
/-- as long as jobs are missing and nobody is there, somebody comes at a later moment -/
theorem some_at {js : List PyData} (ok : js.all jobD = true) (fn : Fine js) {m f : Int} (f0 : 0 ≤ f) (hf : f < js.length) (h : (countA js m f : Int) ≤ f) : ∃ t : Int, .tuple [.str "at", .int t] ∈ js.map arrD ∧ m < t := by
  refine Classical.byContradiction fun no => ?_
  have ats : ∀ t : Int, .tuple [.str "at", .int t] ∈ js.map arrD → t ≤ m := fun t ht => Int.not_lt.mp fun z => no ⟨t, ht, z⟩
  have afts : ∀ (n : Nat) (t : Int), t.toNat ≤ n → .tuple [.str "after", .int t] ∈ js.map arrD → t ≤ f := by
    intro n
    induction n with
    | zero => intro t ht _; omega
    | succ n ih =>
      intro t ht hm
      rcases fn.2 _ _ hm with z | z
      · exact absurd z (by decide +kernel)
      · have q : (js.map arrD).countP (befA t) ≤ countA js m f := by
          refine List.countP_mono_left fun d hd hb => ?_
          obtain ⟨k, t2, rfl, hk⟩ := jobs_arr ok hd
          rcases hk with rfl | rfl
          · exact decide_eq_true (ats t2 hd)
          · have hb : decide (t2 < t) = true := hb
            have lt := of_decide_eq_true hb
            refine decide_eq_true (show t2 ≤ f from ?_)
            by_cases z0 : t2 ≤ 0
            · omega
            · exact ih t2 (by omega) hd
        omega
  have all : countA js m f = (js.map arrD).length := by
    refine List.countP_eq_length.mpr fun d hd => ?_
    obtain ⟨k, t, rfl, hk⟩ := jobs_arr ok hd
    rcases hk with rfl | rfl
    · exact decide_eq_true (ats t hd)
    · exact decide_eq_true (afts t.toNat t (Nat.le_refl _) hd)
  rw [all, List.length_map] at h
  omega
/-- the later moments -/
def atMom (u : Int) : PyData → Option Int
  | .tuple [.str k, .int t] => if k = "at" ∧ u ≤ t then some t else none
  | _ => none
theorem mem_moms {js : List PyData} {u t : Int} : t ∈ (js.map arrD).filterMap (atMom u) ↔ .tuple [.str "at", .int t] ∈ js.map arrD ∧ u ≤ t := by
  rw [List.mem_filterMap]
  constructor
  · rintro ⟨d, hd, e⟩
    unfold atMom at e
    split at e
    · rename_i k t'
      split at e
      · rename_i z
        cases e
        rw [z.1] at hd
        exact ⟨hd, z.2⟩
      · cases e
    · cases e
  · rintro ⟨h1, h2⟩
    exact ⟨_, h1, by show (if ("at" : Str) = "at" ∧ u ≤ t then some t else none) = some t; rw [if_pos ⟨rfl, h2⟩]⟩
theorem asc_end : ∀ {lg : List (Int × Int)} {b u f : Int}, Asc b lg → (∀ p ∈ lg, p.1 < u) → b < u → 1 ≤ f → Asc b (lg ++ [(u, f)])
  | [], _, _, _, _, _, h1, h2 => ⟨by omega, h2, trivial⟩
  | p :: r, b, u, f, h, hp, _, h2 => ⟨h.1, h.2.1, asc_end h.2.2 (fun q hq => hp q (by simp [hq])) (hp p (by simp)) h2⟩
end Vk
set_option maxHeartbeats 8000000
namespace Vk
open PySem PySem.Spec PyProof.Rows L2 GxR
def LW (K : PySem.W.Frag) (sc a l : Addr) (v : V) (js : List PyData) (c wd n : Int) (H : Hp) (M : Nat) (σ : L2.St) (G : Hp) : Prop := ∃ (f u : Int) (xs : List V) (lg : List (Int × Int)) (u7 u8 u9 : Option V), (M : Int) + f = js.length ∧ σ = [some (.ref a), some v, some (.int c), some (.int wd), some (.ref l), some (.int f), some (.int u), u7, u8, u9, none, none, none] ∧
  Sto sc a (n + 5 * f) G ∧ Same (Off l (Off a H)) (Off l (Off a G)) ∧ G l = some (.lst xs) ∧ DpAll K (Off l (Off a G)) xs (lg.map pairP) ∧ 0 ≤ f ∧ 1 ≤ u ∧ f ≤ countA js (u - 1) f ∧ (lg.length : Int) ≤ f ∧ Asc 0 lg ∧ ∀ p ∈ lg, p.1 < u
section
variable {P : Program} {w : World} {K : PySem.W.Frag} {mg : Str → Option Value} {base : Heap}
def spLog (K : PySem.W.Frag) : Sp := fun vs H Q _ => ∃ (a sc : Addr) (n : Int) (v : V) (js : List PyData) (c wd : Int), vs = [.ref a, v, .int c, .int wd] ∧ Sto sc a n H ∧ n ≤ 800000 ∧ Dp K (Off a H) v (.tuple js) ∧ js.all jobD = true ∧ js.length ≤ 12 ∧ Fine js ∧ 1 ≤ c ∧ 0 ≤ wd ∧ wd ≤ 100 ∧
  ∀ (t : V) (lg : List (Int × Int)) (H' : Hp), Sto sc a (n + 100) H' → Kept a H H' → Dp K (Off a H') t (.tuple (lg.map pairP)) → Asc 0 lg → lg.length ≤ 12 → Q t H'
theorem scLog : FnScope ["store", "jobs", "cores", "wide", "log", "finished", "unit", "moments", "many", "finishes", "name", "arrival", "door"] ["store", "jobs", "cores", "wide"] (defScope sLog) := ⟨rfl, rfl, rfl, by decide +kernel, rfl, by decide +kernel, by decide +kernel⟩
theorem ok_log (D : Df K mg "_law_log" sLog ["store", "jobs", "cores", "wide"]) (B : Blt mg) (mn : mg "min" = none) (PK : Cl P w K mg base CX0 2 "_law_pick" ["store", "count"] spPick) (PL : Cl P w K mg base CX0 1 "_law_present" ["jobs", "unit", "finished"] (spPresL K)) : Cl P w K mg base CX0 3 "_law_log" ["store", "jobs", "cores", "wide"] (spLog K) := by
  refine cl0 D scLog (fun vs H Q E h => ?_) (fun f cdv A outer s H vs Q E hr h => ?_)
  · obtain ⟨a, sc, n, v, js, c, wd, rfl, _⟩ := h
    rfl
  · obtain ⟨a, sc, n, v, js, c, wd, rfl, S, n1, dJ, okj, l12, fine, c1, w0, w100, k⟩ := h
    refine ⟨_, pss_cons (ps_set (i := 4) scLog.nd rfl (Or.inl rfl) (pe_lst pa_nil))
      (pss_cons (ps_set (i := 5) scLog.nd rfl (Or.inl rfl) pe_int)
      (pss_cons (ps_set (i := 6) scLog.nd rfl (Or.inr rfl) pe_int)
      (pss_cons (ps_while PassesOwn.never (pt_cmpR op_lt (pv 5) (pe_callB call_len_seq (by rfl) B.len PySem.boot_len (pa_cons (pv 1) pa_nil)) (nomark _))
        (pss_cons (ps_setLc (i := 7) (own := [("name", 10), ("arrival", 11), ("door", 12)]) (g := gTup K 3 (gCons (gName 10) (gCons (gName 11) (gCons (gName 12) gNil)))) (tt := tAnd (tTest (tOp rEq (tOp (rIxT K) (tVar 11) (tC (.int 0))) (tC (.str "at")))) (tTest (tOp (rI0 fun i j => .bl (decide (j ≤ i))) (tOp (rIxT K) (tVar 11) (tC (.int 1))) (tVar 6)))) (te := tOp (rIxT K) (tVar 11) (tC (.int 1)))
            rfl scLog.nd rfl rfl (sw_true rfl rfl rfl (by decide +kernel)) (pi_tup (pv 1))
            (blkOk_by (own := [("name", 10), ("arrival", 11), ("door", 12)]) (N := ["store", "jobs", "cores", "wide", "log", "finished", "unit", "moments", "many", "finishes", "name", "arrival", "door"]) (sc := defScope sLog) (by decide +kernel))
            (fun _ _ _ _ _ => pg_tup rfl (pgs_cons (pg_name (i := 10) scLog.nd rfl (Or.inl rfl)) (pgs_cons (pg_name (i := 11) scLog.nd rfl (Or.inl rfl)) (pgs_cons (pg_name (i := 12) scLog.nd rfl (Or.inl rfl)) pgs_nil))))
            (fun _ _ _ _ _ => pts_one (PW.pt (pw_and (pt_cmpR op_eq (pe_ix ix_tup (pv 11) pe_int (fun _ _ => rfl)) pe_str (nomark _)) (pw_and1 (pt_cmpR op_ge (pe_ix ix_tup (pv 11) pe_int (fun _ _ => rfl)) (pv 6) (nomark _))))))
            (fun _ _ _ _ _ => pe_ix ix_tup (pv 11) pe_int (fun _ _ => rfl)))
        (pss_cons (ps_if (pt_cmpR op_eq (pc PL hr (by decide) (pa_cons (pv 1) (pa_cons (pv 6) (pa_cons (pv 5) pa_nil)))) pe_int (nomark _))
          (pss_one (ps_set (i := 6) scLog.nd rfl (Or.inr rfl) (pe_op op_add (pe_callB (cr_min rfl) (by rfl) mn (by decide +kernel) (pa_cons (pv 7) pa_nil)) pe_int))) pss_nil)
        (pss_cons (ps_set (i := 6) scLog.nd rfl (Or.inr rfl) (pe_op op_add (pv 6) (pe_ix ix_list (pe_lst (pa_cons pe_int (pa_cons (pc PK hr (by decide) (pa_cons (pv 0) (pa_cons pe_int pa_nil))) (pa_cons (pc PK hr (by decide) (pa_cons (pv 0) (pa_cons (pe_op op_add (pv 3) pe_int) pa_nil))) pa_nil)))) (pc PK hr (by decide) (pa_cons (pv 0) (pa_cons pe_int pa_nil))) (fun _ _ => rfl))))
        (pss_cons (ps_set (i := 8) scLog.nd rfl (Or.inl rfl) (pe_callB (call_min2 rfl) (by rfl) mn (by decide +kernel) (pa_cons (pv 2) (pa_cons (pc PL hr (by decide) (pa_cons (pv 1) (pa_cons (pv 6) (pa_cons (pv 5) pa_nil)))) pa_nil))))
        (pss_cons (ps_set (i := 9) scLog.nd rfl (Or.inl rfl) (pe_ix ix_list (pe_lst (pa_cons (pv 8) (pa_cons (pe_op op_add pe_int (pc PK hr (by decide) (pa_cons (pv 0) (pa_cons (pv 8) pa_nil)))) pa_nil))) (pc PK hr (by decide) (pa_cons (pv 0) (pa_cons pe_int pa_nil))) (fun _ _ => rfl)))
        (pss_cons (ps_expr (pe_bm PySem.F.plainAttrs_list PySem.F.slot_list_append PySem.F.type_list_append mt_append (pv 4) (pa_cons (pe_tup (pa_cons (pv 6) (pa_cons (pv 9) pa_nil))) pa_nil)))
        (pss_cons (ps_set (i := 5) scLog.nd rfl (Or.inl rfl) (pe_op op_add (pv 5) (pv 9)))
        (pss_one (ps_set (i := 6) scLog.nd rfl (Or.inr rfl) (pe_op op_add (pv 6) pe_int)))))))))))
      (pss_one (ps_ret (pe_callTy call_tuple_of (by rfl) B.tuple (by decide +kernel) (pa_cons (pv 4) pa_nil))))))), ?_⟩
    refine ⟨(by show 0 ≤ sizeLine; decide), fun l nl => ?_⟩
    have la : l ≠ a := S.ne nl
    have lsc : l ≠ sc := S.ne2 nl
    have dL : Dp K (Off l (Off a H)) v (.tuple js) := by
      rw [off_none (off_free nl)]
      exact dJ
    obtain ⟨pj, ys, rfl, qj, rj⟩ := dp_tuple dL
    have yl := dps_len rj
    refine ⟨LW K sc a l (.ref pj) js c wd n H, ⟨js.length, 0, 1, [], [], none, none, none, by omega, rfl, (S.same (same_new nl)).more (by omega), off_mono (off_mono (same_new nl)), upd_same, .nil, by omega, by omega, by omega, by simp, trivial, fun p hp => absurd hp (by simp)⟩, ?_⟩
    rintro M σ G ⟨fi, u, xs, lg, u7, u8, u9, hM, rfl, SG, KG, lG, dG, f0, u1, fc, lgl, asc, lu⟩
    have sub : Same (Off l (Off a H)) G := KG.trans ((off_sub l (Off a G)).trans (off_sub a G))
    have qG := same_seqT sub qj
    have rG := dps_same sub rj
    have xl := dps_len dG
    rw [List.length_map] at xl
    refine ⟨_, rfl, _, rfl, pj, ys, rfl, .inr qG, _, _, rfl, rfl, _, rfl, ?_⟩
    rw [yl]
    refine ite2 (fun hlt => ?_) (fun hlt => ?_)
    case refine_2 =>
      have z : ¬ fi < js.length := fun z => hlt (decide_eq_true z)
      refine ⟨_, rfl, l, xs, rfl, .inl ⟨SqL.of lG, fun tp ntp => ?_⟩⟩
      have stp := same_new (o := .tup xs) ntp
      have tpa := SG.ne ntp
      refine k (.ref tp) lg _ ((SG.same stp).more (by omega)) ((kept_of_off nl KG).trans (kept_same stp)) (.tup (a := tp) (SqT.of ?_) (dps_same ((off_sub l _).trans (kept_same stp)) dG)) asc (by omega)
      rw [off_ne tpa, upd_same]
    have fl : fi < js.length := of_decide_eq_true hlt
    refine ⟨fun σ' G' => ∃ M', M' < M ∧ LW K sc a l (.ref pj) js c wd n H M' σ' G', fun σ' G' ⟨M', h1, h2⟩ => ⟨M', h1, h2⟩, ?_⟩
    -- moments
    refine ⟨_, rfl, pj, rfl, ⟨_, qG⟩, fun D1 nD1 => ?_⟩
    refine lc_it (walk_tup (K := K) (a := pj) (xs := ys)) (fun m Hc => Same G Hc ∧ Hc D1 = some (.lst ((((js.map arrD).take m).filterMap (atMom u)).map V.int)))
      ⟨same_new nD1, upd_same⟩ (fun m Hc _ ⟨s3, _⟩ => same_seqT s3 qG) ?_ ?_
    · rintro m y1 Hc0 Hc hm ⟨s3, hD⟩ ⟨rfl, hy1⟩
      obtain ⟨e1, he1, de1⟩ := dps_getV rG hy1
      obtain ⟨nm, k1, t1, x1, rfl, _, hk1⟩ := job_parts (List.all_eq_true.mp okj e1 (List.mem_of_getElem? he1))
      obtain ⟨p1, v1, v2, v3, rfl, q1, dv1, dv2, dv3⟩ := dp_three (dp_same s3 de1)
      obtain ⟨pa, kv, tv, rfl, qa, dk, dt⟩ := dp_two dv2
      have ek := dp_str dk
      subst ek
      have et := dp_int dt
      subst et
      have e2 : ((js.map arrD).take (m + 1)).filterMap (atMom u) = ((js.map arrD).take m).filterMap (atMom u) ++ (if k1 = "at" ∧ u ≤ t1 then [t1] else []) := by
        rw [List.take_add_one, List.getElem?_map, he1]
        show ((js.map arrD).take m ++ [PyData.tuple [.str k1, .int t1]]).filterMap (atMom u) = _
        rw [List.filterMap_append]
        congr 1
        rw [List.filterMap_cons, List.filterMap_nil, show atMom u (.tuple [.str k1, .int t1]) = (if k1 = "at" ∧ u ≤ t1 then some t1 else none) from rfl]
        by_cases z : k1 = "at" ∧ u ≤ t1
        · rw [if_pos z, if_pos z]
        · rw [if_neg z, if_neg z]
      have small : (((js.map arrD).take m).filterMap (atMom u)).length ≤ 12 := by
        have z := List.length_filterMap_le (atMom u) ((js.map arrD).take m)
        rw [List.length_take, List.length_map] at z
        omega
      refine ⟨p1, _, rfl, q1, rfl, _, _, rfl, _, _, rfl, _, _, rfl, rfl, rfl, ?_⟩
      refine ⟨_, rfl, pa, _, _, _, rfl, rfl, qa, rfl, rfl, _, rfl, ?_⟩
      rw [eq_S (s := ("at" : Str)) dk]
      have skip : ¬ (k1 = "at" ∧ u ≤ t1) → Same G Hc ∧ Hc D1 = some (.lst ((((js.map arrD).take (m + 1)).filterMap (atMom u)).map V.int)) := fun z => by
        rw [e2, if_neg z, List.append_nil]
        exact ⟨s3, hD⟩
      refine ite2 (fun hz => ?_) (fun hz => iteF (skip fun z => hz (by rw [z.1]; rfl)))
      have hk : k1 = "at" := by
        rcases hk1 with e | e
        · exact e
        · rw [e] at hz
          exact absurd hz (by decide +kernel)
      refine ⟨_, rfl, pa, _, _, _, rfl, rfl, qa, rfl, _, rfl, _, _, rfl, rfl, _, rfl, ?_⟩
      refine ite2 (fun ht => ?_) (fun ht => skip fun z => ht (decide_eq_true z.2))
      refine ⟨_, rfl, pa, _, _, _, rfl, rfl, qa, rfl, _, hD, ?_, same_put s3 nD1, ?_⟩
      · rw [List.length_map]
        exact Nat.lt_of_le_of_lt small (by decide)
      · rw [upd_same, e2, if_pos ⟨hk, of_decide_eq_true ht⟩, List.map_append]
        rfl
    rintro Hd ⟨s3, hD⟩
    rw [yl, ← List.length_map (f := arrD), List.take_length] at hD
    have mems := fun t => mem_moms (js := js) (u := u) (t := t)
    generalize (js.map arrD).filterMap (atMom u) = ms at hD mems
    refine ⟨_, rfl, _, rfl, _, rfl, .ref pj, js, u, fi, rfl, dp_same s3 (.tup qG rG), okj, by omega, fun G1 s4 => ?_⟩
    have s34 := s3.trans s4
    refine ⟨rfl, _, rfl, ?_⟩
    apply cutR (α := L2.St → Hp → Prop) (F := fun R => ∀ u' : Int, u ≤ u' → fi + 1 ≤ countA js (u' - 1) fi → R [some (.ref a), some (.ref pj), some (.int c), some (.int wd), some (.ref l), some (.int fi), some (.int u'), some (.ref D1), u8, u9, none, none, none] G1)
    · intro cont
      have pe : presI js u fi = (countA js (u - 1) fi : Int) - fi := rfl
      refine ite2 (fun hz => ?_) (fun hz => ?_)
      · have p0 : presI js u fi = 0 := V.int.inj (of_decide_eq_true hz)
        have mpos : 0 < ms.length := by
          obtain ⟨t, ht, hu⟩ := some_at okj fine (m := u - 1) f0 fl (by omega)
          exact List.length_pos_of_mem ((mems t).mpr ⟨ht, by omega⟩)
        refine ⟨_, rfl, D1, ms, rfl, SqL.of (s4.at hD), mpos, fun m hm _ => ?_⟩
        obtain ⟨h1, h2⟩ := (mems m).mp hm
        have z := count_more (m := u - 1) (m' := m + 1 - 1) (f := fi) h1 (by omega) (by omega)
        exact ⟨_, _, rfl, rfl, cont (m + 1) (by omega) (by omega)⟩
      · have p0 : presI js u fi ≠ 0 := fun e => hz (decide_eq_true (by rw [e]))
        exact cont u (Int.le_refl _) (by omega)
    intro u' uu fc'
    have SG1 := SG.same s34
    refine ⟨_, rfl, _, rfl, a, sc, 3, _, rfl, by decide, by decide, SG1, by omega, fun r1 G2 r10 r13 S2 K2 => ?_⟩
    refine ⟨_, rfl, _, rfl, _, _, rfl, rfl, a, sc, wd + 1, _, rfl, by omega, by omega, S2, by omega, fun r2 G3 r20 r23 S3 K3 => ?_⟩
    refine ⟨(by show 3 ≤ sizeLine; decide), fun q nq => ?_⟩
    have sq := same_new (o := .lst [.int 0, .int r1, .int r2]) nq
    have qa := S3.ne nq
    refine ⟨_, rfl, a, sc, 3, _, rfl, by decide, by decide, S3.same sq, by omega, fun z G4 z0 z3 S4 K4 => ?_⟩
    obtain ⟨av, hav, vav⟩ := atI_three (x0 := .int 0) (x1 := .int r1) (x2 := .int r2) z0 z3
    refine ⟨q, _, _, av, rfl, rfl, SqL.of (K4.at upd_same qa), hav, ?_⟩
    obtain ⟨ai, ai0, rfl⟩ : ∃ ai : Int, 0 ≤ ai ∧ av = .int ai := by
      rcases vav with rfl | rfl | rfl
      · exact ⟨_, by decide, rfl⟩
      · exact ⟨_, r10, rfl⟩
      · exact ⟨_, r20, rfl⟩
    refine ⟨_, _, rfl, rfl, ?_⟩
    have KA : Kept a G G4 := (((kept_same s34).trans K2).trans (K3.trans (kept_same sq))).trans K4
    have subA : Same (Off l (Off a H)) G4 := KG.trans ((off_sub l (Off a G)).trans (Same.trans KA (off_sub a G4)))
    refine ⟨_, rfl, _, rfl, _, rfl, _, rfl, .ref pj, js, u' + ai, fi, rfl, dp_same subA (.tup qj rj), okj, by omega, fun G5 s5 => ?_⟩
    have pe : presI js (u' + ai) fi = (countA js (u' + ai - 1) fi : Int) - fi := rfl
    have cm := count_mono (js := js) (m := u' - 1) (m' := u' + ai - 1) (f := fi) (f' := fi) (by omega) (Int.le_refl _)
    refine ⟨_, _, rfl, ?_⟩
    rw [run_min]
    have hrun : 1 ≤ runI js (u' + ai) fi c ∧ runI js (u' + ai) fi c ≤ presI js (u' + ai) fi := ⟨by unfold runI; split <;> omega, run_le⟩
    generalize runI js (u' + ai) fi c = many at hrun
    have S5 := S4.same s5
    have cl := count_le js (u' + ai - 1) fi
    have K5 : Kept a G G5 := KA.trans (kept_same s5)
    -- finishes
    refine ⟨_, rfl, _, rfl, _, rfl, a, sc, many, _, rfl, by omega, by omega, S5, by omega, fun r3 G6 r30 r33 S6 K6 => ?_⟩
    refine ⟨_, _, rfl, rfl, (by show 2 ≤ sizeLine; decide), fun q2 nq2 => ?_⟩
    have sq2 := same_new (o := .lst [.int many, .int (1 + r3)]) nq2
    have q2a := S6.ne nq2
    refine ⟨_, rfl, a, sc, 2, _, rfl, by decide, by decide, S6.same sq2, by omega, fun z2 G7 z20 z22 S7 K7 => ?_⟩
    obtain ⟨fv, hfv, mfv⟩ := atI_mem (xs := [V.int many, .int (1 + r3)]) z20 (by simpa using z22)
    refine ⟨q2, _, _, fv, rfl, rfl, SqL.of (K7.at upd_same q2a), hfv, ?_⟩
    obtain ⟨fs, fs1, fsm, rfl⟩ : ∃ fs : Int, 1 ≤ fs ∧ fs ≤ many ∧ fv = .int fs := by
      simp only [List.mem_cons, List.not_mem_nil, or_false] at mfv
      rcases mfv with rfl | rfl
      · exact ⟨_, by omega, by omega, rfl⟩
      · exact ⟨_, by omega, by omega, rfl⟩
    have K57 : Kept a G G7 := (K5.trans (K6.trans (kept_same sq2))).trans K7
    have lG7 := K57.at lG la
    -- log.append((unit, finishes))
    refine ⟨_, rfl, .inl ⟨rfl, _, SqL.of lG7⟩, ?_⟩
    refine ⟨_, rfl, _, rfl, (by show 2 ≤ sizeLine; decide), fun t nt => ?_⟩
    have st := same_new (o := .tup [.int (u' + ai), .int fs]) nt
    have ta := S7.ne nt
    have tl : t ≠ l := fun e => by rw [e, lG7] at nt; cases nt
    have KB : Kept a G (upd G7 t (.tup [.int (u' + ai), .int fs])) := K57.trans (kept_same st)
    have offs : Off l (Off a (upd (upd G7 t (.tup [.int (u' + ai), .int fs])) l (.lst (xs ++ [.ref t])))) = Off l (Off a (upd G7 t (.tup [.int (u' + ai), .int fs]))) := by rw [off_other la, off_upd]
    refine ⟨l, _, _, rfl, rfl, st.at lG7, ?_, ?_⟩
    · rw [xl]
      exact Nat.lt_of_le_of_lt (show lg.length ≤ 12 by omega) (by decide)
    refine ⟨_, rfl, _, rfl, _, _, rfl, rfl, _, rfl, _, _, rfl, rfl, ?_⟩
    refine ⟨(M : Int).toNat - fs.toNat, by omega, fi + fs, u' + ai + 1, xs ++ [.ref t], lg ++ [(u' + ai, fs)], _, _, _, by omega, rfl, ((S7.same st).other la lsc).more (by omega), ?_, upd_same, ?_, by omega, by omega, ?_, ?_, asc_end asc (fun p hp => by have z := lu p hp; omega) (by omega) fs1, ?_⟩
    · rw [offs]
      exact KG.trans (off_mono KB)
    · rw [offs, List.map_append]
      refine dps_app (dps_same (off_mono KB) dG) (.cons (.tup (a := t) (SqT.of ?_) (.cons (.int _) (.cons (.int _) .nil))) .nil)
      rw [off_ne tl, off_ne ta, upd_same]
    · have z := count_mono (js := js) (m := u' + ai - 1) (m' := u' + ai + 1 - 1) (f := fi) (f' := fi + fs) (by omega) (by omega)
      omega
    · rw [List.length_append, List.length_singleton]
      omega
    · intro p hp
      rcases List.mem_append.mp hp with hp | hp
      · have z := lu p hp
        omega
      · rw [List.mem_singleton.mp hp]
        show u' + ai < u' + ai + 1
        omega
end
end Vk
set_option maxHeartbeats 4000000
/-! t[::-1] of a tuple: a new tuple -/
namespace Vk
open PySem PySem.Spec PyProof.Rows L2 HT PySem.Calls PyProof
section
variable {q : Program} {w : World} {B : Around} {XE : Value → Shared → Prop} {z : Shared}
/-- a slice with a step that is not 1 makes a new tuple of what it picks -/
theorem tup_stepped {t sl : Addr} {xs : Array Value} {lo st : Int} {n : Nat} {R : Value → Shared → Prop} (tt : IsTup z.heap t xs) (ts : z.TypeIs (.ref sl) "slice") (st1 : (st == 1) = false) (small : xs.size ≤ sizeLine)
    (ap : ∀ (A2 : Around) (R2 : Int × Int × Nat → Shared → Prop), R2 (lo, st, n) z → wpAny (model q w) A2 (Builtin.Slice.sliceApplied (.ref sl) (pure (xs.size : Int))) R2 XE z) {ys : Array Value} (pick : ((List.range n).filterMap fun (m : Nat) => xs[(lo + (m : Int) * st).toNat]?).toArray = ys) (le : ys.size ≤ xs.size)
    (k : R (.ref z.heap.objs.size) { z with heap := z.heap.push { cls := .type "tuple", data := .seq ys } }) : wpAny (model q w) B (getItem (.ref t) (.ref sl)) R XE z := by
  have fits : sizeOk (.seq ys) := Nat.le_trans le small
  unfold getItem
  refine wpAny_holding (wpAny_bind (wpAny_sequenceKey tt.typeIs (by decide) (wpAny_bind (wpAny_callSpecial?_slot (name := Str.ofString "__getitem__") tt.typeIs PyProof.Rows.slot_tuple_getitem (wpAny_call_entry PyProof.Rows.slot_tuple_getitem tt.typeIs entry_tuple_getitem ?_ (args_tuple_getitem _ _))))))
  refine wpAny_bind (m := Builtin.Tuple.tupleItemsOf (.ref t)) (tupleItemsOf_ tt (wpAny_bind (wpAny_typeOf ts ?_)))
  rw [if_pos (by decide)]
  refine wpAny_bind (ap _ _ ?_)
  have not1 : ¬ ((lo == 0 && st == 1 && n == xs.size) = true) := by rw [st1, Bool.and_false, Bool.false_and]; exact Bool.false_ne_true
  show wpAny _ _ (if (lo == 0 && st == 1 && n == xs.size) = true then _ else _) _ _ z
  rw [if_neg not1, pick]
  first
    | exact wpAny_bind (wpAny_newObj_type (wpAny_pure ⟨_, rfl, wpAny_pure k⟩) fits)
    | exact wpAny_bind (wpAny_newObj_type (wpAny_bind (wpAny_pure (wpAny_pure ⟨_, rfl, wpAny_pure k⟩))) fits)
    | exact wpAny_bind (wpAny_bind (wpAny_newObj_type (wpAny_pure (wpAny_pure ⟨_, rfl, wpAny_pure k⟩)) fits))
    | exact wpAny_bind (wpAny_bind (wpAny_newObj_type (wpAny_pure ⟨_, rfl, wpAny_pure k⟩) fits))
theorem rev_count (n : Nat) : Builtin.Slice.slicePlaces ((n : Int) - 1) (-1) (-1) = n := by
  show (if (-1 : Int) > 0 then _ else (if (n : Int) - 1 > -1 then ((n : Int) - 1 - -1 - 1) / (- -1) + 1 else 0) : Int).toNat = n
  rw [if_neg (show ¬ ((-1 : Int) > 0) from by omega)]
  by_cases pos : 0 < n
  · rw [if_pos (by omega), show (- -1 : Int) = 1 from by omega, Int.ediv_one]
    omega
  · rw [if_neg (by omega)]
    omega
theorem rev_ap {sl : Addr} {v : Value} {n : Nat} {R : Int × Int × Nat → Shared → Prop} (is : z.heap.IsSliceOf sl .none .none v) (pv : IsPart v (some (-1))) (k : R ((n : Int) - 1, -1, n) z) : wpAny (model q w) B (Builtin.Slice.sliceApplied (.ref sl) (pure (n : Int))) R XE z := by
  obtain ⟨o, o1, o2, o3⟩ := is
  refine wpAny_bind (m := Builtin.Slice.sliceFields (.ref sl)) (wpAny_bind (wpAny_field o1 o3 (x := .none) rfl (wpAny_bind (wpAny_field o1 o3 (x := .none) rfl (wpAny_bind (wpAny_field o1 o3 (x := v) rfl (wpAny_pure (wpAny_bind (slicePart_ pv ?_)))))))))
  show wpAny _ _ (if ((-1 : Int) == 0) = true then _ else _) _ _ z
  rw [if_neg (show ¬ ((-1 : Int) == 0) = true by decide)]
  refine wpAny_bind (slicePart_none (wpAny_bind (slicePart_none (wpAny_bind (wpAny_pure (wpAny_pure ?_))))))
  show R ((n : Int) - 1, -1, Builtin.Slice.slicePlaces ((n : Int) - 1) (-1) (-1)) z
  rw [rev_count]
  exact k
theorem rev_pick (xs : Array Value) : ((List.range xs.size).filterMap fun (m : Nat) => xs[(((xs.size : Nat) : Int) - 1 + (m : Int) * (-1)).toNat]?).toArray = xs.toList.reverse.toArray := by
  have e : (fun (m : Nat) => xs[(((xs.size : Nat) : Int) - 1 + (m : Int) * (-1)).toNat]?) = fun m => xs[xs.size - 1 - m]? := funext fun m => by rw [show (((xs.size : Nat) : Int) - 1 + (m : Int) * (-1)).toNat = xs.size - 1 - m from by omega]
  have e2 : (List.range xs.size).filterMap (fun m => xs[xs.size - 1 - m]?) = ((List.range xs.size).map fun m => xs.size - 1 - m).filterMap (xs[·]?) := (List.filterMap_map ..).symm
  rw [e, e2, PySem.W.krv_range, List.filterMap_reverse, PySem.W.krv_all]
end
def tRevT (K : PySem.W.Frag) (te : TE) : TE := fun σ H Q => te σ H fun x H1 => ∃ p vs, x = .ref p ∧ SqT K H1 p vs ∧ ∀ r, H1 r = none → Q (.ref r) (upd H1 r (.tup vs.reverse))
theorem pe_revT {X : Cx} {te : TE} {e : Expr} {n : Nat} {a1 a2 a3 a4 : Pos} (he : PE X e te) : PE X (.Subscript e (.Slice none none (some (.UnaryOp .USub (.Constant (.int 1) n a1) a2)) a3) a4) (tRevT X.K te) := by
  refine ⟨fun pins s σ H Q I h => Subscript_ (thn (he.run pins s σ H _ I h) fun v s1 ⟨x, H1, I1, rx, p, vs, ex, seq, go⟩ => ?_)⟩
  subst ex
  cases rx
  have step : PO X (some (.UnaryOp .USub (.Constant (.int 1) n a1) a2)) (tPart (tUn (rU fun i => .int (-i)) (tC (.int 1)))) := po_some (pe_un un_neg pe_int)
  refine wpAny_Slice (thn (po_none.run pins s1 σ H1 (fun o G => o = none ∧ G = H1) I1 ⟨rfl, rfl⟩) fun u1 s2 ⟨l1, G2, I2, q1, f1, g1⟩ => thn (po_none.run pins s2 σ G2 (fun o G => o = none ∧ G = G2) I2 ⟨rfl, rfl⟩) fun u2 s3 ⟨l2, G3, I3, q2, f2, g2⟩ => thn (step.run pins s3 σ G3 (fun o G => o = some (-1) ∧ G = G3) I3 ⟨1, rfl, -1, rfl, rfl, rfl⟩) fun u3 s4 ⟨l3, G4, I4, q3, f3, g3⟩ => ?_)
  subst f1 g1 f2 g2 f3 g3
  cases q1
  cases q2
  have J : Inv X pins σ G4 { s4 with heap := s4.heap.push { cls := .type "slice", data := .fields #[.none, .none, u3] } } := I4.kept (t' := s4.toks) fun _ _ y => Heap.get?_push_of_some _ y
  obtain ⟨its, rr, tt, sz⟩ := J.tuple seq
  show wpAny (model X.prog X.w) X.A (subscriptTail e (.Slice none none (some (.UnaryOp .USub (.Constant (.int 1) n a1) a2)) a3) (.ref p) (.ref s4.heap.objs.size)) (EP X pins σ Q) X.xe { s4 with heap := s4.heap.push { cls := .type "slice", data := .fields #[.none, .none, u3] } }
  have sl := Heap.IsSliceOf.new s4.heap .none .none u3
  refine tail_any (ops := [.ref p, .ref s4.heap.objs.size]) tt.typeIs PyProof.Rows.slot_tuple_getitem.lookup (tup_stepped tt ?_ rfl (by rw [List.size_toArray, ← rr.length]; exact sz) (fun _ R2 y => rev_ap sl q3 y) (rev_pick _) (by rw [List.size_toArray, List.length_reverse, Array.length_toList]; exact Nat.le_refl _) ?_) (by with_unfolding_all rfl)
  · obtain ⟨o, o1, o2, _⟩ := sl
    exact ⟨o, o1, o2⟩
  · exact ⟨.ref _, _, J.laid (t' := s4.toks) (o := .tup vs.reverse) (fun _ _ y => Heap.get?_push_of_some _ y) (Nat.le_refl _) ⟨by rw [List.length_reverse]; exact sz, _, rr.reverse, IsTup.new _ _⟩, rfl, go _ (J.hok.fresh (Nat.le_refl _))⟩
end Vk
set_option maxHeartbeats 8000000
namespace Vk
open PySem PySem.Spec PyProof.Rows L2 GxR
/-- an item of a list of data, by its first place or its last -/
theorem atI_last {α : Type} {xs : List α} (h : 0 < xs.length) : atI xs (-1) = xs[xs.length - 1]? := by
  unfold atI ixN
  rw [if_neg (by decide), if_pos (by omega)]
  show xs[((xs.length : Int) + -1).toNat]? = _
  congr 1
  omega
theorem dps_rev {K : PySem.W.Frag} {H : Hp} : ∀ {vs : List V} {ds : List PyData}, DpAll K H vs ds → DpAll K H vs.reverse ds.reverse
  | _, _, .nil => .nil
  | _, _, .cons h r => by
    rw [List.reverse_cons, List.reverse_cons]
    exact dps_app (dps_rev r) (.cons h .nil)
section
variable {P : Program} {w : World} {K : PySem.W.Frag} {mg : Str → Option Value} {base : Heap}
def spBadLog (K : PySem.W.Frag) : Sp := fun vs H Q _ => ∃ (a sc l : Addr) (n : Int) (v : V) (lg : List (Int × Int)), vs = [.ref a, v] ∧ Sto sc a n H ∧ H l ≠ none ∧ n ≤ 900000 ∧ Dp K (Of2 l a H) v (.tuple (lg.map pairP)) ∧ lg.length ≤ 100 ∧
  ∀ (v' : V) (d' : PyData) (H' : Hp), Sto sc a (n + 10) H' → Kept a H H' → Dp K (Of2 l a H') v' d' → lenLog d' ≤ lg.length + 1 → Q v' H'
theorem scBadLog : FnScope ["store", "log", "at", "unit", "finishes", "pairs", "way"] ["store", "log"] (defScope sBadLog) := ⟨rfl, rfl, rfl, by decide +kernel, rfl, by decide +kernel, by decide +kernel⟩
theorem ok_badLog (D : Df K mg "_law_bad_log" sBadLog ["store", "log"]) (B : Blt mg) (PK : Cl P w K mg base CX0 2 "_law_pick" ["store", "count"] spPick) : Cl P w K mg base CX0 3 "_law_bad_log" ["store", "log"] (spBadLog K) := by
  refine cl0 D scBadLog (fun vs H Q E h => ?_) (fun f cdv A outer s H vs Q E hr h => ?_)
  · obtain ⟨a, sc, l, n, v, lg, rfl, _⟩ := h
    rfl
  · obtain ⟨a, sc, l, n, v, lg, rfl, S, hl, n1, hd, l100, k⟩ := h
    refine ⟨_, (pss_cons (ps_if (pt_cmpR (op_eqNilT (Nat.lt_of_succ_lt (hu_of hr))) (pv 1) (pe_tup pa_nil) (nomark _)) (pss_one (ps_ret (pe_ix ix_list (pe_lst (pa_cons (pe_lst pa_nil) (pa_cons pe_non (pa_cons (pe_tup (pa_cons (pe_tup (pa_cons pe_int (pa_cons pe_int pa_nil))) pa_nil)) (pa_cons (pe_tup (pa_cons (pe_tup (pa_cons pe_int (pa_cons pe_int pa_nil))) pa_nil)) (pa_cons (pe_tup (pa_cons (pe_tup (pa_cons pe_int (pa_cons pe_int pa_nil))) pa_nil)) pa_nil)))))) (pc PK hr (by decide) (pa_cons (pv 0) (pa_cons pe_int pa_nil))) (fun _ _ => rfl)))) pss_nil)
      (pss_cons (ps_set (i := 2) scBadLog.nd rfl (Or.inl rfl) (pc PK hr (by decide) (pa_cons (pv 0) (pa_cons (pe_callB call_len_seq (by rfl) B.len PySem.boot_len (pa_cons (pv 1) pa_nil)) pa_nil))))
      (pss_cons (ps_asg (pe_ix ix_tup (pv 1) (pv 2) (fun _ _ => rfl)) (pg_tup rfl (pgs_cons (pg_name (i := 3) scBadLog.nd rfl (.inl rfl)) (pgs_cons (pg_name (i := 4) scBadLog.nd rfl (.inl rfl)) pgs_nil))))
      (pss_cons (ps_set (i := 5) scBadLog.nd rfl (Or.inl rfl) (pe_lst (pa_cons (pe_tup (pa_cons (pv 3) (pa_cons pe_int pa_nil))) (pa_cons (pe_tup (pa_cons (pv 3) (pa_cons (pe_un un_neg pe_int) pa_nil))) (pa_cons (pe_tup (pa_cons (pv 3) (pa_cons pe_bl pa_nil))) (pa_cons (pe_tup (pa_cons pe_int (pa_cons (pv 4) pa_nil))) (pa_cons (pe_tup (pa_cons pe_bl (pa_cons (pv 4) pa_nil))) (pa_cons (pe_tup (pa_cons (pe_un un_neg pe_int) (pa_cons (pv 4) pa_nil))) (pa_cons (pe_tup (pa_cons (pv 3) pa_nil)) pa_nil)))))))))
      (pss_cons (ps_set (i := 5) scBadLog.nd rfl (Or.inl rfl) (pe_op op_cat (pv 5) (pe_lst (pa_cons (pe_lst (pa_cons (pv 3) (pa_cons (pv 4) pa_nil))) (pa_cons (pe_tup (pa_cons (pv 3) (pa_cons (pv 4) (pa_cons pe_int pa_nil)))) (pa_cons pe_non (pa_cons (pe_tup (pa_cons (pv 3) (pa_cons pe_non pa_nil))) (pa_cons (pe_tup (pa_cons pe_str (pa_cons (pv 4) pa_nil))) pa_nil))))))))
      (pss_cons (ps_set (i := 5) scBadLog.nd rfl (Or.inl rfl) (pe_op op_cat (pv 5) (pe_lst (pa_cons (pe_tup (pa_cons (pv 3) (pa_cons (pe_op op_add (pv 4) pe_int) pa_nil))) (pa_cons (pe_tup (pa_cons (pe_op op_add (pv 3) pe_int) (pa_cons (pv 4) pa_nil))) pa_nil)))))
      (pss_cons (ps_set (i := 6) scBadLog.nd rfl (Or.inl rfl) (pc PK hr (by decide) (pa_cons (pv 0) (pa_cons pe_int pa_nil))))
      (pss_cons (ps_if (pt_cmpR op_eq (pv 6) pe_int (nomark _)) (pss_one (ps_ret (pe_op op_catA (pe_slice sl_tupA (pv 1) po_none (po_some (pv 2))) (pe_slice sl_tupA (pv 1) (po_some (pe_op op_add (pv 2) pe_int)) po_none)))) pss_nil)
      (pss_cons (ps_if (pt_cmpR op_eq (pv 6) pe_int (nomark _)) (pss_one (ps_ret (pe_op op_catA (pe_op op_catA (pe_slice sl_tupA (pv 1) po_none (po_some (pv 2))) (pe_tup (pa_cons (pe_ix ix_tup (pv 1) (pv 2) (fun _ _ => rfl)) pa_nil))) (pe_slice sl_tupA (pv 1) (po_some (pv 2)) po_none)))) pss_nil)
      (pss_cons (ps_if (pt_cmpR op_eq (pv 6) pe_int (nomark _)) (pss_one (ps_ret (pe_ix ix_list (pe_lst (pa_cons (pe_callTy call_list_of (by rfl) B.list (by decide +kernel) (pa_cons (pv 1) pa_nil)) (pa_cons (pe_revT (pv 1)) (pa_cons (pe_op op_catA (pv 1) (pe_tup (pa_cons (pe_tup (pa_cons (pe_op op_add (pe_ix ix_tup (pe_ix ix_tup (pv 1) (pe_un un_neg pe_int) (fun _ _ => rfl)) pe_int (fun _ _ => rfl)) pe_int) (pa_cons pe_int pa_nil))) pa_nil))) (pa_cons (pe_op op_catA (pe_slice sl_tupA (pv 1) (po_some pe_int) po_none) (pe_slice sl_tupA (pv 1) po_none (po_some pe_int))) pa_nil))))) (pc PK hr (by decide) (pa_cons (pv 0) (pa_cons pe_int pa_nil))) (fun _ _ => rfl)))) pss_nil)
      (pss_one (ps_ret (pe_op op_catA (pe_op op_catA (pe_slice sl_tupA (pv 1) po_none (po_some (pv 2))) (pe_tup (pa_cons (pe_ix ix_list (pv 5) (pc PK hr (by decide) (pa_cons (pv 0) (pa_cons pe_int pa_nil))) (fun _ _ => rfl)) pa_nil))) (pe_slice sl_tupA (pv 1) (po_some (pe_op op_add (pv 2) pe_int)) po_none)))))))))))))), ?_⟩
    obtain ⟨pj, xs, rfl, qj, rj⟩ := dp_tuple hd
    have xl := dps_len rj
    rw [List.length_map] at xl
    refine ⟨_, rfl, (by show 0 ≤ sizeLine; decide), fun e0 ne0 => ?_⟩
    have se := same_new (o := .tup []) ne0
    have S0 := S.same se
    have hd0 := dp_up2 (K := K) se hd
    have qj0 : SqT K (Of2 l a (upd H e0 (.tup []))) pj xs := same_seqT (of2_mono se) qj
    have rj0 := dps_same (of2_mono se) rj
    refine ⟨pj, e0, xs, rfl, rfl, same_seqT (of2_sub l a _) qj0, SqT.of upd_same, _, rfl, ?_⟩
    cases he : xs.isEmpty with
    | true =>
      refine iteT ?_
      have hA := has2 (l := l) S0 (kept_same se) hl
      generalize upd H e0 (.tup []) = H0 at S0 se hA qj0 rj0 hd0 ⊢
      have fg0 : Same H0 H0 := Same.refl H0
      refine ⟨(by show 0 ≤ sizeLine; decide), fun ft1 fm1 => ?_⟩
      have fd1 := new_lst2 (K := K) (vs := []) (fg0.has2 hA) fm1 .nil
      have fs1 := same_new (o := .lst []) fm1
      have fg1 := fg0.trans fs1
      refine ⟨(by show 2 ≤ sizeLine; decide), fun ft2 fm2 => ?_⟩
      have fd2 := new_tup2 (K := K) (vs := [.int 1, .int 1]) (fg1.has2 hA) fm2 (.cons (.int _) (.cons (.int _) .nil))
      have fs2 := same_new (o := .tup [.int 1, .int 1]) fm2
      have fg2 := fg1.trans fs2
      have fd1 := dp_up2 (K := K) fs2 fd1
      refine ⟨(by show 1 ≤ sizeLine; decide), fun ft3 fm3 => ?_⟩
      have fd3 := new_tup2 (K := K) (vs := [.ref ft2]) (fg2.has2 hA) fm3 (.cons fd2 .nil)
      have fs3 := same_new (o := .tup [.ref ft2]) fm3
      have fg3 := fg2.trans fs3
      have fd1 := dp_up2 (K := K) fs3 fd1
      have fd2 := dp_up2 (K := K) fs3 fd2
      refine ⟨(by show 2 ≤ sizeLine; decide), fun ft4 fm4 => ?_⟩
      have fd4 := new_tup2 (K := K) (vs := [.int 0, .int 1]) (fg3.has2 hA) fm4 (.cons (.int _) (.cons (.int _) .nil))
      have fs4 := same_new (o := .tup [.int 0, .int 1]) fm4
      have fg4 := fg3.trans fs4
      have fd1 := dp_up2 (K := K) fs4 fd1
      have fd2 := dp_up2 (K := K) fs4 fd2
      have fd3 := dp_up2 (K := K) fs4 fd3
      refine ⟨(by show 1 ≤ sizeLine; decide), fun ft5 fm5 => ?_⟩
      have fd5 := new_tup2 (K := K) (vs := [.ref ft4]) (fg4.has2 hA) fm5 (.cons fd4 .nil)
      have fs5 := same_new (o := .tup [.ref ft4]) fm5
      have fg5 := fg4.trans fs5
      have fd1 := dp_up2 (K := K) fs5 fd1
      have fd2 := dp_up2 (K := K) fs5 fd2
      have fd3 := dp_up2 (K := K) fs5 fd3
      have fd4 := dp_up2 (K := K) fs5 fd4
      refine ⟨(by show 2 ≤ sizeLine; decide), fun ft6 fm6 => ?_⟩
      have fd6 := new_tup2 (K := K) (vs := [.int 1, .int 0]) (fg5.has2 hA) fm6 (.cons (.int _) (.cons (.int _) .nil))
      have fs6 := same_new (o := .tup [.int 1, .int 0]) fm6
      have fg6 := fg5.trans fs6
      have fd1 := dp_up2 (K := K) fs6 fd1
      have fd2 := dp_up2 (K := K) fs6 fd2
      have fd3 := dp_up2 (K := K) fs6 fd3
      have fd4 := dp_up2 (K := K) fs6 fd4
      have fd5 := dp_up2 (K := K) fs6 fd5
      refine ⟨(by show 1 ≤ sizeLine; decide), fun ft7 fm7 => ?_⟩
      have fd7 := new_tup2 (K := K) (vs := [.ref ft6]) (fg6.has2 hA) fm7 (.cons fd6 .nil)
      have fs7 := same_new (o := .tup [.ref ft6]) fm7
      have fg7 := fg6.trans fs7
      have fd1 := dp_up2 (K := K) fs7 fd1
      have fd2 := dp_up2 (K := K) fs7 fd2
      have fd3 := dp_up2 (K := K) fs7 fd3
      have fd4 := dp_up2 (K := K) fs7 fd4
      have fd5 := dp_up2 (K := K) fs7 fd5
      have fd6 := dp_up2 (K := K) fs7 fd6
      refine ⟨(by show 5 ≤ sizeLine; decide), fun ft8 fm8 => ?_⟩
      have fd8 := new_lst2 (K := K) (vs := [.ref ft1, .non, .ref ft3, .ref ft5, .ref ft7]) (fg7.has2 hA) fm8 (.cons fd1 (.cons .non (.cons fd3 (.cons fd5 (.cons fd7 .nil)))))
      have fs8 := same_new (o := .lst [.ref ft1, .non, .ref ft3, .ref ft5, .ref ft7]) fm8
      have fg8 := fg7.trans fs8
      have fd1 := dp_up2 (K := K) fs8 fd1
      have fd2 := dp_up2 (K := K) fs8 fd2
      have fd3 := dp_up2 (K := K) fs8 fd3
      have fd4 := dp_up2 (K := K) fs8 fd4
      have fd5 := dp_up2 (K := K) fs8 fd5
      have fd6 := dp_up2 (K := K) fs8 fd6
      have fd7 := dp_up2 (K := K) fs8 fd7
      refine ⟨_, rfl, a, sc, 5, _, rfl, by decide, by decide, S0.same fg8, by omega, fun r H1 r0 r4 S1 K1 => ?_⟩
      obtain ⟨p, ys, x, xd, e, qp, hx, mx, dx⟩ := pick_dp (dp_same (of2_kept K1) fd8) r0 r4
      cases e
      refine ⟨_, _, _, _, rfl, rfl, qp, hx, k x xd H1 (S1.more (by omega)) ((kept_same (se.trans fg8)).trans K1) dx ?_⟩
      simp only [List.mem_cons, List.not_mem_nil, or_false] at mx
      rcases mx with rfl | rfl | rfl | rfl | rfl <;> (show _ ≤ _; exact Nat.le_trans (by decide) (Nat.le_add_left 1 _))
    | false =>
      refine iteF ?_
      have jpos : 1 ≤ lg.length := by
        cases xs with
        | nil => cases he
        | cons x r =>
          rw [← xl, List.length_cons]
          omega
      have K0 : Kept a H (upd H e0 (.tup [])) := kept_same se
      generalize upd H e0 (.tup []) = H0 at S0 K0 se qj0 rj0 hd0 ⊢
      -- at
      refine ⟨_, rfl, _, rfl, pj, xs, rfl, .inr (same_seqT (of2_sub l a H0) qj0), a, sc, _, n, rfl, by omega, by omega, S0, by omega, fun at_ H1 at0 at1 S1 K1 => ?_⟩
      obtain ⟨ix, rfl⟩ := Int.eq_ofNat_of_zero_le at0
      have rj1 := dps_same (of2_kept K1) rj0
      have qj1 : SqT K (Of2 l a H1) pj xs := same_seqT (of2_kept K1) qj0
      have hd1 := dp_same (of2_kept K1) hd0
      obtain ⟨lv, ld, hat, hld, dld⟩ := atI_dp (r := (ix : Int)) rj1 at0 (by rw [List.length_map]; omega)
      rw [List.getElem?_map] at hld
      obtain ⟨⟨un, fi⟩, _, rfl⟩ := Option.map_eq_some_iff.mp hld
      have dpr := dld
      obtain ⟨lp, uv, fv, rfl, qlp, du, df⟩ := dp_two dld
      have eu := dp_int du
      subst eu
      have ef := dp_int df
      subst ef
      refine ⟨_, rfl, _, rfl, pj, xs, _, _, rfl, rfl, same_seqT (of2_sub l a H1) qj1, hat, lp, _, rfl, same_seqT (of2_sub l a H1) qlp, rfl, _, _, rfl, _, _, rfl, rfl, ?_⟩
      have hA := has2 (l := l) S1 (K0.trans K1) hl
      -- pairs
      have cg0 : Same H1 H1 := Same.refl H1
      refine ⟨_, rfl, (by show 2 ≤ sizeLine; decide), fun ct1 cm1 => ?_⟩
      have cd1 := new_tup2 (K := K) (vs := [.int un, .int 0]) (cg0.has2 hA) cm1 (.cons (.int _) (.cons (.int _) .nil))
      have cs1 := same_new (o := .tup [.int un, .int 0]) cm1
      have cg1 := cg0.trans cs1
      refine ⟨_, rfl, _, rfl, (by show 2 ≤ sizeLine; decide), fun ct2 cm2 => ?_⟩
      have cd2 := new_tup2 (K := K) (vs := [.int un, .int (-1)]) (cg1.has2 hA) cm2 (.cons (.int _) (.cons (.int _) .nil))
      have cs2 := same_new (o := .tup [.int un, .int (-1)]) cm2
      have cg2 := cg1.trans cs2
      have cd1 := dp_up2 (K := K) cs2 cd1
      refine ⟨_, rfl, (by show 2 ≤ sizeLine; decide), fun ct3 cm3 => ?_⟩
      have cd3 := new_tup2 (K := K) (vs := [.int un, .bl true]) (cg2.has2 hA) cm3 (.cons (.int _) (.cons (.bl _) .nil))
      have cs3 := same_new (o := .tup [.int un, .bl true]) cm3
      have cg3 := cg2.trans cs3
      have cd1 := dp_up2 (K := K) cs3 cd1
      have cd2 := dp_up2 (K := K) cs3 cd2
      refine ⟨_, rfl, (by show 2 ≤ sizeLine; decide), fun ct4 cm4 => ?_⟩
      have cd4 := new_tup2 (K := K) (vs := [.int 0, .int fi]) (cg3.has2 hA) cm4 (.cons (.int _) (.cons (.int _) .nil))
      have cs4 := same_new (o := .tup [.int 0, .int fi]) cm4
      have cg4 := cg3.trans cs4
      have cd1 := dp_up2 (K := K) cs4 cd1
      have cd2 := dp_up2 (K := K) cs4 cd2
      have cd3 := dp_up2 (K := K) cs4 cd3
      refine ⟨_, rfl, (by show 2 ≤ sizeLine; decide), fun ct5 cm5 => ?_⟩
      have cd5 := new_tup2 (K := K) (vs := [.bl true, .int fi]) (cg4.has2 hA) cm5 (.cons (.bl _) (.cons (.int _) .nil))
      have cs5 := same_new (o := .tup [.bl true, .int fi]) cm5
      have cg5 := cg4.trans cs5
      have cd1 := dp_up2 (K := K) cs5 cd1
      have cd2 := dp_up2 (K := K) cs5 cd2
      have cd3 := dp_up2 (K := K) cs5 cd3
      have cd4 := dp_up2 (K := K) cs5 cd4
      refine ⟨_, rfl, _, rfl, (by show 2 ≤ sizeLine; decide), fun ct6 cm6 => ?_⟩
      have cd6 := new_tup2 (K := K) (vs := [.int (-1), .int fi]) (cg5.has2 hA) cm6 (.cons (.int _) (.cons (.int _) .nil))
      have cs6 := same_new (o := .tup [.int (-1), .int fi]) cm6
      have cg6 := cg5.trans cs6
      have cd1 := dp_up2 (K := K) cs6 cd1
      have cd2 := dp_up2 (K := K) cs6 cd2
      have cd3 := dp_up2 (K := K) cs6 cd3
      have cd4 := dp_up2 (K := K) cs6 cd4
      have cd5 := dp_up2 (K := K) cs6 cd5
      refine ⟨_, rfl, (by show 1 ≤ sizeLine; decide), fun ct7 cm7 => ?_⟩
      have cd7 := new_tup2 (K := K) (vs := [.int un]) (cg6.has2 hA) cm7 (.cons (.int _) .nil)
      have cs7 := same_new (o := .tup [.int un]) cm7
      have cg7 := cg6.trans cs7
      have cd1 := dp_up2 (K := K) cs7 cd1
      have cd2 := dp_up2 (K := K) cs7 cd2
      have cd3 := dp_up2 (K := K) cs7 cd3
      have cd4 := dp_up2 (K := K) cs7 cd4
      have cd5 := dp_up2 (K := K) cs7 cd5
      have cd6 := dp_up2 (K := K) cs7 cd6
      refine ⟨(by show 7 ≤ sizeLine; decide), fun ct8 cm8 => ?_⟩
      have cd8 := new_lst2 (K := K) (vs := [.ref ct1, .ref ct2, .ref ct3, .ref ct4, .ref ct5, .ref ct6, .ref ct7]) (cg7.has2 hA) cm8 (.cons cd1 (.cons cd2 (.cons cd3 (.cons cd4 (.cons cd5 (.cons cd6 (.cons cd7 .nil)))))))
      have cs8 := same_new (o := .lst [.ref ct1, .ref ct2, .ref ct3, .ref ct4, .ref ct5, .ref ct6, .ref ct7]) cm8
      have cg8 := cg7.trans cs8
      have cd1 := dp_up2 (K := K) cs8 cd1
      have cd2 := dp_up2 (K := K) cs8 cd2
      have cd3 := dp_up2 (K := K) cs8 cd3
      have cd4 := dp_up2 (K := K) cs8 cd4
      have cd5 := dp_up2 (K := K) cs8 cd5
      have cd6 := dp_up2 (K := K) cs8 cd6
      have cd7 := dp_up2 (K := K) cs8 cd7
      have hM := new_at cs8
      refine ⟨_, rfl, _, rfl, _, rfl, (by show 2 ≤ sizeLine; decide), fun ct9 cm9 => ?_⟩
      have cd9 := new_lst2 (K := K) (vs := [.int un, .int fi]) (cg8.has2 hA) cm9 (.cons (.int _) (.cons (.int _) .nil))
      have cs9 := same_new (o := .lst [.int un, .int fi]) cm9
      have cg9 := cg8.trans cs9
      have cd1 := dp_up2 (K := K) cs9 cd1
      have cd2 := dp_up2 (K := K) cs9 cd2
      have cd3 := dp_up2 (K := K) cs9 cd3
      have cd4 := dp_up2 (K := K) cs9 cd4
      have cd5 := dp_up2 (K := K) cs9 cd5
      have cd6 := dp_up2 (K := K) cs9 cd6
      have cd7 := dp_up2 (K := K) cs9 cd7
      have cd8 := dp_up2 (K := K) cs9 cd8
      have hM := cs9.at hM
      refine ⟨_, rfl, _, rfl, (by show 3 ≤ sizeLine; decide), fun ct10 cm10 => ?_⟩
      have cd10 := new_tup2 (K := K) (vs := [.int un, .int fi, .int 0]) (cg9.has2 hA) cm10 (.cons (.int _) (.cons (.int _) (.cons (.int _) .nil)))
      have cs10 := same_new (o := .tup [.int un, .int fi, .int 0]) cm10
      have cg10 := cg9.trans cs10
      have cd1 := dp_up2 (K := K) cs10 cd1
      have cd2 := dp_up2 (K := K) cs10 cd2
      have cd3 := dp_up2 (K := K) cs10 cd3
      have cd4 := dp_up2 (K := K) cs10 cd4
      have cd5 := dp_up2 (K := K) cs10 cd5
      have cd6 := dp_up2 (K := K) cs10 cd6
      have cd7 := dp_up2 (K := K) cs10 cd7
      have cd8 := dp_up2 (K := K) cs10 cd8
      have hM := cs10.at hM
      have cd9 := dp_up2 (K := K) cs10 cd9
      refine ⟨_, rfl, (by show 2 ≤ sizeLine; decide), fun ct11 cm11 => ?_⟩
      have cd11 := new_tup2 (K := K) (vs := [.int un, .non]) (cg10.has2 hA) cm11 (.cons (.int _) (.cons .non .nil))
      have cs11 := same_new (o := .tup [.int un, .non]) cm11
      have cg11 := cg10.trans cs11
      have cd1 := dp_up2 (K := K) cs11 cd1
      have cd2 := dp_up2 (K := K) cs11 cd2
      have cd3 := dp_up2 (K := K) cs11 cd3
      have cd4 := dp_up2 (K := K) cs11 cd4
      have cd5 := dp_up2 (K := K) cs11 cd5
      have cd6 := dp_up2 (K := K) cs11 cd6
      have cd7 := dp_up2 (K := K) cs11 cd7
      have cd8 := dp_up2 (K := K) cs11 cd8
      have hM := cs11.at hM
      have cd9 := dp_up2 (K := K) cs11 cd9
      have cd10 := dp_up2 (K := K) cs11 cd10
      refine ⟨_, rfl, (by show 2 ≤ sizeLine; decide), fun ct12 cm12 => ?_⟩
      have cd12 := new_tup2 (K := K) (vs := [.str ("1" : Str), .int fi]) (cg11.has2 hA) cm12 (.cons (.str _) (.cons (.int _) .nil))
      have cs12 := same_new (o := .tup [.str ("1" : Str), .int fi]) cm12
      have cg12 := cg11.trans cs12
      have cd1 := dp_up2 (K := K) cs12 cd1
      have cd2 := dp_up2 (K := K) cs12 cd2
      have cd3 := dp_up2 (K := K) cs12 cd3
      have cd4 := dp_up2 (K := K) cs12 cd4
      have cd5 := dp_up2 (K := K) cs12 cd5
      have cd6 := dp_up2 (K := K) cs12 cd6
      have cd7 := dp_up2 (K := K) cs12 cd7
      have cd8 := dp_up2 (K := K) cs12 cd8
      have hM := cs12.at hM
      have cd9 := dp_up2 (K := K) cs12 cd9
      have cd10 := dp_up2 (K := K) cs12 cd10
      have cd11 := dp_up2 (K := K) cs12 cd11
      refine ⟨(by show 5 ≤ sizeLine; decide), fun ct13 cm13 => ?_⟩
      have cd13 := new_lst2 (K := K) (vs := [.ref ct9, .ref ct10, .non, .ref ct11, .ref ct12]) (cg12.has2 hA) cm13 (.cons cd9 (.cons cd10 (.cons .non (.cons cd11 (.cons cd12 .nil)))))
      have cs13 := same_new (o := .lst [.ref ct9, .ref ct10, .non, .ref ct11, .ref ct12]) cm13
      have cg13 := cg12.trans cs13
      have cd1 := dp_up2 (K := K) cs13 cd1
      have cd2 := dp_up2 (K := K) cs13 cd2
      have cd3 := dp_up2 (K := K) cs13 cd3
      have cd4 := dp_up2 (K := K) cs13 cd4
      have cd5 := dp_up2 (K := K) cs13 cd5
      have cd6 := dp_up2 (K := K) cs13 cd6
      have cd7 := dp_up2 (K := K) cs13 cd7
      have cd8 := dp_up2 (K := K) cs13 cd8
      have hM := cs13.at hM
      have cd9 := dp_up2 (K := K) cs13 cd9
      have cd10 := dp_up2 (K := K) cs13 cd10
      have cd11 := dp_up2 (K := K) cs13 cd11
      have cd12 := dp_up2 (K := K) cs13 cd12
      have hM2 := new_at cs13
      refine ⟨ct8, ct13, _, _, rfl, rfl, hM, hM2, (by show 7 + 5 ≤ sizeLine; decide), fun ct14 cm14 => ?_⟩
      have cd14 := new_lst2 (K := K) (vs := ([.ref ct1, .ref ct2, .ref ct3, .ref ct4, .ref ct5, .ref ct6, .ref ct7] ++ [.ref ct9, .ref ct10, .non, .ref ct11, .ref ct12])) (cg13.has2 hA) cm14 (.cons cd1 (.cons cd2 (.cons cd3 (.cons cd4 (.cons cd5 (.cons cd6 (.cons cd7 (.cons cd9 (.cons cd10 (.cons .non (.cons cd11 (.cons cd12 .nil))))))))))))
      have cs14 := same_new (o := .lst ([.ref ct1, .ref ct2, .ref ct3, .ref ct4, .ref ct5, .ref ct6, .ref ct7] ++ [.ref ct9, .ref ct10, .non, .ref ct11, .ref ct12])) cm14
      have cg14 := cg13.trans cs14
      have cd1 := dp_up2 (K := K) cs14 cd1
      have cd2 := dp_up2 (K := K) cs14 cd2
      have cd3 := dp_up2 (K := K) cs14 cd3
      have cd4 := dp_up2 (K := K) cs14 cd4
      have cd5 := dp_up2 (K := K) cs14 cd5
      have cd6 := dp_up2 (K := K) cs14 cd6
      have cd7 := dp_up2 (K := K) cs14 cd7
      have cd8 := dp_up2 (K := K) cs14 cd8
      have hM := cs14.at hM
      have cd9 := dp_up2 (K := K) cs14 cd9
      have cd10 := dp_up2 (K := K) cs14 cd10
      have cd11 := dp_up2 (K := K) cs14 cd11
      have cd12 := dp_up2 (K := K) cs14 cd12
      have cd13 := dp_up2 (K := K) cs14 cd13
      have hM2 := cs14.at hM2
      have hM3 := new_at cs14
      refine ⟨_, rfl, _, rfl, _, rfl, _, _, rfl, rfl, (by show 2 ≤ sizeLine; decide), fun ct15 cm15 => ?_⟩
      have cd15 := new_tup2 (K := K) (vs := [.int un, .int (fi + 1)]) (cg14.has2 hA) cm15 (.cons (.int _) (.cons (.int _) .nil))
      have cs15 := same_new (o := .tup [.int un, .int (fi + 1)]) cm15
      have cg15 := cg14.trans cs15
      have cd1 := dp_up2 (K := K) cs15 cd1
      have cd2 := dp_up2 (K := K) cs15 cd2
      have cd3 := dp_up2 (K := K) cs15 cd3
      have cd4 := dp_up2 (K := K) cs15 cd4
      have cd5 := dp_up2 (K := K) cs15 cd5
      have cd6 := dp_up2 (K := K) cs15 cd6
      have cd7 := dp_up2 (K := K) cs15 cd7
      have cd9 := dp_up2 (K := K) cs15 cd9
      have cd10 := dp_up2 (K := K) cs15 cd10
      have cd11 := dp_up2 (K := K) cs15 cd11
      have cd12 := dp_up2 (K := K) cs15 cd12
      have hM3 := cs15.at hM3
      refine ⟨_, rfl, _, _, rfl, rfl, _, rfl, (by show 2 ≤ sizeLine; decide), fun ct16 cm16 => ?_⟩
      have cd16 := new_tup2 (K := K) (vs := [.int (un + 1), .int fi]) (cg15.has2 hA) cm16 (.cons (.int _) (.cons (.int _) .nil))
      have cs16 := same_new (o := .tup [.int (un + 1), .int fi]) cm16
      have cg16 := cg15.trans cs16
      have cd1 := dp_up2 (K := K) cs16 cd1
      have cd2 := dp_up2 (K := K) cs16 cd2
      have cd3 := dp_up2 (K := K) cs16 cd3
      have cd4 := dp_up2 (K := K) cs16 cd4
      have cd5 := dp_up2 (K := K) cs16 cd5
      have cd6 := dp_up2 (K := K) cs16 cd6
      have cd7 := dp_up2 (K := K) cs16 cd7
      have cd9 := dp_up2 (K := K) cs16 cd9
      have cd10 := dp_up2 (K := K) cs16 cd10
      have cd11 := dp_up2 (K := K) cs16 cd11
      have cd12 := dp_up2 (K := K) cs16 cd12
      have hM3 := cs16.at hM3
      have cd15 := dp_up2 (K := K) cs16 cd15
      refine ⟨(by show 2 ≤ sizeLine; decide), fun ct17 cm17 => ?_⟩
      have cd17 := new_lst2 (K := K) (vs := [.ref ct15, .ref ct16]) (cg16.has2 hA) cm17 (.cons cd15 (.cons cd16 .nil))
      have cs17 := same_new (o := .lst [.ref ct15, .ref ct16]) cm17
      have cg17 := cg16.trans cs17
      have cd1 := dp_up2 (K := K) cs17 cd1
      have cd2 := dp_up2 (K := K) cs17 cd2
      have cd3 := dp_up2 (K := K) cs17 cd3
      have cd4 := dp_up2 (K := K) cs17 cd4
      have cd5 := dp_up2 (K := K) cs17 cd5
      have cd6 := dp_up2 (K := K) cs17 cd6
      have cd7 := dp_up2 (K := K) cs17 cd7
      have cd9 := dp_up2 (K := K) cs17 cd9
      have cd10 := dp_up2 (K := K) cs17 cd10
      have cd11 := dp_up2 (K := K) cs17 cd11
      have cd12 := dp_up2 (K := K) cs17 cd12
      have hM3 := cs17.at hM3
      have cd15 := dp_up2 (K := K) cs17 cd15
      have cd16 := dp_up2 (K := K) cs17 cd16
      have hM4 := new_at cs17
      refine ⟨ct14, ct17, _, _, rfl, rfl, hM3, hM4, (by show 12 + 2 ≤ sizeLine; decide), fun ct18 cm18 => ?_⟩
      have cd18 := new_lst2 (K := K) (vs := (([.ref ct1, .ref ct2, .ref ct3, .ref ct4, .ref ct5, .ref ct6, .ref ct7] ++ [.ref ct9, .ref ct10, .non, .ref ct11, .ref ct12]) ++ [.ref ct15, .ref ct16])) (cg17.has2 hA) cm18 (.cons cd1 (.cons cd2 (.cons cd3 (.cons cd4 (.cons cd5 (.cons cd6 (.cons cd7 (.cons cd9 (.cons cd10 (.cons .non (.cons cd11 (.cons cd12 (.cons cd15 (.cons cd16 .nil))))))))))))))
      have cs18 := same_new (o := .lst (([.ref ct1, .ref ct2, .ref ct3, .ref ct4, .ref ct5, .ref ct6, .ref ct7] ++ [.ref ct9, .ref ct10, .non, .ref ct11, .ref ct12]) ++ [.ref ct15, .ref ct16])) cm18
      have cg18 := cg17.trans cs18
      have cd1 := dp_up2 (K := K) cs18 cd1
      have cd2 := dp_up2 (K := K) cs18 cd2
      have cd3 := dp_up2 (K := K) cs18 cd3
      have cd4 := dp_up2 (K := K) cs18 cd4
      have cd5 := dp_up2 (K := K) cs18 cd5
      have cd6 := dp_up2 (K := K) cs18 cd6
      have cd7 := dp_up2 (K := K) cs18 cd7
      have cd9 := dp_up2 (K := K) cs18 cd9
      have cd10 := dp_up2 (K := K) cs18 cd10
      have cd11 := dp_up2 (K := K) cs18 cd11
      have cd12 := dp_up2 (K := K) cs18 cd12
      have hM3 := cs18.at hM3
      have cd15 := dp_up2 (K := K) cs18 cd15
      have cd16 := dp_up2 (K := K) cs18 cd16
      have cd17 := dp_up2 (K := K) cs18 cd17
      have hM4 := cs18.at hM4
      obtain ⟨pds, dP, lP⟩ : ∃ pds, Dp K (Of2 l a _) (.ref ct18) (.list pds) ∧ pds.length = 14 := ⟨_, cd18, rfl⟩
      -- way
      refine ⟨_, rfl, a, sc, 5, _, rfl, by decide, by decide, S1.same cg18, by omega, fun way H5 w0 w5 S5 K5 => ?_⟩
      have K15 : Kept a H1 H5 := (kept_same cg18).trans K5
      have K05 := (K0.trans K1).trans K15
      have dP5 := dp_same (of2_kept K5) dP
      have hd5 := dp_same (of2_kept K15) hd1
      have dpr5 := dp_same (of2_kept K15) dpr
      have rj5 := dps_same (of2_kept K15) rj1
      have qj5 : SqT K (Of2 l a H5) pj xs := same_seqT (of2_kept K15) qj1
      have hA5 := has2 (l := l) S5 K05 hl
      have e1 : HT.sIx (lg.map pairP).length (lg.map pairP).length (some (ix : Int)) = ix := by rw [HT.sIx_nat, List.length_map]; omega
      have e2 : HT.sIx (lg.map pairP).length 0 (some ((ix : Int) + 1)) = ix + 1 := by
        show HT.sIx (lg.map pairP).length 0 (some ((ix + 1 : Nat) : Int)) = ix + 1
        rw [HT.sIx_nat, List.length_map]
        omega
      have e3 : HT.sIx (lg.map pairP).length 0 none = 0 := rfl
      have e4 : HT.sIx (lg.map pairP).length (lg.map pairP).length none = (lg.map pairP).length := rfl
      have e5 : HT.sIx (lg.map pairP).length 0 (some (ix : Int)) = ix := by rw [HT.sIx_nat, List.length_map]; omega
      have ll : (lg.map pairP).length = lg.length := List.length_map ..
      clear hM hM2 hM3 hM4 K5 K15 K0 K1 hd0 hd1 rj0 rj1 qj0 qj1 dpr dP
      refine ⟨_, rfl, rfl, _, rfl, ite2 (fun _ => ?_) (fun _ => ?_)⟩
      · -- a pair left out
        refine ⟨_, rfl, _, rfl, _, rfl, slice_go2 hA5 hd5 (fun z1 G1 s1 d1 => ?_)⟩
        rw [e1, e3] at d1
        refine ⟨_, rfl, _, rfl, _, _, rfl, rfl, _, rfl, ?_⟩
        dsimp only [tNoPart]
        refine slice_go2 (s1.has2 hA5) (dp_up2 s1 hd5) (fun z4 G4 s4 d4 => ?_)
        rw [e2, e4] at d4
        refine cat_go2 (s4.has2 (s1.has2 hA5)) (dp_up2 s4 d1) d4 ?_ (fun z5 G5 s5 d5 => ?_)
        · simp only [List.length_take, List.length_drop, ll]
          omega
        have sAll := (s1.trans s4).trans s5
        refine k _ _ _ ((S5.same sAll).more (by omega)) (K05.trans (kept_same sAll)) d5 ?_
        show List.length _ ≤ _
        simp only [List.length_append, List.length_take, List.length_drop, ll]
        omega
      refine ⟨_, rfl, rfl, _, rfl, ite2 (fun _ => ?_) (fun _ => ?_)⟩
      · -- a pair twice
        refine ⟨_, rfl, _, rfl, _, rfl, slice_go2 hA5 hd5 (fun z1 G1 s1 d1 => ?_)⟩
        rw [e1, e3] at d1
        refine ⟨_, rfl, _, rfl, pj, xs, _, _, rfl, rfl, same_seqT s1 (same_seqT (of2_sub l a H5) qj5), hat, (by show 1 ≤ sizeLine; decide), fun t2 m2 => ?_⟩
        have d2 := new_tup2 (K := K) (vs := [.ref lp]) (s1.has2 hA5) m2 (.cons (dp_up2 s1 dpr5) .nil)
        have s2 := same_new (o := .tup [.ref lp]) m2
        refine cat_go2 (s2.has2 (s1.has2 hA5)) (dp_up2 s2 d1) d2 ?_ (fun z3 G3 s3 d3 => ?_)
        · simp only [List.length_take, List.length_drop, List.length_cons, List.length_nil, ll]
          omega
        refine ⟨_, rfl, _, rfl, _, rfl, ?_⟩
        dsimp only [tNoPart]
        have s123 := (s1.trans s2).trans s3
        refine slice_go2 (s123.has2 hA5) (dp_up2 s123 hd5) (fun z4 G4 s4 d4 => ?_)
        rw [e5, e4] at d4
        refine cat_go2 (s4.has2 (s123.has2 hA5)) (dp_up2 s4 d3) d4 ?_ (fun z5 G5 s5 d5 => ?_)
        · simp only [List.length_append, List.length_take, List.length_drop, List.length_cons, List.length_nil, ll]
          omega
        have sAll := (s123.trans s4).trans s5
        refine k _ _ _ ((S5.same sAll).more (by omega)) (K05.trans (kept_same sAll)) d5 ?_
        show List.length _ ≤ _
        simp only [List.length_append, List.length_take, List.length_drop, List.length_cons, List.length_nil, ll]
        omega
      refine ⟨_, rfl, rfl, _, rfl, ite2 (fun _ => ?_) (fun _ => ?_)⟩
      · -- another form
        have q5 := same_seqT (of2_sub l a H5) qj5
        refine ⟨_, rfl, pj, xs, rfl, .inr q5, fun t1 m1 => ?_⟩
        have d1 := new_lst2 (K := K) (vs := xs) hA5 m1 rj5
        have s1 := same_new (o := .lst xs) m1
        refine ⟨_, rfl, pj, xs, rfl, same_seqT s1 q5, fun t2 m2 => ?_⟩
        have d2 := new_tup2 (K := K) (vs := xs.reverse) (s1.has2 hA5) m2 (dps_rev (dps_same (of2_mono s1) rj5))
        have s2 := same_new (o := .tup xs.reverse) m2
        have d1 := dp_up2 (K := K) s2 d1
        have s12 := s1.trans s2
        -- log + ((log[-1][0] + 1, 1),)
        have hxl : xs[xs.length - 1]? = some xs[xs.length - 1] := List.getElem?_eq_getElem (by omega)
        obtain ⟨dl, hdl, ddl⟩ := dps_getV rj5 hxl
        rw [List.getElem?_map] at hdl
        obtain ⟨⟨u9, f9⟩, _, rfl⟩ := Option.map_eq_some_iff.mp hdl
        generalize xs[xs.length - 1] = lv9 at hxl ddl
        obtain ⟨lp9, uv9, fv9, rfl, qlp9, du9, _⟩ := dp_two ddl
        have eu9 := dp_int du9
        subst eu9
        refine ⟨_, rfl, _, rfl, _, rfl, pj, xs, _, _, rfl, rfl, same_seqT s12 q5, by rw [atI_last (by omega)]; exact hxl, lp9, _, _, _, rfl, rfl, same_seqT s12 (same_seqT (of2_sub l a H5) qlp9), rfl, _, _, rfl, rfl, (by show 2 ≤ sizeLine; decide), fun t3 m3 => ?_⟩
        have d3 := new_tup2 (K := K) (vs := [.int (u9 + 1), .int 1]) (s12.has2 hA5) m3 (.cons (.int _) (.cons (.int _) .nil))
        have s3 := same_new (o := .tup [.int (u9 + 1), .int 1]) m3
        have d1 := dp_up2 (K := K) s3 d1
        have d2 := dp_up2 (K := K) s3 d2
        have s13 := s12.trans s3
        refine ⟨(by show 1 ≤ sizeLine; decide), fun t4 m4 => ?_⟩
        have d4 := new_tup2 (K := K) (vs := [.ref t3]) (s13.has2 hA5) m4 (.cons d3 .nil)
        have s4 := same_new (o := .tup [.ref t3]) m4
        have d1 := dp_up2 (K := K) s4 d1
        have d2 := dp_up2 (K := K) s4 d2
        have s14 := s13.trans s4
        refine cat_go2 (s14.has2 hA5) (dp_up2 s14 hd5) d4 ?_ (fun z5 G5 s5 d5 => ?_)
        · simp only [List.length_cons, List.length_nil, ll]
          omega
        have d1 := dp_up2 (K := K) s5 d1
        have d2 := dp_up2 (K := K) s5 d2
        have s15 := s14.trans s5
        -- log[1:] + log[:1]
        refine ⟨_, rfl, _, rfl, ?_⟩
        dsimp only [tNoPart]
        refine slice_go2 (s15.has2 hA5) (dp_up2 s15 hd5) (fun z6 G6 s6 d6 => ?_)
        have d1 := dp_up2 (K := K) s6 d1
        have d2 := dp_up2 (K := K) s6 d2
        have d5 := dp_up2 (K := K) s6 d5
        have s16 := s15.trans s6
        refine ⟨_, rfl, _, rfl, slice_go2 (s16.has2 hA5) (dp_up2 s16 hd5) (fun z7 G7 s7 d7 => ?_)⟩
        have d1 := dp_up2 (K := K) s7 d1
        have d2 := dp_up2 (K := K) s7 d2
        have d5 := dp_up2 (K := K) s7 d5
        have s17 := s16.trans s7
        have f1 : HT.sIx (lg.map pairP).length (lg.map pairP).length (some ((1 : Nat) : Int)) = 1 := by rw [HT.sIx_nat, List.length_map]; omega
        have f2 : HT.sIx (lg.map pairP).length 0 (some ((1 : Nat) : Int)) = 1 := by rw [HT.sIx_nat, List.length_map]; omega
        replace d6 : Dp K (Of2 l a G6) z6 (.tuple (((lg.map pairP).drop (HT.sIx (lg.map pairP).length 0 (some ((1 : Nat) : Int)))).take ((lg.map pairP).length - HT.sIx (lg.map pairP).length 0 (some ((1 : Nat) : Int))))) := d6
        replace d7 : Dp K (Of2 l a G7) z7 (.tuple (((lg.map pairP).drop 0).take (HT.sIx (lg.map pairP).length (lg.map pairP).length (some ((1 : Nat) : Int)) - 0))) := d7
        rw [f2] at d6
        rw [f1] at d7
        refine cat_go2 (s17.has2 hA5) (dp_up2 s7 d6) d7 ?_ (fun z8 G8 s8 d8 => ?_)
        · simp only [List.length_take, List.length_drop, ll]
          omega
        have d1 := dp_up2 (K := K) s8 d1
        have d2 := dp_up2 (K := K) s8 d2
        have d5 := dp_up2 (K := K) s8 d5
        have s18 := s17.trans s8
        refine ⟨(by show 4 ≤ sizeLine; decide), fun t9 m9 => ?_⟩
        have d9 := new_lst2 (K := K) (vs := [.ref t1, .ref t2, z5, z8]) (s18.has2 hA5) m9 (.cons d1 (.cons d2 (.cons d5 (.cons d8 .nil))))
        have s9 := same_new (o := .lst [.ref t1, .ref t2, z5, z8]) m9
        have s19 := s18.trans s9
        refine ⟨_, rfl, a, sc, 4, _, rfl, by decide, by decide, S5.same s19, by omega, fun r H6 r0 r4 S6 K6 => ?_⟩
        obtain ⟨p, ys, x, xd, e, qp, hx, mx, dx⟩ := pick_dp (dp_same (of2_kept K6) d9) r0 r4
        cases e
        refine ⟨_, _, _, _, rfl, rfl, qp, hx, k x xd H6 (S6.more (by omega)) ((K05.trans (kept_same s19)).trans K6) dx ?_⟩
        simp only [List.mem_cons, List.not_mem_nil, or_false] at mx
        rcases mx with rfl | rfl | rfl | rfl
        · exact Nat.zero_le _
        · show List.length _ ≤ _
          rw [List.length_reverse, ll]
          omega
        · show List.length _ ≤ _
          rw [List.length_append, ll]
          exact Nat.le_refl _
        · show List.length _ ≤ _
          simp only [List.length_append, List.length_take, List.length_drop, ll]
          omega
      -- another pair
      refine ⟨_, rfl, _, rfl, _, rfl, slice_go2 hA5 hd5 (fun z1 G1 s1 d1 => ?_)⟩
      rw [e1, e3] at d1
      have S6 := S5.same s1
      refine ⟨_, rfl, _, rfl, a, sc, 14, _, rfl, by decide, by decide, S6, by omega, fun r H6 r0 r4 S7 K6 => ?_⟩
      obtain ⟨p, ys, x, xd, e, qp, hx, mx, dx⟩ := pick_dp (dp_same (of2_kept K6) (dp_up2 s1 dP5)) r0 (by omega)
      cases e
      have KA := (K05.trans (kept_same s1)).trans K6
      have hA7 := has2 (l := l) S7 KA hl
      have d1 := dp_same (of2_kept K6) d1
      have hd7 := dp_same (of2_kept K6) (dp_up2 s1 hd5)
      refine ⟨_, _, _, _, rfl, rfl, qp, hx, (by show 1 ≤ sizeLine; decide), fun t2 m2 => ?_⟩
      have d2 := new_tup2 (K := K) (vs := [x]) hA7 m2 (.cons dx .nil)
      have s2 := same_new (o := .tup [x]) m2
      refine cat_go2 (s2.has2 hA7) (dp_up2 s2 d1) d2 ?_ (fun z3 G3 s3 d3 => ?_)
      · simp only [List.length_take, List.length_drop, List.length_cons, List.length_nil, ll]
        omega
      refine ⟨_, rfl, _, rfl, _, _, rfl, rfl, _, rfl, ?_⟩
      dsimp only [tNoPart]
      have s23 := s2.trans s3
      refine slice_go2 (s23.has2 hA7) (dp_up2 s23 hd7) (fun z4 G4 s4 d4 => ?_)
      rw [e2, e4] at d4
      refine cat_go2 (s4.has2 (s23.has2 hA7)) (dp_up2 s4 d3) d4 ?_ (fun z5 G5 s5 d5 => ?_)
      · simp only [List.length_append, List.length_take, List.length_drop, List.length_cons, List.length_nil, ll]
        omega
      have sAll := (s23.trans s4).trans s5
      refine k _ _ _ ((S7.same sAll).more (by omega)) (KA.trans (kept_same sAll)) d5 ?_
      show List.length _ ≤ _
      simp only [List.length_append, List.length_take, List.length_drop, List.length_cons, List.length_nil, ll]
      omega
end
end Vk
set_option maxHeartbeats 4000000
namespace Vk
open PySem PySem.Spec PyProof.Rows L2
theorem kit_same {K : PySem.W.Frag} {t : Value} : PySem.W.kitOne K t t = some true := by
  unfold PySem.W.kitOne
  rw [if_pos (beq_self_eq_true t)]
theorem kit_sub {K : PySem.W.Frag} {C D : Addr} (h1 : PySem.W.isClsIn K D = true) (h2 : PySem.W.typeIn K (.ref D) = some (.type "type")) (h3 : PySem.W.subIn K (.ref C) (.ref D) = some true) : PySem.W.kitOne K (.ref C) (.ref D) = some true := by
  unfold PySem.W.kitOne
  have e : ((PySem.W.clsIn K D).isSome && PySem.W.typeIn K (.ref D) == some (.type "type")) = true := by
    have h1' : (PySem.W.clsIn K D).isSome = true := h1
    rw [h1', h2]
    rfl
  by_cases z : (Value.ref C == Value.ref D) = true
  · rw [if_pos z]
  · rw [if_neg z]
    show (if ((PySem.W.clsIn K D).isSome && PySem.W.typeIn K (.ref D) == some (.type "type")) = true then PySem.W.subIn K (.ref C) (.ref D) else none) = _
    rw [if_pos e, h3]
theorem kit_ref {K : PySem.W.Frag} {C D : Addr} {b : Bool} (z : (Value.ref C == Value.ref D) = false) (h1 : PySem.W.isClsIn K D = true) (h2 : PySem.W.typeIn K (.ref D) = some (.type "type")) (h3 : PySem.W.subIn K (.ref C) (.ref D) = some b) : PySem.W.kitOne K (.ref C) (.ref D) = some b := by
  unfold PySem.W.kitOne
  have e : ((PySem.W.clsIn K D).isSome && PySem.W.typeIn K (.ref D) == some (.type "type")) = true := by
    have h1' : (PySem.W.clsIn K D).isSome = true := h1
    rw [h1', h2]
    rfl
  rw [if_neg (by rw [z]; exact Bool.false_ne_true)]
  show (if ((PySem.W.clsIn K D).isSome && PySem.W.typeIn K (.ref D) == some (.type "type")) = true then PySem.W.subIn K (.ref C) (.ref D) else none) = _
  rw [if_pos e, h3]
theorem kit_ve {K : PySem.W.Frag} {C : Addr} (h3 : PySem.W.subIn K (.ref C) (.type "ValueError") = some true) : PySem.W.kitOne K (.ref C) (.type "ValueError") = some true := by
  unfold PySem.W.kitOne
  have e : PySem.W.kitMeta "ValueError" = true := by decide +kernel
  rw [if_neg (by intro z; cases z)]
  show (if PySem.W.kitMeta "ValueError" = true then PySem.W.subIn K (.ref C) (.type "ValueError") else none) = _
  rw [if_pos e, h3]
end Vk
set_option maxHeartbeats 4000000
namespace Vk
open PySem PySem.Spec PyProof.Rows L2
def countD : PyData → Bool
  | .none => true
  | d => integerD 1 d
def kindD : PyData → Bool
  | .str x => x == ("queue" : Str) || x == ("stack" : Str)
  | _ => false
def levelD : PyData → Bool
  | .tuple [a, b] => kindD a && countD b
  | _ => false
theorem in_kinds {K : PySem.W.Frag} {H : Hp} {v : V} {d : PyData} (h : Dp K H v d) : inV v [.str ("queue" : Str), .str ("stack" : Str)] = kindD d := by
  cases h with
  | str x =>
    show (("queue" : Str) == x || (("stack" : Str) == x || false)) = (x == ("queue" : Str) || x == ("stack" : Str))
    rw [Bool.or_false, BEq.comm (a := ("queue" : Str)), BEq.comm (a := ("stack" : Str))]
  | non => rfl
  | bl b => rfl
  | int i => rfl
  | lst q r => rfl
  | tup q r => rfl
section
variable {P : Program} {w : World} {K : PySem.W.Frag} {mg : Str → Option Value} {base : Heap}
def spIsCnt (K : PySem.W.Frag) : Sp := fun vs H Q _ => ∃ (v : V) (d : PyData), vs = [v] ∧ Dp K H v d ∧ Q (.bl (countD d)) H
theorem scIsCnt : FnScope ["value"] ["value"] (defScope sIsCnt) := ⟨rfl, rfl, rfl, by decide +kernel, rfl, by decide +kernel, by decide +kernel⟩
theorem ok_isCnt (D : Df K mg "is_count" sIsCnt ["value"]) (I : Cl P w K mg base CX0 1 "is_integer" ["value", "least"] (spInteger K)) : Cl P w K mg base CX0 2 "is_count" ["value"] (spIsCnt K) := by
  refine cl0 D scIsCnt (fun vs H Q E h => ?_) (fun f cdv A outer s H vs Q E hr h => ?_)
  · obtain ⟨v, d, rfl, _⟩ := h
    rfl
  · obtain ⟨v, d, rfl, hd, k⟩ := h
    refine ⟨_, pss_one (ps_ret (pe_or (pe_cmpR op_isN (pv 0) pe_non (nomark _)) (pe_one (pc I hr (by decide) (pa_cons (pv 0) (pa_cons pe_int pa_nil)))))), ?_⟩
    refine ⟨_, rfl, rfl, _, rfl, ?_⟩
    cases hd with
    | non => exact iteT k
    | int i => exact iteF ⟨_, rfl, _, _, 1, rfl, .int i, k⟩
    | bl b => exact iteF ⟨_, rfl, _, _, 1, rfl, .bl b, k⟩
    | str x => exact iteF ⟨_, rfl, _, _, 1, rfl, .str x, k⟩
    | lst q r => exact iteF ⟨_, rfl, _, _, 1, rfl, .lst q r, k⟩
    | tup q r => exact iteF ⟨_, rfl, _, _, 1, rfl, .tup q r, k⟩
def spLevel (K : PySem.W.Frag) : Sp := fun vs H Q _ => ∃ (v : V) (d : PyData), vs = [v] ∧ Dp K H v d ∧ headD d = true ∧ ∀ H', Same H H' → Q (.bl (levelD d)) H'
theorem scLevel : FnScope ["level"] ["level"] (defScope sLevel) := ⟨rfl, rfl, rfl, by decide +kernel, rfl, by decide +kernel, by decide +kernel⟩
theorem level_two {d : PyData} (h : tupleND 2 d = true) : ∃ a b, d = .tuple [a, b] := by
  cases d with
  | tuple ds =>
    have z : (ds.length : Int) = 2 := of_decide_eq_true h
    match ds, z with
    | [a, b], _ => exact ⟨a, b, rfl⟩
    | [], z => cases z
    | [_], z => cases z
    | _ :: _ :: _ :: l, z => simp only [List.length_cons] at z; omega
  | _ => cases h
theorem level_not {d : PyData} (h : tupleND 2 d = false) : levelD d = false := by
  cases d with
  | tuple ds =>
    have z : ¬ (ds.length : Int) = 2 := of_decide_eq_false h
    match ds, z with
    | [a, b], z => exact absurd rfl z
    | [], _ => rfl
    | [_], _ => rfl
    | _ :: _ :: _ :: l, _ => rfl
  | _ => rfl
theorem ok_level (D : Df K mg "is_level" sLevel ["level"]) (T : Cl P w K mg base CX0 1 "is_tuple_of" ["value", "many"] (spTupleOf K)) (C : Cl P w K mg base CX0 2 "is_count" ["value"] (spIsCnt K)) : Cl P w K mg base CX0 3 "is_level" ["level"] (spLevel K) := by
  refine cl0 D scLevel (fun vs H Q E h => ?_) (fun f cdv A outer s H vs Q E hr h => ?_)
  · obtain ⟨v, d, rfl, _⟩ := h
    rfl
  · obtain ⟨v, d, rfl, hd, fl, k⟩ := h
    refine ⟨_, pss_one (ps_ret (pe_and (pc T hr (by decide) (pa_cons (pv 0) (pa_cons pe_int pa_nil))) (pe_and (pe_cmpR op_in_seq (pe_ix ix_tup (pv 0) pe_int (fun _ _ => rfl)) (pe_tup (pa_cons pe_str (pa_cons pe_str pa_nil))) (by rfl))
      (pe_one (pc C hr (by decide) (pa_cons (pe_ix ix_tup (pv 0) pe_int (fun _ _ => rfl)) pa_nil)))))), ?_⟩
    refine ⟨_, rfl, v, d, 2, rfl, hd, _, rfl, ?_⟩
    cases ht : tupleND 2 d with
    | false =>
      refine iteF ?_
      have z := k H (Same.refl H)
      rw [level_not ht] at z
      exact z
    | true =>
      obtain ⟨a, b, rfl⟩ := level_two ht
      obtain ⟨p, x, y, rfl, q, ha, hb⟩ := dp_two hd
      refine iteT ⟨_, rfl, p, _, _, _, rfl, rfl, q, rfl, (by show 2 ≤ sizeLine; decide), fun t nt => ?_⟩
      have s1 := same_new (o := .tup [.str ("queue" : Str), .str ("stack" : Str)]) nt
      refine ⟨t, _, rfl, .inr (SqT.of upd_same), (by rw [dp_flat ha]; exact fl), rfl, _, rfl, ?_⟩
      show if inV x [.str ("queue" : Str), .str ("stack" : Str)] = true then _ else _
      rw [in_kinds ha]
      have kk := k _ s1
      have e : levelD (.tuple [a, b]) = (kindD a && countD b) := rfl
      rw [e] at kk
      cases hk : kindD a with
      | false =>
        rw [hk] at kk
        exact iteF kk
      | true =>
        rw [hk] at kk
        exact iteT ⟨_, rfl, p, _, _, _, rfl, rfl, same_seqT s1 q, rfl, y, b, rfl, dp_same s1 hb, kk⟩
end
end Vk
set_option maxHeartbeats 4000000
namespace Vk
open PySem PySem.Spec PyProof.Rows L2
abbrev sRuleInit : Stmt := inClass (top 8) 0
section
variable {P : Program} {w : World} {K : PySem.W.Frag} {mg : Str → Option Value} {base : Heap}
theorem scRuleInit : FnScope ["self", "place"] ["self", "place"] (defScope sRuleInit) := ⟨rfl, rfl, rfl, by decide +kernel, rfl, by decide +kernel, by decide +kernel⟩
theorem ok_ruleInit {C fI : Addr} {fd : FuncData} (F : Fun K "__init__" "NoRule.__init__" sRuleInit fI fd) (T : OexC K C) (no : PySem.W.findIn K (.ref C) "place" = some none) : FnOk P w K mg base CX0 1 fI fd ["self", "place"] (spIni C "place") := by
  refine F.ok scRuleInit (fun vs H Q E h => ?_) (fun cdv A outer s H vs Q E hr h => ?_)
  · obtain ⟨a, v, rfl, _⟩ := h
    rfl
  · obtain ⟨a, v, rfl, ha, k⟩ := h
    refine ⟨_, pss_one (ps_ost (pv 0) (pv 1)), ?_⟩
    exact ⟨_, rfl, _, rfl, a, C, rfl, T, no, .inl ⟨ha, fun dx n1 n2 => k dx n1 n2⟩⟩
theorem erc_rule {C : Addr} (g : mg "NoRule" = some (.ref C)) (T : OexC K C) (no : PySem.W.findIn K (.ref C) "place" = some none) (N : Nit K "NoRule" "NoRule.__init__" "place" sRuleInit C) : ErC P w K mg base "NoRule" "place" C := by
  obtain ⟨fI, fd, h1, h2, h3, h4⟩ := N.ex
  exact ⟨g, T, fI, fd, h1, h2, h4, ok_ruleInit h3 T no⟩
end
end Vk
set_option maxHeartbeats 4000000
namespace Vk
open PySem PySem.Spec PyProof.Rows L2
/-- the place of the first fault of a rule -/
def rulePlace : PyData → Option Int
  | .tuple [.tuple ls, b] => if 1 ≤ ls.length ∧ ls.length ≤ 6 then (match ls.findIdx? (fun d => !levelD d) with
    | some i => some (i : Int)
    | none => if countD b = true then none else some (ls.length : Int)) else some 0
  | _ => some 0
def goodHeads : PyData → Bool
  | .tuple [.tuple ls, _] => ls.all headD
  | _ => true
theorem place_two {d : PyData} (h : tupleND 2 d = false) : rulePlace d = some 0 := by
  cases d with
  | tuple ds =>
    have z : ¬ (ds.length : Int) = 2 := of_decide_eq_false h
    match ds, z with
    | [a, b], z => exact absurd rfl z
    | [], _ => rfl
    | [_], _ => simp [rulePlace]
    | _ :: _ :: _ :: l, _ => simp [rulePlace]
  | _ => rfl
theorem place_tup {a b : PyData} (h : isTupD a = false) : rulePlace (.tuple [a, b]) = some 0 := by
  cases a with
  | tuple ds => cases h
  | _ => rfl
theorem bad_at {ls : List PyData} {i : Nat} {d : PyData} (h : ls[i]? = some d) (hd : levelD d = false) (ok : ∀ j < i, ∀ e, ls[j]? = some e → levelD e = true) : ls.findIdx? (fun d => !levelD d) = some i := by
  rw [List.findIdx?_eq_some_iff_getElem]
  obtain ⟨h1, h2⟩ := List.getElem?_eq_some_iff.mp h
  refine ⟨h1, by rw [h2, hd]; rfl, fun j hj => ?_⟩
  have z := ok j hj ls[j] (List.getElem?_eq_getElem (by omega))
  rw [z]
  decide
theorem bad_no {ls : List PyData} (ok : ∀ j < ls.length, ∀ e, ls[j]? = some e → levelD e = true) : ls.findIdx? (fun d => !levelD d) = none := by
  rw [List.findIdx?_eq_none_iff]
  intro x hx
  obtain ⟨j, hj, e⟩ := List.getElem_of_mem hx
  have z := ok j hj x (by rw [List.getElem?_eq_getElem hj, e])
  rw [z]
  rfl
section
variable {P : Program} {w : World} {K : PySem.W.Frag} {mg : Str → Option Value} {base : Heap}
def spCheckR (K : PySem.W.Frag) (C : Addr) : Sp := fun vs H Q E => ∃ (v : V) (d : PyData), vs = [v] ∧ Dp K H v d ∧ goodHeads d = true ∧ (rulePlace d = none → ∀ H', Same H H' → Q .non H') ∧
  (∀ p, rulePlace d = some p → ∀ (dx : Addr) (H' : Hp), Same H H' → H' dx = some (.xd [("place", .int p)]) → E (.ref C) (some dx) H')
theorem scCheckR : FnScope ["rule", "levels", "boost", "place", "level"] ["rule"] (defScope sCheckR) := ⟨rfl, rfl, rfl, by decide +kernel, rfl, by decide +kernel, by decide +kernel⟩
theorem ok_checkR {C : Addr} (D : Df K mg "check_rule" sCheckR ["rule"]) (B : Blt mg) (M : ∃ u, mg "MOST_LEVELS" = some u ∧ RelV (.int 6) u) (ER : ErC P w K mg base "NoRule" "place" C) (T : Cl P w K mg base CX0 1 "is_tuple_of" ["value", "many"] (spTupleOf K))
    (L : Cl P w K mg base CX0 3 "is_level" ["level"] (spLevel K)) (CN : Cl P w K mg base CX0 2 "is_count" ["value"] (spIsCnt K)) : Cl P w K mg base (L2.CX P w) 4 "check_rule" ["rule"] (spCheckR K C) := by
  refine clX D scCheckR (fun vs H Q E h => ?_) (fun f cdv A outer s H vs Q E hr h => ?_)
  · obtain ⟨v, d, rfl, _⟩ := h
    rfl
  · obtain ⟨v, d, rfl, hd, gh, kN, kE⟩ := h
    obtain ⟨mu, mm, mr⟩ := M
    refine ⟨_, pss_cons (ps_if (pt_not (pt_val (pc T hr (by decide) (pa_cons (pv 0) (pa_cons pe_int pa_nil))))) (pss_one (ps_raiseE ER rfl hr (by decide) (takes_of rfl rfl rfl rfl) pe_int)) pss_nil)
      (pss_cons (ps_asg (pv 0) (pg_tup rfl (pgs_cons (pg_name (i := 1) scCheckR.nd rfl (.inl rfl)) (pgs_cons (pg_name (i := 2) scCheckR.nd rfl (.inl rfl)) pgs_nil))))
      (pss_cons (ps_if (PW.pt (pw_or (pt_not (pt_val (pe_callB call_isi (by rfl) B.isi (by decide +kernel) (pa_cons (pv 1) (pa_cons (pe_bltn (v := .ty "tuple") (u := .type "tuple") (by rfl) B.tuple (by decide +kernel) rfl) pa_nil))))) (pw_or1 (pt_not (pt_chain op_le op_le pe_int (pe_callB call_len_seq (by rfl) B.len PySem.boot_len (pa_cons (pv 1) pa_nil)) (pe_glob rfl mm mr))))))
        (pss_one (ps_raiseE ER rfl hr (by decide) (takes_of rfl rfl rfl rfl) pe_int)) pss_nil)
      (pss_cons (ps_for (passes_of rfl) rfl (pi_enumT B.enum (pa_cons (pv 1) pa_nil)) (pg_tup rfl (pgs_cons (pg_name (i := 3) scCheckR.nd rfl (.inl rfl)) (pgs_cons (pg_name (i := 4) scCheckR.nd rfl (.inl rfl)) pgs_nil)))
        (pss_one (ps_if (pt_not (pt_val (pc L hr (by decide) (pa_cons (pv 4) pa_nil)))) (pss_one (ps_raiseE ER rfl hr (by decide) (takes_of rfl rfl rfl rfl) (pv 3))) pss_nil)))
      (pss_one (ps_if (pt_not (pt_val (pc CN hr (by decide) (pa_cons (pv 2) pa_nil)))) (pss_one (ps_raiseE ER rfl hr (by decide) (takes_of rfl rfl rfl rfl) (pe_callB call_len_seq (by rfl) B.len PySem.boot_len (pa_cons (pv 1) pa_nil)))) pss_nil))))), ?_⟩
    refine ⟨_, rfl, v, d, 2, rfl, hd, _, rfl, ?_⟩
    cases ht : tupleND 2 d with
    | false =>
      refine iteT ?_
      exact raise_go fun dx H2 s1 _ hx => kE 0 (place_two ht) dx H2 s1 hx
    | true =>
      obtain ⟨a, b, rfl⟩ := level_two ht
      obtain ⟨p, x, y, rfl, q, ha, hb⟩ := dp_two hd
      refine iteF ?_
      -- levels, boost = rule
      refine ⟨_, rfl, p, _, rfl, q, rfl, _, _, rfl, _, _, rfl, rfl, ?_⟩
      refine ⟨_, rfl, x, _, _, _, _, rfl, .ty "tuple", dp_ty ha, kit_tup ha, _, rfl, ?_⟩
      cases hta : isTupD a with
      | false =>
        refine iteT ?_
        refine iteT ?_
        exact raise_go fun dx H2 s1 _ hx => kE 0 (place_tup hta) dx H2 s1 hx
      | true =>
        obtain ⟨ls, rfl⟩ : ∃ ls, a = .tuple ls := by
          cases a with
          | tuple ls => exact ⟨ls, rfl⟩
          | _ => cases hta
        obtain ⟨pl, xs, rfl, ql, rl⟩ := dp_tuple ha
        have ll := dps_len rl
        refine iteF ?_
        -- 1 <= len(levels) <= 6
        refine ⟨_, rfl, pl, xs, rfl, .inr ql, _, _, rfl, rfl, _, rfl, ?_⟩
        have small : rulePlace (.tuple [.tuple ls, b]) = some 0 ∨ (1 ≤ ls.length ∧ ls.length ≤ 6) := by
          by_cases z : 1 ≤ ls.length ∧ ls.length ≤ 6
          · exact .inr z
          · refine .inl ?_
            simp only [rulePlace]
            rw [if_neg z]
        have noSmall : ¬ (1 ≤ ls.length ∧ ls.length ≤ 6) → rulePlace (.tuple [.tuple ls, b]) = some 0 := fun z => by
          rcases small with h | h
          · exact h
          · exact absurd h z
        have loop : ∀ H1 : Hp, 1 ≤ ls.length → ls.length ≤ 6 → True := fun _ _ _ => trivial
        refine ite2 (fun z1 => ?_) (fun z1 => ?_)
        case refine_2 =>
          have n1 : ¬ (1 ≤ ls.length) := fun y => z1 (decide_eq_true (by omega))
          refine ⟨_, rfl, iteT ?_⟩
          exact raise_go fun dx H2 s1 _ hx => kE 0 (noSmall fun y => n1 y.1) dx H2 s1 hx
        refine ⟨_, _, rfl, rfl, _, rfl, ?_⟩
        by_cases n6 : ls.length ≤ 6
        case neg =>
          rw [decide_eq_false (show ¬ ((xs.length : Nat) : Int) ≤ 6 by omega)]
          refine iteT ?_
          exact raise_go fun dx H2 s1 _ hx => kE 0 (noSmall fun y => n6 y.2) dx H2 s1 hx
        rw [decide_eq_true (show ((xs.length : Nat) : Int) ≤ 6 by omega)]
        refine iteF ?_
        have n1 : 1 ≤ ls.length := by
          have z := of_decide_eq_true z1
          omega
        -- for place, level in enumerate(levels)
        refine ⟨_, rfl, pl, xs, rfl, ql, for_it (walk_enumT (K := K) (a := pl) (xs := xs)) (fun i σ H' => ∃ (u1 u2 : Option V), σ = [some (.ref p), some (.ref pl), some y, u1, u2] ∧ Same H H' ∧ ∀ j < i, ∀ e, ls[j]? = some e → levelD e = true)
          ⟨none, none, rfl, Same.refl H, fun j hj => absurd hj (Nat.not_lt_zero _)⟩ (fun i σ H' _ ⟨_, _, _, s1, _⟩ => same_seqT s1 ql) ?_ ?_⟩
        · rintro i v1 σ H1 H2 hi ⟨u1, u2, rfl, s1, okl⟩ ⟨TT, x1, y1, rfl, nT, rfl, ex, ey⟩
          cases ex
          obtain ⟨d1, hd1, dp1⟩ := dps_getV rl ey
          have s2 := s1.trans (same_new (o := .tup [V.int (i : Nat), y1]) nT)
          refine ⟨TT, _, rfl, SqT.of upd_same, rfl, _, _, rfl, _, _, rfl, rfl, ?_⟩
          have hh : headD d1 = true := List.all_eq_true.mp gh d1 (List.mem_of_getElem? hd1)
          refine ⟨_, rfl, y1, d1, rfl, dp_same s2 dp1, hh, fun H3 s3 => ⟨_, rfl, ?_⟩⟩
          cases hl : levelD d1 with
          | true =>
            refine iteF ?_
            refine ⟨_, _, rfl, s2.trans s3, fun j hj e he => ?_⟩
            by_cases z : j = i
            · subst z
              rw [hd1] at he
              cases he
              exact hl
            · exact okl j (by omega) e he
          | false =>
            refine iteT ⟨_, rfl, ?_⟩
            refine raise_go fun dx H4 s4 _ hx => kE (i : Int) ?_ dx H4 ((s2.trans s3).trans s4) hx
            simp only [rulePlace]
            rw [if_pos ⟨n1, n6⟩, bad_at hd1 hl okl]
        · rintro σ H1 ⟨u1, u2, rfl, s1, okl⟩
          have none1 := bad_no (ls := ls) (fun j hj => okl j (by omega))
          have pl1 : rulePlace (.tuple [.tuple ls, b]) = if countD b = true then none else some (ls.length : Int) := by
            simp only [rulePlace]
            rw [if_pos ⟨n1, n6⟩, none1]
          refine ⟨_, rfl, y, b, rfl, dp_same s1 hb, _, rfl, ?_⟩
          cases hc : countD b with
          | true =>
            rw [hc] at pl1
            exact iteF (kN pl1 _ s1)
          | false =>
            rw [hc] at pl1
            refine iteT ⟨_, rfl, pl, xs, rfl, .inr (same_seqT s1 ql), ?_⟩
            refine raise_go fun dx H4 s4 _ hx => kE (ls.length : Int) pl1 dx H4 (s1.trans s4) ?_
            rw [← ll]
            exact hx
end
end Vk
set_option maxHeartbeats 4000000
/-! f(a, b, k = c) of a def with one keyword-only parameter, also where what it raises is caught -/
namespace Vk
open PySem PySem.Spec PyProof.Rows L2
/-- a def of the module's top with one keyword-only parameter, its default dv -/
structure DfK (K : PySem.W.Frag) (mg : Str → Option Value) (x : Str) (st : Stmt) (ps : List Str) (kn : Str) (dv : V) : Prop where
  ex : ∃ f fd, mg x = some (.ref f) ∧ FunD K x x (defArgs st) (defBody st) (defScope st) [] [(kn, dv)] f fd ∧ KBn K fd (ps ++ [kn]) ps.length [kn] (fun us ws => us ++ ws) (fun vs zs => vs ++ zs) ∧ ∃ ds, Vals [dv] ds ∧ Binds K fd (ps ++ [kn]) ds
/-- its promise -/
structure ClK (P : Program) (w : World) (K : PySem.W.Frag) (mg : Str → Option Value) (base : Heap) (CX : CXT) (k : Nat) (x : Str) (ps : List Str) (kn : Str) (dv : V) (sp : Sp) : Prop where
  ex : ∃ f fd, mg x = some (.ref f) ∧ PySem.W.keepIn K (.ref f) = true ∧ KBn K fd (ps ++ [kn]) ps.length [kn] (fun us ws => us ++ ws) (fun vs zs => vs ++ zs) ∧ (∃ ds, Vals [dv] ds ∧ Binds K fd (ps ++ [kn]) ds) ∧ FnOk P w K mg base CX k f fd (ps ++ [kn]) sp
section
variable {P : Program} {w : World} {K : PySem.W.Frag} {mg : Str → Option Value} {base : Heap}
theorem clK {CX : CXT} {x kn : Str} {st : Stmt} {N ps : List Str} {k : Nat} {dv : V} {sp : Sp} (D : DfK K mg x st ps kn dv) (S : FnScope N (ps ++ [kn]) (defScope st)) (len : ∀ vs H Q E, sp vs H Q E → vs.length = (ps ++ [kn]).length)
    (body : ∀ (f : Addr) (cdv : Value) (A : Around) (outer : List Env) (s : Shared) (H : Hp) (vs : List V) (Q : VK) (E : XK), Room k (A.deeper (envOfC x (defScope st) s.heap.objs.size f cdv)) → sp vs H Q E →
      ∃ t, PSs (cxOf CX P w K mg base N x (defScope st) f cdv A outer s H E) (defBody st) t ∧ t { nx := fun _ H' => Q .non H', rt := Q } (start N vs) H) : ClK P w K mg base CX (k + 1) x ps kn dv sp := by
  obtain ⟨f, fd, hm, F, kb, db⟩ := D.ex
  exact ⟨f, fd, hm, F.kp, kb, db, F.ok S len (body f)⟩
/-- binding, from the def as it stands -/
theorem dfk_mk {x kn : Str} {st : Stmt} {f D : Addr} {oc doc pm cdv ct : Value} {od an : Option Addr} {osl : Array (Option Value)} {dv : V} {u : Value} (m : mg x = some (.ref f))
    (l : K.lookup f = some ⟨oc, od, .func (PySem.W.fnOf x x (defArgs st) (defBody st) (defScope st) .none (.ref D) doc pm an cdv ct), osl⟩) (c : PySem.W.codeIn K cdv x = true) (kp : PySem.W.keepIn K (.ref f) = true) (n : PySem.W.nsIn K D kn = some (some u)) (r : RelV dv u) {p1 p2 : Str}
    (hb : ∀ (doc pm : Value) (an : Option Addr) (cdv ct a b z : Value), bindArgs (PySem.W.fnOf x x (defArgs st) (defBody st) (defScope st) .none (.ref D) doc pm an cdv ct) ⟨[a, b], [(kn, z)]⟩ = pure [(p1, a), (p2, b), (kn, z)])
    (hd : ∀ (doc pm : Value) (an : Option Addr) (cdv ct a b z : Value), KwChain D [(kn, z)] (bindArgs (PySem.W.fnOf x x (defArgs st) (defBody st) (defScope st) .none (.ref D) doc pm an cdv ct) ⟨[a, b], []⟩) [(p1, a), (p2, b), (kn, z)]) : DfK K mg x st [p1, p2] kn dv := by
  have F : FunD K x x (defArgs st) (defBody st) (defScope st) [] [(kn, dv)] f (PySem.W.fnOf x x (defArgs st) (defBody st) (defScope st) .none (.ref D) doc pm an cdv ct) :=
    ⟨⟨oc, od, .none, .ref D, doc, pm, an, cdv, ct, osl, rfl, l, c, .inl ⟨rfl, rfl⟩, .inr ⟨D, rfl, fun q hq => by
      rw [List.mem_singleton.mp hq]
      exact ⟨u, n, r⟩⟩⟩, kp⟩
  refine ⟨f, _, m, F, ⟨fun s us ws X l1 l2 => ?_, fun r1 r2 => r1.append r2⟩, [u], .cons r .nil, fun s us X hl => ?_⟩
  · match us, ws, l1, l2 with
    | [a, b], [z], _, _ => exact .of_eq (hb doc pm an cdv ct a b z)
  · have two : us.length = 2 := by
      rw [List.length_append] at hl
      simp only [List.length_cons, List.length_nil, List.length_append] at hl
      omega
    match us, two with
    | [a, b], _ =>
      refine BindsTo.of_looks fun M => KwChain.looks X (fun q hq => ?_) (hd doc pm an cdv ct a b u)
      rw [List.mem_singleton.mp hq]
      exact n
end
/-- the call with a keyword, where W takes what is raised -/
def tCallK (sp : Sp) (ex : L2.St → XK) (n : Nat) (t tk : TA) : TE := fun σ H Q => t σ H fun vs H1 => tk σ H1 fun zs H2 => vs.length = n ∧ zs.length = 1 ∧ sp (vs ++ zs) H2 Q (ex σ)
section
variable {X : Cx} {CX : CXT} {k n : Nat} {fa : Addr} {fdat : FuncData} {names : List Str} {kn : Str} {sp : Sp} {ex : L2.St → XK} {x : Str} {p pos : Pos} {e1 : Expr} {es1 : List Expr} {kws1 : List Keyword} {ta1 tk1 : TA}
theorem pe_callK (fn : FnOk X.prog X.w X.K X.mg X.base CX k fa fdat names sp) (room : Room k X.A) (gx : Gl X x) (mx : X.mg x = some (.ref fa)) (kx : PySem.W.keepIn X.K (.ref fa) = true) (kb : KBn X.K fdat names n [kn] (fun us ws => us ++ ws) (fun vs zs => vs ++ zs)) (px : ∀ σ, PassesAt CX X σ (ex σ))
    (args : PA X (e1 :: es1) ta1) (kargs : PK X kws1 tk1) (all1 : (backToKw pos (keywordEach kws1 X.env)).all (·.1.isSome) = true := by rfl) (names1 : (backToKw pos (keywordEach kws1 X.env)).filterMap (·.1) = [kn] := by rfl)
    (nodebug : (x == ("__debug__" : Str)) = false := by decide) (first1 : starEach (e1 :: es1) X.env = (false, eval e1 X.env) :: starEach es1 X.env := by rfl)
    (plain1 : ((backTo pos (starEach (e1 :: es1) X.env)).any (·.1) || (backToKw pos (keywordEach kws1 X.env)).any (·.1.isNone)) = false := by rfl) :
    PE X (.Call (.Name x p) (e1 :: es1) kws1 pos) (tCallK sp ex n ta1 tk1) := ⟨fun pins s σ H Q I h => by
  refine wpAny_Call_Name_kw (ld_glob I gx mx ?_ nodebug)
  refine PySem.W.callWith_KW (h₀ := X.base) I.ok.mod.kin kx all1 (thn (args.run pos pins s σ H _ I h) fun us s1 got => ?_) plain1 first1
  obtain ⟨vs, H1, I1, rv, q⟩ := got
  refine thn (kargs.run pos pins s1 σ H1 _ I1 q) fun ws s2 got2 => ?_
  obtain ⟨zs, H2, I2, rz, n1, n2, q2⟩ := got2
  refine ⟨I2.kIn, ?_⟩
  rw [names1]
  have len1 : us.length = n := rv.length.symm.trans n1
  have len2 : ws.length = [kn].length := rz.length.symm.trans n2
  refine wpAny_call (codeAny_mono (fn.run X.A X.stack s2 H2 ⟨us, [kn].zip ws⟩ (us ++ ws) (vs ++ zs) Q (ex σ) room I2.env0 (kb.to s2 us ws I2.kIn len1 len2) (kb.rel rv rz) q2) fun res s3 hq => ?_)
  match res, hq with
  | .error er, hq => exact px σ pins H2 s2 er s3 I2 hq
  | .ok (.ret u), hq => exact I2.after hq
  | .ok .next, hq => exact False.elim hq
  | .ok .brk, hq => exact False.elim hq
  | .ok .cont, hq => exact False.elim hq⟩
end
end Vk
set_option maxHeartbeats 4000000
/-! f(a, b, k = c, ..) of a def with some keyword-only parameters: the keywords ks are written, the others by default; what is raised goes to W -/
namespace Vk
open PySem PySem.Spec PyProof.Rows L2
/-- a def of the module's top, called with n positional values and the keywords ks; gV: the values of its parameters ps -/
structure DfM (K : PySem.W.Frag) (mg : Str → Option Value) (x : Str) (st : Stmt) (ps : List Str) (n : Nat) (ks : List Str) (gV : List V → List V → List V) : Prop where
  ex : ∃ f fd kws g, mg x = some (.ref f) ∧ FunD K x x (defArgs st) (defBody st) (defScope st) [] kws f fd ∧ KBn K fd ps n ks g gV
structure ClM (P : Program) (w : World) (K : PySem.W.Frag) (mg : Str → Option Value) (base : Heap) (CX : CXT) (k : Nat) (x : Str) (ps : List Str) (n : Nat) (ks : List Str) (gV : List V → List V → List V) (sp : Sp) : Prop where
  ex : ∃ f fd g, mg x = some (.ref f) ∧ PySem.W.keepIn K (.ref f) = true ∧ KBn K fd ps n ks g gV ∧ FnOk P w K mg base CX k f fd ps sp
section
variable {P : Program} {w : World} {K : PySem.W.Frag} {mg : Str → Option Value} {base : Heap}
theorem clM {CX : CXT} {x : Str} {st : Stmt} {N ps ks : List Str} {n k : Nat} {gV : List V → List V → List V} {sp : Sp} (D : DfM K mg x st ps n ks gV) (S : FnScope N ps (defScope st)) (len : ∀ vs H Q E, sp vs H Q E → vs.length = ps.length)
    (body : ∀ (f : Addr) (cdv : Value) (A : Around) (outer : List Env) (s : Shared) (H : Hp) (vs : List V) (Q : VK) (E : XK), Room k (A.deeper (envOfC x (defScope st) s.heap.objs.size f cdv)) → sp vs H Q E →
      ∃ t, PSs (cxOf CX P w K mg base N x (defScope st) f cdv A outer s H E) (defBody st) t ∧ t { nx := fun _ H' => Q .non H', rt := Q } (start N vs) H) : ClM P w K mg base CX (k + 1) x ps n ks gV sp := by
  obtain ⟨f, fd, kws, g, hm, F, kb⟩ := D.ex
  exact ⟨f, fd, g, hm, F.kp, kb, F.ok S len (body f)⟩
/-- both promises of one def -/
theorem fn_or {CX : CXT} {k : Nat} {f : Addr} {fd : FuncData} {ps : List Str} {sp1 sp2 : Sp} (F1 : FnOk P w K mg base CX k f fd ps sp1) (F2 : FnOk P w K mg base CX k f fd ps sp2) : FnOk P w K mg base CX k f fd ps (fun vs H Q E => sp1 vs H Q E ∨ sp2 vs H Q E) :=
  ⟨fun vs H Q E h => h.elim (F1.len vs H Q E) (F2.len vs H Q E), fun A outer s H args us vs Q E hr he hb hv hs => hs.elim (F1.run A outer s H args us vs Q E hr he hb hv) (F2.run A outer s H args us vs Q E hr he hb hv)⟩
end
def tCallM (sp : Sp) (ex : L2.St → XK) (n m : Nat) (gV : List V → List V → List V) (t tk : TA) : TE := fun σ H Q => t σ H fun vs H1 => tk σ H1 fun zs H2 => vs.length = n ∧ zs.length = m ∧ sp (gV vs zs) H2 Q (ex σ)
section
variable {X : Cx} {CX : CXT} {k n : Nat} {fa : Addr} {fdat : FuncData} {names ks : List Str} {sp : Sp} {ex : L2.St → XK} {x : Str} {p pos : Pos} {e1 : Expr} {es1 : List Expr} {kws1 : List Keyword} {ta1 tk1 : TA} {g : List Value → List Value → List Value} {gV : List V → List V → List V}
theorem pe_callM (fn : FnOk X.prog X.w X.K X.mg X.base CX k fa fdat names sp) (room : Room k X.A) (gx : Gl X x) (mx : X.mg x = some (.ref fa)) (kx : PySem.W.keepIn X.K (.ref fa) = true) (kb : KBn X.K fdat names n ks g gV) (px : ∀ σ, PassesAt CX X σ (ex σ))
    (args : PA X (e1 :: es1) ta1) (kargs : PK X kws1 tk1) (all1 : (backToKw pos (keywordEach kws1 X.env)).all (·.1.isSome) = true := by rfl) (names1 : (backToKw pos (keywordEach kws1 X.env)).filterMap (·.1) = ks := by rfl)
    (nodebug : (x == ("__debug__" : Str)) = false := by decide) (first1 : starEach (e1 :: es1) X.env = (false, eval e1 X.env) :: starEach es1 X.env := by rfl)
    (plain1 : ((backTo pos (starEach (e1 :: es1) X.env)).any (·.1) || (backToKw pos (keywordEach kws1 X.env)).any (·.1.isNone)) = false := by rfl) :
    PE X (.Call (.Name x p) (e1 :: es1) kws1 pos) (tCallM sp ex n ks.length gV ta1 tk1) := ⟨fun pins s σ H Q I h => by
  refine wpAny_Call_Name_kw (ld_glob I gx mx ?_ nodebug)
  refine PySem.W.callWith_KW (h₀ := X.base) I.ok.mod.kin kx all1 (thn (args.run pos pins s σ H _ I h) fun us s1 got => ?_) plain1 first1
  obtain ⟨vs, H1, I1, rv, q⟩ := got
  refine thn (kargs.run pos pins s1 σ H1 _ I1 q) fun ws s2 got2 => ?_
  obtain ⟨zs, H2, I2, rz, n1, n2, q2⟩ := got2
  refine ⟨I2.kIn, ?_⟩
  rw [names1]
  have len1 : us.length = n := rv.length.symm.trans n1
  have len2 : ws.length = ks.length := rz.length.symm.trans n2
  refine wpAny_call (codeAny_mono (fn.run X.A X.stack s2 H2 ⟨us, ks.zip ws⟩ (g us ws) (gV vs zs) Q (ex σ) room I2.env0 (kb.to s2 us ws I2.kIn len1 len2) (kb.rel rv rz) q2) fun res s3 hq => ?_)
  match res, hq with
  | .error er, hq => exact px σ pins H2 s2 er s3 I2 hq
  | .ok (.ret u), hq => exact I2.after hq
  | .ok .next, hq => exact False.elim hq
  | .ok .brk, hq => exact False.elim hq
  | .ok .cont, hq => exact False.elim hq⟩
/-- what is never reached -/
theorem pe_dead {e : Expr} : PE X e (fun _ _ _ => False) := ⟨fun _ _ _ _ _ _ h => h.elim⟩
theorem pss_dead {ss : List Stmt} : PSs X ss (fun _ _ _ => False) := ⟨fun _ _ _ _ _ _ h => h.elim⟩
theorem pt_dead {e : Expr} : PT X e (fun _ _ _ => False) := ⟨fun _ _ _ _ _ _ h => h.elim⟩
end
end Vk
set_option maxHeartbeats 4000000
namespace Vk
open PySem PySem.Spec PyProof.Rows L2
abbrev sMarksInit : Stmt := inClass (top 11) 0
abbrev sNamedInit : Stmt := inClass (top 12) 0
abbrev sNumberInit : Stmt := inClass (top 15) 0
section
variable {P : Program} {w : World} {K : PySem.W.Frag} {mg : Str → Option Value} {base : Heap}
theorem scMarksInit : FnScope ["self", "place"] ["self", "place"] (defScope sMarksInit) := ⟨rfl, rfl, rfl, by decide +kernel, rfl, by decide +kernel, by decide +kernel⟩
theorem ok_marksInit {C fI : Addr} {fd : FuncData} (F : Fun K "__init__" "NoMarks.__init__" sMarksInit fI fd) (T : OexC K C) (no : PySem.W.findIn K (.ref C) "place" = some none) : FnOk P w K mg base CX0 1 fI fd ["self", "place"] (spIni C "place") := by
  refine F.ok scMarksInit (fun vs H Q E h => ?_) (fun cdv A outer s H vs Q E hr h => ?_)
  · obtain ⟨a, v, rfl, _⟩ := h
    rfl
  · obtain ⟨a, v, rfl, ha, k⟩ := h
    refine ⟨_, pss_one (ps_ost (pv 0) (pv 1)), ?_⟩
    exact ⟨_, rfl, _, rfl, a, C, rfl, T, no, .inl ⟨ha, fun dx n1 n2 => k dx n1 n2⟩⟩
theorem erc_marks {C : Addr} (g : mg "NoMarks" = some (.ref C)) (T : OexC K C) (no : PySem.W.findIn K (.ref C) "place" = some none) (N : Nit K "NoMarks" "NoMarks.__init__" "place" sMarksInit C) : ErC P w K mg base "NoMarks" "place" C := by
  obtain ⟨fI, fd, h1, h2, h3, h4⟩ := N.ex
  exact ⟨g, T, fI, fd, h1, h2, h4, ok_marksInit h3 T no⟩
theorem scNamedInit : FnScope ["self", "place"] ["self", "place"] (defScope sNamedInit) := ⟨rfl, rfl, rfl, by decide +kernel, rfl, by decide +kernel, by decide +kernel⟩
theorem ok_namedInit {C fI : Addr} {fd : FuncData} (F : Fun K "__init__" "NoNamed.__init__" sNamedInit fI fd) (T : OexC K C) (no : PySem.W.findIn K (.ref C) "place" = some none) : FnOk P w K mg base CX0 1 fI fd ["self", "place"] (spIni C "place") := by
  refine F.ok scNamedInit (fun vs H Q E h => ?_) (fun cdv A outer s H vs Q E hr h => ?_)
  · obtain ⟨a, v, rfl, _⟩ := h
    rfl
  · obtain ⟨a, v, rfl, ha, k⟩ := h
    refine ⟨_, pss_one (ps_ost (pv 0) (pv 1)), ?_⟩
    exact ⟨_, rfl, _, rfl, a, C, rfl, T, no, .inl ⟨ha, fun dx n1 n2 => k dx n1 n2⟩⟩
theorem erc_named {C : Addr} (g : mg "NoNamed" = some (.ref C)) (T : OexC K C) (no : PySem.W.findIn K (.ref C) "place" = some none) (N : Nit K "NoNamed" "NoNamed.__init__" "place" sNamedInit C) : ErC P w K mg base "NoNamed" "place" C := by
  obtain ⟨fI, fd, h1, h2, h3, h4⟩ := N.ex
  exact ⟨g, T, fI, fd, h1, h2, h4, ok_namedInit h3 T no⟩
theorem scNumberInit : FnScope ["self", "number"] ["self", "number"] (defScope sNumberInit) := ⟨rfl, rfl, rfl, by decide +kernel, rfl, by decide +kernel, by decide +kernel⟩
theorem ok_numberInit {C fI : Addr} {fd : FuncData} (F : Fun K "__init__" "NoNumber.__init__" sNumberInit fI fd) (T : OexC K C) (no : PySem.W.findIn K (.ref C) "number" = some none) : FnOk P w K mg base CX0 1 fI fd ["self", "number"] (spIni C "number") := by
  refine F.ok scNumberInit (fun vs H Q E h => ?_) (fun cdv A outer s H vs Q E hr h => ?_)
  · obtain ⟨a, v, rfl, _⟩ := h
    rfl
  · obtain ⟨a, v, rfl, ha, k⟩ := h
    refine ⟨_, pss_one (ps_ost (pv 0) (pv 1)), ?_⟩
    exact ⟨_, rfl, _, rfl, a, C, rfl, T, no, .inl ⟨ha, fun dx n1 n2 => k dx n1 n2⟩⟩
theorem erc_number {C : Addr} (g : mg "NoNumber" = some (.ref C)) (T : OexC K C) (no : PySem.W.findIn K (.ref C) "number" = some none) (N : Nit K "NoNumber" "NoNumber.__init__" "number" sNumberInit C) : ErC P w K mg base "NoNumber" "number" C := by
  obtain ⟨fI, fd, h1, h2, h3, h4⟩ := N.ex
  exact ⟨g, T, fI, fd, h1, h2, h4, ok_numberInit h3 T no⟩
end
end Vk
set_option maxHeartbeats 4000000
/-! the first error that is due: the number of its class and its place -/
namespace Vk
open PySem PySem.Spec PyProof.Rows L2
abbrev Due := Nat × Int
def orD (a b : Option Due) : Option Due := match a with
  | some x => some x
  | none => b
def tagD (i : Nat) (o : Option Int) : Option Due := o.map fun p => (i, p)
theorem due_or {i : Nat} {o : Option Int} {b : Option Due} {x : Due} (h : orD (tagD i o) b = some x) : (∀ p, o = some p → x = (i, p)) ∧ (o = none → b = some x) := by
  cases o with
  | none => exact ⟨fun p e => (nomatch e), fun _ => h⟩
  | some p => exact ⟨fun q e => (Option.some.inj e) ▸ (Option.some.inj h).symm, fun e => (nomatch e)⟩
def fldOf : Nat → Str
  | 8 => "number"
  | _ => "place"
def wordOf : Nat → Str
  | 0 => "jobs" | 1 => "rule" | 2 => "lengths" | 3 => "log" | 4 => "marks" | 5 => "named" | 6 => "order" | 7 => "text" | 8 => "number" | _ => ""
/-- what is raised: the class with this number, with this place -/
def Er (cl : Nat → Addr) (E : XK) (x : Due) (H : Hp) : Prop := ∀ (dx : Addr) (H' : Hp), Same H H' → H' dx = some (.xd [(fldOf x.1, .int x.2)]) → E (.ref (cl x.1)) (some dx) H'
theorem Er.same {cl : Nat → Addr} {E : XK} {x : Due} {H H1 : Hp} (h : Er cl E x H) (s : Same H H1) : Er cl E x H1 := fun dx H' s' hx => h dx H' (s.trans s') hx
/-- the error that is due of a call -/
def dueW (way : Nat) (dj dl r1 r2 : PyData) : Option Due := match way with
  | 0 => orD (tagD 0 (jobsPlace dj)) (orD (tagD 3 (logPlace dl)) none)
  | 1 => orD (tagD 0 (jobsPlace dj)) (orD (tagD 3 (logPlace dl)) none)
  | 2 => orD (tagD 0 (jobsPlace dj)) (orD (tagD 3 (logPlace dl)) none)
  | 3 => orD (tagD 0 (jobsPlace dj)) (orD (tagD 1 (rulePlace r1)) (orD (tagD 3 (logPlace dl)) (some (8, -1))))
  | 4 => orD (tagD 0 (jobsPlace dj)) (orD (tagD 1 (rulePlace r1)) (some (4, 0)))
  | 5 => orD (tagD 0 (jobsPlace dj)) (orD (tagD 1 (rulePlace r1)) (some (5, 0)))
  | _ => orD (tagD 0 (jobsPlace dj)) (orD (tagD 1 (rulePlace r1)) (orD (tagD 1 (rulePlace r2)) (some (4, 0))))
end Vk
set_option maxHeartbeats 4000000
namespace Vk
open PySem PySem.Spec PyProof.Rows L2 GxR
theorem passE0 {X : Cx} : Passes (L2.CX X.prog X.w) X E0 := fun _ _ _ _ _ _ _ ⟨_, _, _, _, _, _, _, _, _, _, _, _, h⟩ => False.elim h
section
variable {P : Program} {w : World} {K : PySem.W.Frag} {mg : Str → Option Value} {base : Heap}
theorem cl_dead {CX : CXT} {k : Nat} {x : Str} {st : Stmt} {ps : List Str} (D : Df K mg x st ps) : Cl P w K mg base CX k x ps (fun _ _ _ _ => False) := by
  obtain ⟨f, fd, hm, F, b⟩ := D.ex
  exact ⟨f, fd, hm, F.kp, b, ⟨fun _ _ _ _ h => h.elim, fun _ _ _ _ _ _ _ _ _ _ _ _ _ h => h.elim⟩⟩
/-- jobs and a log, of which one is not of the form -/
def spPr (K : PySem.W.Frag) (T : Addr) (cl : Nat → Addr) : Sp := fun vs H Q E => ∃ (v u : V) (dj dl : PyData) (x : Due), vs = [v, u] ∧ Dp K H v dj ∧ niceJobs dj ∧ TabG H T ∧ Dp K H u dl ∧ lenLog dl ≤ 50000 ∧ orD (tagD 0 (jobsPlace dj)) (orD (tagD 3 (logPlace dl)) none) = some x ∧ Er cl E x H
def spFF (K : PySem.W.Frag) (T : Addr) (cl : Nat → Addr) : Sp := fun vs H Q E => ∃ (v u : V) (dj dl : PyData) (x : Due) (c : Int), vs = [v, u, .int c] ∧ Dp K H v dj ∧ niceJobs dj ∧ TabG H T ∧ Dp K H u dl ∧ lenLog dl ≤ 50000 ∧ orD (tagD 0 (jobsPlace dj)) (orD (tagD 3 (logPlace dl)) none) = some x ∧ Er cl E x H
theorem scPr : FnScope ["jobs", "log", "last", "moments", "starts", "ends", "job", "unit", "_", "moment", "start", "end"] ["jobs", "log"] (defScope sPresence) := ⟨rfl, rfl, rfl, by decide +kernel, rfl, by decide +kernel, by decide +kernel⟩
theorem ok_pr {T : Addr} {cl : Nat → Addr} (D : Df K mg "presence" sPresence ["jobs", "log"]) (CJ : Cl P w K mg base (L2.CX P w) 5 "check_jobs" ["jobs"] (spCheck K T (cl 0))) (CL : Cl P w K mg base (L2.CX P w) 3 "check_log" ["log"] (spCheckLog K (cl 3))) : Cl P w K mg base (L2.CX P w) 6 "presence" ["jobs", "log"] (spPr K T cl) := by
  refine clX D scPr (fun vs H Q E h => ?_) (fun f cdv A outer s H vs Q E hr h => ?_)
  · obtain ⟨v, u, dj, dl, x, rfl, _⟩ := h
    rfl
  · obtain ⟨v, u, dj, dl, x, rfl, hd, nj, tg, hu, ll, hx, er⟩ := h
    obtain ⟨fJ, fdJ, mJ, kpJ, bJ, FJ⟩ := CJ.ex
    obtain ⟨fL, fdL, mL, kpL, bL, FL⟩ := CL.ex
    refine ⟨_, pss_cons (ps_expr (pe_call (E := E) FJ (hr.mono (by decide)) rfl mJ kpJ bJ .nil (passes_call (W := fun cls d _ H => E cls d H) (takes_of rfl rfl rfl rfl) (fun _ _ _ _ h => h)) (pa_cons (pv 0) pa_nil))) (pss_cons (ps_expr (pe_call (E := E) FL (hr.mono (by decide)) rfl mL kpL bL .nil (passes_call (W := fun cls d _ H => E cls d H) (takes_of rfl rfl rfl rfl) (fun _ _ _ _ h => h)) (pa_cons (pv 1) pa_nil))) pss_dead), ?_⟩
    obtain ⟨x1, x2⟩ := due_or hx
    refine ⟨_, rfl, v, dj, rfl, hd, nj, tg, fun ej H1 s1 => ?_, fun p e dx H2 s2 hh => ?_⟩
    · obtain ⟨y1, y2⟩ := due_or (x2 ej)
      refine ⟨_, rfl, u, dl, rfl, dp_same s1 hu, ll, fun el => absurd (y2 el) (fun z => nomatch z), fun p e dx H2 s2 hh => ?_⟩
      have z := y1 p e
      subst z
      exact er dx H2 (s1.trans s2) hh
    · have z := x1 p e
      subst z
      exact er dx H2 s2 hh
theorem scFF : FnScope ["jobs", "log", "processors", "finished", "unit", "finishes", "running"] ([("jobs" : Str), "log"] ++ [("processors" : Str)]) (defScope sFirst) := ⟨rfl, rfl, rfl, by decide +kernel, rfl, by decide +kernel, by decide +kernel⟩
theorem ok_ff {T : Addr} {cl : Nat → Addr} (D : DfK K mg "first_fault" sFirst ["jobs", "log"] "processors" (.int 1)) (CJ : Cl P w K mg base (L2.CX P w) 5 "check_jobs" ["jobs"] (spCheck K T (cl 0))) (CL : Cl P w K mg base (L2.CX P w) 3 "check_log" ["log"] (spCheckLog K (cl 3))) : ClK P w K mg base (L2.CX P w) 6 "first_fault" ["jobs", "log"] "processors" (.int 1) (spFF K T cl) := by
  refine clK D scFF (fun vs H Q E h => ?_) (fun f cdv A outer s H vs Q E hr h => ?_)
  · obtain ⟨v, u, dj, dl, x, c, rfl, _⟩ := h
    rfl
  · obtain ⟨v, u, dj, dl, x, c, rfl, hd, nj, tg, hu, ll, hx, er⟩ := h
    obtain ⟨fJ, fdJ, mJ, kpJ, bJ, FJ⟩ := CJ.ex
    obtain ⟨fL, fdL, mL, kpL, bL, FL⟩ := CL.ex
    refine ⟨_, pss_cons (ps_expr (pe_call (E := E) FJ (hr.mono (by decide)) rfl mJ kpJ bJ .nil (passes_call (W := fun cls d _ H => E cls d H) (takes_of rfl rfl rfl rfl) (fun _ _ _ _ h => h)) (pa_cons (pv 0) pa_nil))) (pss_cons (ps_expr (pe_call (E := E) FL (hr.mono (by decide)) rfl mL kpL bL .nil (passes_call (W := fun cls d _ H => E cls d H) (takes_of rfl rfl rfl rfl) (fun _ _ _ _ h => h)) (pa_cons (pv 1) pa_nil))) pss_dead), ?_⟩
    obtain ⟨x1, x2⟩ := due_or hx
    refine ⟨_, rfl, v, dj, rfl, hd, nj, tg, fun ej H1 s1 => ?_, fun p e dx H2 s2 hh => ?_⟩
    · obtain ⟨y1, y2⟩ := due_or (x2 ej)
      refine ⟨_, rfl, u, dl, rfl, dp_same s1 hu, ll, fun el => absurd (y2 el) (fun z => nomatch z), fun p e dx H2 s2 hh => ?_⟩
      have z := y1 p e
      subst z
      exact er dx H2 (s1.trans s2) hh
    · have z := x1 p e
      subst z
      exact er dx H2 s2 hh
theorem scWays : FnScope ["jobs", "log", "processors", "many", "running", "finishes"] ([("jobs" : Str), "log"] ++ [("processors" : Str)]) (defScope sWays) := ⟨rfl, rfl, rfl, by decide +kernel, rfl, by decide +kernel, by decide +kernel⟩
theorem ok_ways {T : Addr} {cl : Nat → Addr} (D : DfK K mg "ways" sWays ["jobs", "log"] "processors" (.int 1)) (FI : ClK P w K mg base (L2.CX P w) 6 "first_fault" ["jobs", "log"] "processors" (.int 1) (spFF K T cl)) : ClK P w K mg base (L2.CX P w) 7 "ways" ["jobs", "log"] "processors" (.int 1) (spFF K T cl) := by
  refine clK D scWays (fun vs H Q E h => ?_) (fun f cdv A outer s H vs Q E hr h => ?_)
  · obtain ⟨v, u, dj, dl, x, c, rfl, _⟩ := h
    rfl
  · obtain ⟨v, u, dj, dl, x, c, rfl, hd, nj, tg, hu, ll, hx, er⟩ := h
    obtain ⟨fF, fdF, mF, kpF, kbF, _, FF⟩ := FI.ex
    refine ⟨_, pss_cons (ps_if (pt_cmpR op_notN (pe_callK (ex := fun _ => E) FF hr rfl mF kpF kbF (fun σ pins H s e s' I h => (passes_call (W := fun cls d _ H => E cls d H) (takes_of rfl rfl rfl rfl) (fun _ _ _ _ h => h)) pins σ H s e s' I h) (pa_cons (pv 0) (pa_cons (pv 1) pa_nil)) (pk_cons (pv 2) pk_nil)) pe_non (nomark _)) pss_dead pss_dead) pss_dead, ?_⟩
    exact ⟨_, rfl, _, rfl, _, rfl, rfl, rfl, v, u, dj, dl, x, c, rfl, hd, nj, tg, hu, ll, hx, er⟩
def sp0 (cl : Nat → Addr) (i : Nat) (H : Hp) (E : XK) : Prop := Er cl E (i, 0) H
def spCM (cl : Nat → Addr) : Sp := fun vs H Q E => ∃ (v : V) (c : Int), vs = [v, .non, .int c] ∧ Er cl E (4, 0) H
theorem scCM : FnScope ["jobs", "marks", "processors", "before", "finished", "place", "pair"] ["jobs", "marks", "processors"] (defScope sCheckMarks) := ⟨rfl, rfl, rfl, by decide +kernel, rfl, by decide +kernel, by decide +kernel⟩
theorem ok_cm {cl : Nat → Addr} (D : Df K mg "check_marks" sCheckMarks ["jobs", "marks", "processors"]) (B : Blt mg) (ER : ErC P w K mg base "NoMarks" "place" (cl 4)) : Cl P w K mg base (L2.CX P w) 3 "check_marks" ["jobs", "marks", "processors"] (spCM cl) := by
  refine clX D scCM (fun vs H Q E h => ?_) (fun f cdv A outer s H vs Q E hr h => ?_)
  · obtain ⟨v, c, rfl, _⟩ := h
    rfl
  · obtain ⟨v, c, rfl, er⟩ := h
    refine ⟨_, pss_cons (ps_if (pt_not (pt_val (pe_callB call_isi (by rfl) B.isi (by decide +kernel) (pa_cons (pv 1) (pa_cons (pe_bltn (v := .ty "tuple") (u := .type "tuple") (by rfl) B.tuple (by decide +kernel) rfl) pa_nil))))) (pss_one (ps_raiseE ER rfl hr (by decide) (takes_of rfl rfl rfl rfl) pe_int)) pss_nil) pss_dead, ?_⟩
    have hn : Dp K H .non .none := .non
    refine ⟨_, rfl, .non, _, _, _, _, rfl, .ty "tuple", dp_ty hn, kit_tup hn, _, rfl, iteT ?_⟩
    exact raise_go fun dx H2 s1 _ hh => er dx H2 s1 hh
def spBN (cl : Nat → Addr) : Sp := fun vs H Q E => ∃ (v r : V) (c : Int), vs = [v, .non, r, .int c] ∧ Er cl E (5, 0) H
theorem scBN : FnScope ["jobs", "named", "rule", "processors", "course", "place", "pair", "unit", "names"] ["jobs", "named", "rule", "processors"] (defScope sByNames) := ⟨rfl, rfl, rfl, by decide +kernel, rfl, by decide +kernel, by decide +kernel⟩
theorem ok_bn {cl : Nat → Addr} (D : Df K mg "course_by_names" sByNames ["jobs", "named", "rule", "processors"]) (B : Blt mg) (ER : ErC P w K mg base "NoNamed" "place" (cl 5)) : Cl P w K mg base (L2.CX P w) 3 "course_by_names" ["jobs", "named", "rule", "processors"] (spBN cl) := by
  refine clX D scBN (fun vs H Q E h => ?_) (fun f cdv A outer s H vs Q E hr h => ?_)
  · obtain ⟨v, r, c, rfl, _⟩ := h
    rfl
  · obtain ⟨v, r, c, rfl, er⟩ := h
    refine ⟨_, pss_cons (ps_if (pt_not (pt_val (pe_callB call_isi (by rfl) B.isi (by decide +kernel) (pa_cons (pv 1) (pa_cons (pe_bltn (v := .ty "tuple") (u := .type "tuple") (by rfl) B.tuple (by decide +kernel) rfl) pa_nil))))) (pss_one (ps_raiseE ER rfl hr (by decide) (takes_of rfl rfl rfl rfl) pe_int)) pss_nil) pss_dead, ?_⟩
    have hn : Dp K H .non .none := .non
    refine ⟨_, rfl, .non, _, _, _, _, rfl, .ty "tuple", dp_ty hn, kit_tup hn, _, rfl, iteT ?_⟩
    exact raise_go fun dx H2 s1 _ hh => er dx H2 s1 hh
def spNth (K : PySem.W.Frag) (T : Addr) (cl : Nat → Addr) : Sp := fun vs H Q E => ∃ (v u r : V) (dj dl d1 : PyData) (x : Due), vs = [v, u, .int (-1), r, .int 1] ∧ Dp K H v dj ∧ niceJobs dj ∧ TabG H T ∧ Dp K H u dl ∧ lenLog dl ≤ 50000 ∧ Dp K H r d1 ∧ goodHeads d1 = true ∧ orD (tagD 0 (jobsPlace dj)) (orD (tagD 1 (rulePlace d1)) (orD (tagD 3 (logPlace dl)) (some (8, -1)))) = some x ∧ Er cl E x H
theorem scNth : FnScope ["jobs", "log", "number", "rule", "processors", "places", "running", "finishes", "choice", "marks", "unit", "_"] ["jobs", "log", "number", "rule", "processors"] (defScope sNth) := ⟨rfl, rfl, rfl, by decide +kernel, rfl, by decide +kernel, by decide +kernel⟩
theorem ok_nth {T : Addr} {cl : Nat → Addr} (D : DfM K mg "nth_lengths" sNth ["jobs", "log", "number", "rule", "processors"] 3 ["rule"] (fun vs zs => vs ++ zs ++ [.int 1])) (CJ : Cl P w K mg base (L2.CX P w) 5 "check_jobs" ["jobs"] (spCheck K T (cl 0))) (CL : Cl P w K mg base (L2.CX P w) 3 "check_log" ["log"] (spCheckLog K (cl 3))) (CR : Cl P w K mg base (L2.CX P w) 4 "check_rule" ["rule"] (spCheckR K (cl 1))) (ER : ErC P w K mg base "NoNumber" "number" (cl 8)) (I : Cl P w K mg base CX0 1 "is_integer" ["value", "least"] (spInteger K)) : ClM P w K mg base (L2.CX P w) 6 "nth_lengths" ["jobs", "log", "number", "rule", "processors"] 3 ["rule"] (fun vs zs => vs ++ zs ++ [.int 1]) (spNth K T cl) := by
  refine clM D scNth (fun vs H Q E h => ?_) (fun f cdv A outer s H vs Q E hr h => ?_)
  · obtain ⟨v, u, r, dj, dl, d1, x, rfl, _⟩ := h
    rfl
  · obtain ⟨v, u, r, dj, dl, d1, x, rfl, hd, nj, tg, hu, ll, h1, g1, hx, er⟩ := h
    obtain ⟨fJ, fdJ, mJ, kpJ, bJ, FJ⟩ := CJ.ex
    obtain ⟨fR, fdR, mR, kpR, bR, FR⟩ := CR.ex
    obtain ⟨fL, fdL, mL, kpL, bL, FL⟩ := CL.ex
    refine ⟨_, pss_cons (ps_expr (pe_call (E := E) FJ (hr.mono (by decide)) rfl mJ kpJ bJ .nil (passes_call (W := fun cls d _ H => E cls d H) (takes_of rfl rfl rfl rfl) (fun _ _ _ _ h => h)) (pa_cons (pv 0) pa_nil))) (pss_cons (ps_expr (pe_call (E := E) FR (hr.mono (by decide)) rfl mR kpR bR .nil (passes_call (W := fun cls d _ H => E cls d H) (takes_of rfl rfl rfl rfl) (fun _ _ _ _ h => h)) (pa_cons (pv 3) pa_nil))) (pss_cons (ps_expr (pe_call (E := E) FL (hr.mono (by decide)) rfl mL kpL bL .nil (passes_call (W := fun cls d _ H => E cls d H) (takes_of rfl rfl rfl rfl) (fun _ _ _ _ h => h)) (pa_cons (pv 1) pa_nil))) (pss_cons (ps_if (PW.pt (pw_or (pt_not (pt_val (pc I hr (by decide) (pa_cons (pv 2) (pa_cons pe_int pa_nil))))) (pw_or1 pt_dead))) (pss_one (ps_raiseE ER rfl hr (by decide) (takes_of rfl rfl rfl rfl) (pv 2))) pss_nil) pss_dead))), ?_⟩
    obtain ⟨x1, x2⟩ := due_or hx
    refine ⟨_, rfl, v, dj, rfl, hd, nj, tg, fun ej H1 s1 => ?_, fun p e dx H2 s2 hh => ?_⟩
    case refine_2 =>
      have z := x1 p e
      subst z
      exact er dx H2 s2 hh
    obtain ⟨y1, y2⟩ := due_or (x2 ej)
    refine ⟨_, rfl, r, d1, rfl, dp_same s1 h1, g1, fun ek H3 s3 => ?_, fun p e dx H2 s2 hh => ?_⟩
    case refine_2 =>
      have z := y1 p e
      subst z
      exact er dx H2 (s1.trans s2) hh
    have s13 := s1.trans s3
    obtain ⟨z1, z2⟩ := due_or (y2 ek)
    refine ⟨_, rfl, u, dl, rfl, dp_same s13 hu, ll, fun el H4 s4 => ?_, fun p e dx H2 s2 hh => ?_⟩
    case refine_2 =>
      have z := z1 p e
      subst z
      exact er dx H2 (s13.trans s2) hh
    have ex := Option.some.inj (z2 el)
    subst ex
    refine ⟨_, rfl, .int (-1), .int (-1), 0, rfl, .int (-1), _, rfl, ?_⟩
    rw [show integerD 0 (.int (-1)) = false by decide +kernel]
    refine iteT (iteT ⟨_, rfl, ?_⟩)
    exact raise_go fun dx H5 s5 _ hh => er dx H5 (s13.trans (s4.trans s5)) hh
def spLO (K : PySem.W.Frag) (T : Addr) (cl : Nat → Addr) : Sp := fun vs H Q E => ∃ (v r : V) (dj d1 : PyData) (x : Due), vs = [v, .non, r, .int 1] ∧ Dp K H v dj ∧ niceJobs dj ∧ TabG H T ∧ Dp K H r d1 ∧ goodHeads d1 = true ∧ orD (tagD 0 (jobsPlace dj)) (orD (tagD 1 (rulePlace d1)) (some (4, 0))) = some x ∧ Er cl E x H
theorem scLO : FnScope ["jobs", "marks", "rule", "processors"] ["jobs", "marks", "rule", "processors"] (defScope sLengthsOf) := ⟨rfl, rfl, rfl, by decide +kernel, rfl, by decide +kernel, by decide +kernel⟩
theorem ok_lo {T : Addr} {cl : Nat → Addr} (D : DfM K mg "lengths_of" sLengthsOf ["jobs", "marks", "rule", "processors"] 2 ["rule"] (fun vs zs => vs ++ zs ++ [.int 1])) (CJ : Cl P w K mg base (L2.CX P w) 5 "check_jobs" ["jobs"] (spCheck K T (cl 0))) (CR : Cl P w K mg base (L2.CX P w) 4 "check_rule" ["rule"] (spCheckR K (cl 1))) (CM : Cl P w K mg base (L2.CX P w) 3 "check_marks" ["jobs", "marks", "processors"] (spCM cl)) : ClM P w K mg base (L2.CX P w) 6 "lengths_of" ["jobs", "marks", "rule", "processors"] 2 ["rule"] (fun vs zs => vs ++ zs ++ [.int 1]) (spLO K T cl) := by
  refine clM D scLO (fun vs H Q E h => ?_) (fun f cdv A outer s H vs Q E hr h => ?_)
  · obtain ⟨v, r, dj, d1, x, rfl, _⟩ := h
    rfl
  · obtain ⟨v, r, dj, d1, x, rfl, hd, nj, tg, h1, g1, hx, er⟩ := h
    obtain ⟨fJ, fdJ, mJ, kpJ, bJ, FJ⟩ := CJ.ex
    obtain ⟨fR, fdR, mR, kpR, bR, FR⟩ := CR.ex
    obtain ⟨fM, fdM, mM, kpM, bM, FM⟩ := CM.ex
    refine ⟨_, pss_cons (ps_expr (pe_call (E := E) FJ (hr.mono (by decide)) rfl mJ kpJ bJ .nil (passes_call (W := fun cls d _ H => E cls d H) (takes_of rfl rfl rfl rfl) (fun _ _ _ _ h => h)) (pa_cons (pv 0) pa_nil))) (pss_cons (ps_expr (pe_call (E := E) FR (hr.mono (by decide)) rfl mR kpR bR .nil (passes_call (W := fun cls d _ H => E cls d H) (takes_of rfl rfl rfl rfl) (fun _ _ _ _ h => h)) (pa_cons (pv 2) pa_nil))) (pss_cons (ps_expr (pe_call (E := E) FM (hr.mono (by decide)) rfl mM kpM bM .nil (passes_call (W := fun cls d _ H => E cls d H) (takes_of rfl rfl rfl rfl) (fun _ _ _ _ h => h)) (pa_cons (pv 0) (pa_cons (pv 1) (pa_cons (pv 3) pa_nil))))) pss_dead)), ?_⟩
    obtain ⟨x1, x2⟩ := due_or hx
    refine ⟨_, rfl, v, dj, rfl, hd, nj, tg, fun ej H1 s1 => ?_, fun p e dx H2 s2 hh => ?_⟩
    case refine_2 =>
      have z := x1 p e
      subst z
      exact er dx H2 s2 hh
    obtain ⟨y1, y2⟩ := due_or (x2 ej)
    refine ⟨_, rfl, r, d1, rfl, dp_same s1 h1, g1, fun ek H3 s3 => ?_, fun p e dx H2 s2 hh => ?_⟩
    case refine_2 =>
      have z := y1 p e
      subst z
      exact er dx H2 (s1.trans s2) hh
    have ex := Option.some.inj (y2 ek)
    subst ex
    exact ⟨_, rfl, _, rfl, _, rfl, v, 1, rfl, er.same (s1.trans s3)⟩
def spLN (K : PySem.W.Frag) (T : Addr) (cl : Nat → Addr) : Sp := fun vs H Q E => ∃ (v r : V) (c : Int) (dj d1 : PyData) (x : Due), vs = [v, .non, r, .int c] ∧ Dp K H v dj ∧ niceJobs dj ∧ TabG H T ∧ Dp K H r d1 ∧ goodHeads d1 = true ∧ orD (tagD 0 (jobsPlace dj)) (orD (tagD 1 (rulePlace d1)) (some (5, 0))) = some x ∧ Er cl E x H
theorem scLN : FnScope ["jobs", "named", "rule", "processors"] ["jobs", "named", "rule", "processors"] (defScope sFromNames) := ⟨rfl, rfl, rfl, by decide +kernel, rfl, by decide +kernel, by decide +kernel⟩
theorem ok_ln {T : Addr} {cl : Nat → Addr} (D : DfM K mg "lengths_from_names" sFromNames ["jobs", "named", "rule", "processors"] 2 ["rule", "processors"] (fun vs zs => vs ++ zs)) (CJ : Cl P w K mg base (L2.CX P w) 5 "check_jobs" ["jobs"] (spCheck K T (cl 0))) (CR : Cl P w K mg base (L2.CX P w) 4 "check_rule" ["rule"] (spCheckR K (cl 1))) (CN : Cl P w K mg base (L2.CX P w) 3 "course_by_names" ["jobs", "named", "rule", "processors"] (spBN cl)) (LI : Cl P w K mg base CX0 1 "lengths_in" ["jobs", "course"] (fun _ _ _ _ => False)) : ClM P w K mg base (L2.CX P w) 6 "lengths_from_names" ["jobs", "named", "rule", "processors"] 2 ["rule", "processors"] (fun vs zs => vs ++ zs) (spLN K T cl) := by
  refine clM D scLN (fun vs H Q E h => ?_) (fun f cdv A outer s H vs Q E hr h => ?_)
  · obtain ⟨v, r, c, dj, d1, x, rfl, _⟩ := h
    rfl
  · obtain ⟨v, r, c, dj, d1, x, rfl, hd, nj, tg, h1, g1, hx, er⟩ := h
    obtain ⟨fJ, fdJ, mJ, kpJ, bJ, FJ⟩ := CJ.ex
    obtain ⟨fR, fdR, mR, kpR, bR, FR⟩ := CR.ex
    obtain ⟨fN, fdN, mN, kpN, bN, FN⟩ := CN.ex
    refine ⟨_, pss_cons (ps_expr (pe_call (E := E) FJ (hr.mono (by decide)) rfl mJ kpJ bJ .nil (passes_call (W := fun cls d _ H => E cls d H) (takes_of rfl rfl rfl rfl) (fun _ _ _ _ h => h)) (pa_cons (pv 0) pa_nil))) (pss_cons (ps_expr (pe_call (E := E) FR (hr.mono (by decide)) rfl mR kpR bR .nil (passes_call (W := fun cls d _ H => E cls d H) (takes_of rfl rfl rfl rfl) (fun _ _ _ _ h => h)) (pa_cons (pv 2) pa_nil))) (pss_one (ps_ret (pc LI hr (by decide) (pa_cons (pv 0) (pa_cons (pe_call (E := E) FN (hr.mono (by decide)) rfl mN kpN bN .nil (passes_call (W := fun cls d _ H => E cls d H) (takes_of rfl rfl rfl rfl) (fun _ _ _ _ h => h)) (pa_cons (pv 0) (pa_cons (pv 1) (pa_cons (pv 2) (pa_cons (pv 3) pa_nil))))) pa_nil)))))), ?_⟩
    obtain ⟨x1, x2⟩ := due_or hx
    refine ⟨_, rfl, v, dj, rfl, hd, nj, tg, fun ej H1 s1 => ?_, fun p e dx H2 s2 hh => ?_⟩
    case refine_2 =>
      have z := x1 p e
      subst z
      exact er dx H2 s2 hh
    obtain ⟨y1, y2⟩ := due_or (x2 ej)
    refine ⟨_, rfl, r, d1, rfl, dp_same s1 h1, g1, fun ek H3 s3 => ?_, fun p e dx H2 s2 hh => ?_⟩
    case refine_2 =>
      have z := y1 p e
      subst z
      exact er dx H2 (s1.trans s2) hh
    have ex := Option.some.inj (y2 ek)
    subst ex
    exact ⟨_, rfl, _, rfl, _, rfl, _, rfl, _, rfl, v, r, c, rfl, er.same (s1.trans s3)⟩
def spPT (K : PySem.W.Frag) (T : Addr) (cl : Nat → Addr) : Sp := fun vs H Q E => ∃ (v r q : V) (dj d1 d2 : PyData) (x : Due), vs = [v, .non, r, q, .int 1] ∧ Dp K H v dj ∧ niceJobs dj ∧ TabG H T ∧ Dp K H r d1 ∧ goodHeads d1 = true ∧ Dp K H q d2 ∧ goodHeads d2 = true ∧ orD (tagD 0 (jobsPlace dj)) (orD (tagD 1 (rulePlace d1)) (orD (tagD 1 (rulePlace d2)) (some (4, 0)))) = some x ∧ Er cl E x H
theorem scPT : FnScope ["jobs", "marks", "rule", "other", "processors", "ours", "theirs"] ["jobs", "marks", "rule", "other", "processors"] (defScope sParting) := ⟨rfl, rfl, rfl, by decide +kernel, rfl, by decide +kernel, by decide +kernel⟩
theorem ok_pt {T : Addr} {cl : Nat → Addr} (D : DfM K mg "parting" sParting ["jobs", "marks", "rule", "other", "processors"] 2 ["rule", "other"] (fun vs zs => vs ++ zs ++ [.int 1])) (CJ : Cl P w K mg base (L2.CX P w) 5 "check_jobs" ["jobs"] (spCheck K T (cl 0))) (CR : Cl P w K mg base (L2.CX P w) 4 "check_rule" ["rule"] (spCheckR K (cl 1))) (CM : Cl P w K mg base (L2.CX P w) 3 "check_marks" ["jobs", "marks", "processors"] (spCM cl)) : ClM P w K mg base (L2.CX P w) 6 "parting" ["jobs", "marks", "rule", "other", "processors"] 2 ["rule", "other"] (fun vs zs => vs ++ zs ++ [.int 1]) (spPT K T cl) := by
  refine clM D scPT (fun vs H Q E h => ?_) (fun f cdv A outer s H vs Q E hr h => ?_)
  · obtain ⟨v, r, q, dj, d1, d2, x, rfl, _⟩ := h
    rfl
  · obtain ⟨v, r, q, dj, d1, d2, x, rfl, hd, nj, tg, h1, g1, h2, g2, hx, er⟩ := h
    obtain ⟨fJ, fdJ, mJ, kpJ, bJ, FJ⟩ := CJ.ex
    obtain ⟨fR, fdR, mR, kpR, bR, FR⟩ := CR.ex
    obtain ⟨fM, fdM, mM, kpM, bM, FM⟩ := CM.ex
    refine ⟨_, pss_cons (ps_expr (pe_call (E := E) FJ (hr.mono (by decide)) rfl mJ kpJ bJ .nil (passes_call (W := fun cls d _ H => E cls d H) (takes_of rfl rfl rfl rfl) (fun _ _ _ _ h => h)) (pa_cons (pv 0) pa_nil))) (pss_cons (ps_expr (pe_call (E := E) FR (hr.mono (by decide)) rfl mR kpR bR .nil (passes_call (W := fun cls d _ H => E cls d H) (takes_of rfl rfl rfl rfl) (fun _ _ _ _ h => h)) (pa_cons (pv 2) pa_nil))) (pss_cons (ps_expr (pe_call (E := E) FR (hr.mono (by decide)) rfl mR kpR bR .nil (passes_call (W := fun cls d _ H => E cls d H) (takes_of rfl rfl rfl rfl) (fun _ _ _ _ h => h)) (pa_cons (pv 3) pa_nil))) (pss_cons (ps_expr (pe_call (E := E) FM (hr.mono (by decide)) rfl mM kpM bM .nil (passes_call (W := fun cls d _ H => E cls d H) (takes_of rfl rfl rfl rfl) (fun _ _ _ _ h => h)) (pa_cons (pv 0) (pa_cons (pv 1) (pa_cons (pv 4) pa_nil))))) pss_dead))), ?_⟩
    obtain ⟨x1, x2⟩ := due_or hx
    refine ⟨_, rfl, v, dj, rfl, hd, nj, tg, fun ej H1 s1 => ?_, fun p e dx H2 s2 hh => ?_⟩
    case refine_2 =>
      have z := x1 p e
      subst z
      exact er dx H2 s2 hh
    obtain ⟨y1, y2⟩ := due_or (x2 ej)
    refine ⟨_, rfl, r, d1, rfl, dp_same s1 h1, g1, fun ek H3 s3 => ?_, fun p e dx H2 s2 hh => ?_⟩
    case refine_2 =>
      have z := y1 p e
      subst z
      exact er dx H2 (s1.trans s2) hh
    have s13 := s1.trans s3
    obtain ⟨z1, z2⟩ := due_or (y2 ek)
    refine ⟨_, rfl, q, d2, rfl, dp_same s13 h2, g2, fun el H4 s4 => ?_, fun p e dx H2 s2 hh => ?_⟩
    case refine_2 =>
      have z := z1 p e
      subst z
      exact er dx H2 (s13.trans s2) hh
    have ex := Option.some.inj (z2 el)
    subst ex
    exact ⟨_, rfl, _, rfl, _, rfl, v, 1, rfl, er.same (s13.trans s4)⟩
end
end Vk
set_option maxHeartbeats 8000000
namespace Vk
open PySem PySem.Spec PyProof.Rows L2
/-- the numbers of the classes -/
def OkI (i : Nat) : Prop := i = 0 ∨ i = 1 ∨ i = 3 ∨ i = 4 ∨ i = 5 ∨ i = 8
theorem fld_lt {i : Nat} (h : i < 7) : fldOf i = "place" := by
  match i, h with
  | 0, _ => rfl | 1, _ => rfl | 2, _ => rfl | 3, _ => rfl | 4, _ => rfl | 5, _ => rfl | 6, _ => rfl
theorem word_lt {i : Nat} (h : i < 7) : wordOf i = words7.getD i "" := by
  match i, h with
  | 0, _ => rfl | 1, _ => rfl | 2, _ => rfl | 3, _ => rfl | 4, _ => rfl | 5, _ => rfl | 6, _ => rfl
section
variable {P : Program} {w : World} {K : PySem.W.Frag} {mg : Str → Option Value} {base : Heap}
def spKindA (cl : Nat → Addr) : Sp := fun vs H Q _ => ∃ (a dd : Addr) (i : Nat) (p : Int), vs = [.ref a] ∧ H a = some (Xco a (.ref (cl i)) (some dd)) ∧ H dd = some (.xd [(fldOf i, .int p)]) ∧ OkI i ∧
  ∀ (t : Addr) (H' : Hp), Same H H' → H' t = some (.tup [.str (wordOf i), .int p]) → Q (.ref t) H'
theorem ok_kindA {cl : Nat → Addr} (D : Df K mg "_law_kind" sKind ["caught"]) (B : Blt mg) (NN : ∀ i, OkI i → Kn K mg (cl i) i) (noN : PySem.W.findIn K (.ref (cl 8)) "number" = some none) : Cl P w K mg base CX0 1 "_law_kind" ["caught"] (spKindA cl) := by
  refine cl0 D scKind (fun vs H Q E h => ?_) (fun f cdv A outer s H vs Q E hr h => ?_)
  · obtain ⟨a, dd, i, p, rfl, _⟩ := h
    rfl
  obtain ⟨a, dd, i, p, rfl, ha, hdd, oi, k⟩ := h
  by_cases hi : i < 7
  · have N := NN i oi
    rw [fld_lt hi] at hdd
    rw [word_lt hi] at k
    generalize V.int p = v at hdd k
    generalize cl i = C at ha N
    obtain ⟨S, mS, kS, _⟩ := N.se
    obtain ⟨D0, m0, k0⟩ := N.c0
    obtain ⟨D1, m1, k1⟩ := N.c1
    obtain ⟨D2, m2, k2⟩ := N.c2
    obtain ⟨D3, m3, k3⟩ := N.c3
    obtain ⟨D4, m4, k4⟩ := N.c4
    obtain ⟨D5, m5, k5⟩ := N.c5
    obtain ⟨D6, m6, k6⟩ := N.c6
    obtain ⟨D7, m7, k7⟩ := N.c7
    obtain ⟨D8, m8, k8⟩ := N.c8
    obtain ⟨D9, m9, k9⟩ := N.c9
    obtain ⟨D10, m10, k10⟩ := N.c10
    obtain ⟨D11, m11, k11⟩ := N.c11
    refine ⟨_, pss_cons (ps_set (i := 1) scKind.nd rfl (Or.inl rfl) (pe_lst (pa_cons (pe_callB call_isX (by rfl) B.isi (by decide +kernel) (pa_cons (pv 0) (pa_cons (pe_glob rfl m0 (show RelV (.ref _) _ from rfl)) pa_nil))) (pa_cons (pe_callB call_isX (by rfl) B.isi (by decide +kernel) (pa_cons (pv 0) (pa_cons (pe_glob rfl m1 (show RelV (.ref _) _ from rfl)) pa_nil))) (pa_cons (pe_callB call_isX (by rfl) B.isi (by decide +kernel) (pa_cons (pv 0) (pa_cons (pe_glob rfl m2 (show RelV (.ref _) _ from rfl)) pa_nil))) pa_nil)))))
      (pss_cons (ps_set (i := 1) scKind.nd rfl (Or.inl rfl) (pe_op op_cat (pv 1) (pe_lst (pa_cons (pe_callB call_isX (by rfl) B.isi (by decide +kernel) (pa_cons (pv 0) (pa_cons (pe_glob rfl m3 (show RelV (.ref _) _ from rfl)) pa_nil))) (pa_cons (pe_callB call_isX (by rfl) B.isi (by decide +kernel) (pa_cons (pv 0) (pa_cons (pe_glob rfl m4 (show RelV (.ref _) _ from rfl)) pa_nil))) (pa_cons (pe_callB call_isX (by rfl) B.isi (by decide +kernel) (pa_cons (pv 0) (pa_cons (pe_glob rfl m5 (show RelV (.ref _) _ from rfl)) pa_nil))) pa_nil))))))
      (pss_cons (ps_set (i := 1) scKind.nd rfl (Or.inl rfl) (pe_op op_cat (pv 1) (pe_lst (pa_cons (pe_callB call_isX (by rfl) B.isi (by decide +kernel) (pa_cons (pv 0) (pa_cons (pe_glob rfl m6 (show RelV (.ref _) _ from rfl)) pa_nil))) (pa_cons (pe_callB call_isX (by rfl) B.isi (by decide +kernel) (pa_cons (pv 0) (pa_cons (pe_glob rfl m7 (show RelV (.ref _) _ from rfl)) pa_nil))) (pa_cons (pe_callB call_isX (by rfl) B.isi (by decide +kernel) (pa_cons (pv 0) (pa_cons (pe_glob rfl m8 (show RelV (.ref _) _ from rfl)) pa_nil))) pa_nil))))))
      (pss_cons (ps_set (i := 1) scKind.nd rfl (Or.inl rfl) (pe_op op_cat (pv 1) (pe_lst (pa_cons (pe_callB call_isX (by rfl) B.isi (by decide +kernel) (pa_cons (pv 0) (pa_cons (pe_glob rfl m9 (show RelV (.ref _) _ from rfl)) pa_nil))) (pa_cons (pe_callB call_isX (by rfl) B.isi (by decide +kernel) (pa_cons (pv 0) (pa_cons (pe_glob rfl m10 (show RelV (.ref _) _ from rfl)) pa_nil))) (pa_cons (pe_callB call_isX (by rfl) B.isi (by decide +kernel) (pa_cons (pv 0) (pa_cons (pe_glob rfl m11 (show RelV (.ref _) _ from rfl)) pa_nil))) pa_nil))))))
      (pss_cons (ps_if (PW.pt (pw_or (pt_not (pt_val (pe_callB call_isX (by rfl) B.isi (by decide +kernel) (pa_cons (pv 0) (pa_cons (pe_glob rfl mS (show RelV (.ref _) _ from rfl)) pa_nil))))) (pw_or (pt_not (pt_val (pe_callB call_isX (by rfl) B.isi (by decide +kernel) (pa_cons (pv 0) (pa_cons (pe_bltn (v := .ty "ValueError") (u := .type "ValueError") (by rfl) N.ve (by decide +kernel) rfl) pa_nil)))))
        (pw_or1 (pt_cmpR op_ne (pe_bm PySem.F.plainAttrs_list PySem.F.slot_list_count PySem.F.type_list_count mt_countV (pv 1) (pa_cons pe_bl pa_nil)) pe_int (nomark _)))))) (pss_one (ps_ret (pe_tup (pa_cons pe_str (pa_cons pe_int pa_nil))))) pss_nil)
      (pss_cons (ps_set (i := 2) scKind.nd rfl (Or.inl rfl) (pe_bm PySem.F.plainAttrs_list PySem.F.slot_list_index PySem.F.type_list_index mt_index (pv 1) (pa_cons pe_bl pa_nil)))
      (pss_cons (ps_if (pt_cmpR op_lt (pv 2) pe_int (nomark _)) (pss_one (ps_ret (pe_tup (pa_cons (pe_ix ix_list (pe_lst (pa_cons pe_str (pa_cons pe_str (pa_cons pe_str (pa_cons pe_str (pa_cons pe_str (pa_cons pe_str (pa_cons pe_str pa_nil)))))))) (pv 2) (fun _ _ => rfl)) (pa_cons (pe_xp (pv 0)) pa_nil))))) pss_nil)
      (pss_cons ps_never (pss_cons ps_never (pss_cons ps_never (pss_one ps_never)))))))))), ?_⟩
    refine ⟨_, rfl, a, C, some dd, _, _, _, rfl, (Same.refl H).at ha, (fun d2 e2 => by cases e2; exact ⟨_, (Same.refl H).at hdd⟩), N.ex, .own _, k0,
      _, rfl, a, C, some dd, _, _, _, rfl, (Same.refl H).at ha, (fun d2 e2 => by cases e2; exact ⟨_, (Same.refl H).at hdd⟩), N.ex, .own _, k1,
      _, rfl, a, C, some dd, _, _, _, rfl, (Same.refl H).at ha, (fun d2 e2 => by cases e2; exact ⟨_, (Same.refl H).at hdd⟩), N.ex, .own _, k2, (by show 3 ≤ sizeLine; decide), fun p1 n1 => ?_⟩
    have s1 := same_new (o := .lst [.bl (decide (0 = i)), .bl (decide (1 = i)), .bl (decide (2 = i))]) n1
    refine ⟨_, rfl, _, rfl, a, C, some dd, _, _, _, rfl, s1.at ha, (fun d2 e2 => by cases e2; exact ⟨_, s1.at hdd⟩), N.ex, .own _, k3,
      _, rfl, a, C, some dd, _, _, _, rfl, s1.at ha, (fun d2 e2 => by cases e2; exact ⟨_, s1.at hdd⟩), N.ex, .own _, k4,
      _, rfl, a, C, some dd, _, _, _, rfl, s1.at ha, (fun d2 e2 => by cases e2; exact ⟨_, s1.at hdd⟩), N.ex, .own _, k5, (by show 3 ≤ sizeLine; decide), fun q1 m1' => ?_⟩
    have t1 := same_new (o := .lst [.bl (decide (3 = i)), .bl (decide (4 = i)), .bl (decide (5 = i))]) m1'
    refine ⟨p1, q1, _, _, rfl, rfl, t1.at upd_same, upd_same, (by show 3 + 3 ≤ sizeLine; decide), fun p2 n2 => ?_⟩
    have s2 := (s1.trans t1).trans (same_new (o := .lst ([.bl (decide (0 = i)), .bl (decide (1 = i)), .bl (decide (2 = i))] ++ [.bl (decide (3 = i)), .bl (decide (4 = i)), .bl (decide (5 = i))])) n2)
    refine ⟨_, rfl, _, rfl, a, C, some dd, _, _, _, rfl, s2.at ha, (fun d2 e2 => by cases e2; exact ⟨_, s2.at hdd⟩), N.ex, .own _, k6,
      _, rfl, a, C, some dd, _, _, _, rfl, s2.at ha, (fun d2 e2 => by cases e2; exact ⟨_, s2.at hdd⟩), N.ex, .own _, k7,
      _, rfl, a, C, some dd, _, _, _, rfl, s2.at ha, (fun d2 e2 => by cases e2; exact ⟨_, s2.at hdd⟩), N.ex, .own _, k8, (by show 3 ≤ sizeLine; decide), fun q2 m2' => ?_⟩
    have t2 := same_new (o := .lst [.bl (decide (6 = i)), .bl (decide (7 = i)), .bl (decide (8 = i))]) m2'
    refine ⟨p2, q2, _, _, rfl, rfl, t2.at upd_same, upd_same, (by show 6 + 3 ≤ sizeLine; decide), fun p3 n3 => ?_⟩
    have s3 := (s2.trans t2).trans (same_new (o := .lst (([.bl (decide (0 = i)), .bl (decide (1 = i)), .bl (decide (2 = i))] ++ [.bl (decide (3 = i)), .bl (decide (4 = i)), .bl (decide (5 = i))]) ++ [.bl (decide (6 = i)), .bl (decide (7 = i)), .bl (decide (8 = i))])) n3)
    refine ⟨_, rfl, _, rfl, a, C, some dd, _, _, _, rfl, s3.at ha, (fun d2 e2 => by cases e2; exact ⟨_, s3.at hdd⟩), N.ex, .own _, k9,
      _, rfl, a, C, some dd, _, _, _, rfl, s3.at ha, (fun d2 e2 => by cases e2; exact ⟨_, s3.at hdd⟩), N.ex, .own _, k10,
      _, rfl, a, C, some dd, _, _, _, rfl, s3.at ha, (fun d2 e2 => by cases e2; exact ⟨_, s3.at hdd⟩), N.ex, .own _, k11, (by show 3 ≤ sizeLine; decide), fun q3 m3' => ?_⟩
    have t3 := same_new (o := .lst [.bl (decide (9 = i)), .bl (decide (10 = i)), .bl (decide (11 = i))]) m3'
    refine ⟨p3, q3, _, _, rfl, rfl, t3.at upd_same, upd_same, (by show 9 + 3 ≤ sizeLine; decide), fun p4 n4 => ?_⟩
    have s4 := (s3.trans t3).trans (same_new (o := .lst ((([.bl (decide (0 = i)), .bl (decide (1 = i)), .bl (decide (2 = i))] ++ [.bl (decide (3 = i)), .bl (decide (4 = i)), .bl (decide (5 = i))]) ++ [.bl (decide (6 = i)), .bl (decide (7 = i)), .bl (decide (8 = i))]) ++ [.bl (decide (9 = i)), .bl (decide (10 = i)), .bl (decide (11 = i))])) n4)
    have e12 : ((([.bl (decide (0 = i)), .bl (decide (1 = i)), .bl (decide (2 = i))] ++ [.bl (decide (3 = i)), .bl (decide (4 = i)), .bl (decide (5 = i))]) ++ [.bl (decide (6 = i)), .bl (decide (7 = i)), .bl (decide (8 = i))]) ++ [.bl (decide (9 = i)), .bl (decide (10 = i)), .bl (decide (11 = i))]) = bits i := rfl
    refine ⟨_, rfl, a, C, some dd, _, _, _, rfl, s4.at ha, (fun d2 e2 => by cases e2; exact ⟨_, s4.at hdd⟩), N.ex, .own _, kS, _, rfl, iteF ?_⟩
    refine ⟨_, rfl, a, C, some dd, _, _, _, rfl, s4.at ha, (fun d2 e2 => by cases e2; exact ⟨_, s4.at hdd⟩), N.ex, .ty "ValueError", N.kv, _, rfl, iteF ?_⟩
    refine ⟨_, rfl, .inl ⟨rfl, _, SqL.of upd_same⟩, p4, _, _, rfl, rfl, SqL.of upd_same, rfl, ?_, ?_⟩
    · rw [e12]
      exact bits_flat i
    rw [e12]
    have ec : (bits i).countP (fun z => eqV z (.bl true)) = 1 := bits_cnt ⟨i, by omega⟩
    rw [ec]
    refine ⟨rfl, _, rfl, iteF ?_⟩
    refine ⟨_, rfl, .inl ⟨rfl, _, SqL.of upd_same⟩, p4, _, _, i, .bl (decide (i = i)), rfl, rfl, SqL.of upd_same, rfl, bits_flat i, bits_get (by omega), by rw [decide_eq_true rfl]; rfl, fun m z' hm hz => ?_, ?_⟩
    · rw [bits_get (by omega)] at hz
      cases hz
      rw [decide_eq_false (by omega)]
      rfl
    refine ⟨_, rfl, _, _, rfl, rfl, _, rfl, ?_⟩
    rw [decide_eq_true (show (i : Int) < 7 by omega)]
    refine iteT ⟨(by show 7 ≤ sizeLine; decide), fun l nl => ?_⟩
    have s5 := s4.trans (same_new (o := .lst (words7.map V.str)) nl)
    have ew : (words7.map V.str)[i]? = some (.str (words7.getD i "")) := by
      rw [List.getElem?_map, List.getD_eq_getElem?_getD]
      have hl : i < words7.length := hi
      rw [List.getElem?_eq_getElem hl]
      rfl
    refine ⟨_, rfl, l, _, _, _, rfl, rfl, SqL.of upd_same, atI_nat ew, _, rfl, a, C, dd, _, v, rfl, s5.at ha, s5.at hdd, by simp [List.lookup], N.xf, N.noP, (by show 2 ≤ sizeLine; decide), fun t nt => ?_⟩
    exact k t _ (s5.trans (same_new nt)) upd_same
  · have h8 : i = 8 := by
      rcases oi with z | z | z | z | z | z <;> omega
    have N := NN i oi
    rw [← h8] at noN
    rw [show fldOf i = "number" by rw [h8]; rfl] at hdd
    rw [show wordOf i = "number" by rw [h8]; rfl] at k
    generalize V.int p = v at hdd k
    generalize cl i = C at ha N noN
    obtain ⟨S, mS, kS, _⟩ := N.se
    obtain ⟨D0, m0, k0⟩ := N.c0
    obtain ⟨D1, m1, k1⟩ := N.c1
    obtain ⟨D2, m2, k2⟩ := N.c2
    obtain ⟨D3, m3, k3⟩ := N.c3
    obtain ⟨D4, m4, k4⟩ := N.c4
    obtain ⟨D5, m5, k5⟩ := N.c5
    obtain ⟨D6, m6, k6⟩ := N.c6
    obtain ⟨D7, m7, k7⟩ := N.c7
    obtain ⟨D8, m8, k8⟩ := N.c8
    obtain ⟨D9, m9, k9⟩ := N.c9
    obtain ⟨D10, m10, k10⟩ := N.c10
    obtain ⟨D11, m11, k11⟩ := N.c11
    refine ⟨_, pss_cons (ps_set (i := 1) scKind.nd rfl (Or.inl rfl) (pe_lst (pa_cons (pe_callB call_isX (by rfl) B.isi (by decide +kernel) (pa_cons (pv 0) (pa_cons (pe_glob rfl m0 (show RelV (.ref _) _ from rfl)) pa_nil))) (pa_cons (pe_callB call_isX (by rfl) B.isi (by decide +kernel) (pa_cons (pv 0) (pa_cons (pe_glob rfl m1 (show RelV (.ref _) _ from rfl)) pa_nil))) (pa_cons (pe_callB call_isX (by rfl) B.isi (by decide +kernel) (pa_cons (pv 0) (pa_cons (pe_glob rfl m2 (show RelV (.ref _) _ from rfl)) pa_nil))) pa_nil)))))
      (pss_cons (ps_set (i := 1) scKind.nd rfl (Or.inl rfl) (pe_op op_cat (pv 1) (pe_lst (pa_cons (pe_callB call_isX (by rfl) B.isi (by decide +kernel) (pa_cons (pv 0) (pa_cons (pe_glob rfl m3 (show RelV (.ref _) _ from rfl)) pa_nil))) (pa_cons (pe_callB call_isX (by rfl) B.isi (by decide +kernel) (pa_cons (pv 0) (pa_cons (pe_glob rfl m4 (show RelV (.ref _) _ from rfl)) pa_nil))) (pa_cons (pe_callB call_isX (by rfl) B.isi (by decide +kernel) (pa_cons (pv 0) (pa_cons (pe_glob rfl m5 (show RelV (.ref _) _ from rfl)) pa_nil))) pa_nil))))))
      (pss_cons (ps_set (i := 1) scKind.nd rfl (Or.inl rfl) (pe_op op_cat (pv 1) (pe_lst (pa_cons (pe_callB call_isX (by rfl) B.isi (by decide +kernel) (pa_cons (pv 0) (pa_cons (pe_glob rfl m6 (show RelV (.ref _) _ from rfl)) pa_nil))) (pa_cons (pe_callB call_isX (by rfl) B.isi (by decide +kernel) (pa_cons (pv 0) (pa_cons (pe_glob rfl m7 (show RelV (.ref _) _ from rfl)) pa_nil))) (pa_cons (pe_callB call_isX (by rfl) B.isi (by decide +kernel) (pa_cons (pv 0) (pa_cons (pe_glob rfl m8 (show RelV (.ref _) _ from rfl)) pa_nil))) pa_nil))))))
      (pss_cons (ps_set (i := 1) scKind.nd rfl (Or.inl rfl) (pe_op op_cat (pv 1) (pe_lst (pa_cons (pe_callB call_isX (by rfl) B.isi (by decide +kernel) (pa_cons (pv 0) (pa_cons (pe_glob rfl m9 (show RelV (.ref _) _ from rfl)) pa_nil))) (pa_cons (pe_callB call_isX (by rfl) B.isi (by decide +kernel) (pa_cons (pv 0) (pa_cons (pe_glob rfl m10 (show RelV (.ref _) _ from rfl)) pa_nil))) (pa_cons (pe_callB call_isX (by rfl) B.isi (by decide +kernel) (pa_cons (pv 0) (pa_cons (pe_glob rfl m11 (show RelV (.ref _) _ from rfl)) pa_nil))) pa_nil))))))
      (pss_cons (ps_if (PW.pt (pw_or (pt_not (pt_val (pe_callB call_isX (by rfl) B.isi (by decide +kernel) (pa_cons (pv 0) (pa_cons (pe_glob rfl mS (show RelV (.ref _) _ from rfl)) pa_nil))))) (pw_or (pt_not (pt_val (pe_callB call_isX (by rfl) B.isi (by decide +kernel) (pa_cons (pv 0) (pa_cons (pe_bltn (v := .ty "ValueError") (u := .type "ValueError") (by rfl) N.ve (by decide +kernel) rfl) pa_nil)))))
        (pw_or1 (pt_cmpR op_ne (pe_bm PySem.F.plainAttrs_list PySem.F.slot_list_count PySem.F.type_list_count mt_countV (pv 1) (pa_cons pe_bl pa_nil)) pe_int (nomark _)))))) (pss_one (ps_ret (pe_tup (pa_cons pe_str (pa_cons pe_int pa_nil))))) pss_nil)
      (pss_cons (ps_set (i := 2) scKind.nd rfl (Or.inl rfl) (pe_bm PySem.F.plainAttrs_list PySem.F.slot_list_index PySem.F.type_list_index mt_index (pv 1) (pa_cons pe_bl pa_nil)))
      (pss_cons (ps_if (pt_cmpR op_lt (pv 2) pe_int (nomark _)) (pss_one ps_never) pss_nil)
      (pss_cons (ps_if (pt_cmpR op_eq (pv 2) pe_int (nomark _)) (pss_one ps_never) pss_nil) (pss_cons (ps_if (pt_cmpR op_eq (pv 2) pe_int (nomark _)) (pss_one (ps_ret (pe_tup (pa_cons pe_str (pa_cons (pe_xp (pv 0)) pa_nil))))) pss_nil) (pss_cons ps_never (pss_one ps_never)))))))))), ?_⟩
    refine ⟨_, rfl, a, C, some dd, _, _, _, rfl, (Same.refl H).at ha, (fun d2 e2 => by cases e2; exact ⟨_, (Same.refl H).at hdd⟩), N.ex, .own _, k0,
      _, rfl, a, C, some dd, _, _, _, rfl, (Same.refl H).at ha, (fun d2 e2 => by cases e2; exact ⟨_, (Same.refl H).at hdd⟩), N.ex, .own _, k1,
      _, rfl, a, C, some dd, _, _, _, rfl, (Same.refl H).at ha, (fun d2 e2 => by cases e2; exact ⟨_, (Same.refl H).at hdd⟩), N.ex, .own _, k2, (by show 3 ≤ sizeLine; decide), fun p1 n1 => ?_⟩
    have s1 := same_new (o := .lst [.bl (decide (0 = i)), .bl (decide (1 = i)), .bl (decide (2 = i))]) n1
    refine ⟨_, rfl, _, rfl, a, C, some dd, _, _, _, rfl, s1.at ha, (fun d2 e2 => by cases e2; exact ⟨_, s1.at hdd⟩), N.ex, .own _, k3,
      _, rfl, a, C, some dd, _, _, _, rfl, s1.at ha, (fun d2 e2 => by cases e2; exact ⟨_, s1.at hdd⟩), N.ex, .own _, k4,
      _, rfl, a, C, some dd, _, _, _, rfl, s1.at ha, (fun d2 e2 => by cases e2; exact ⟨_, s1.at hdd⟩), N.ex, .own _, k5, (by show 3 ≤ sizeLine; decide), fun q1 m1' => ?_⟩
    have t1 := same_new (o := .lst [.bl (decide (3 = i)), .bl (decide (4 = i)), .bl (decide (5 = i))]) m1'
    refine ⟨p1, q1, _, _, rfl, rfl, t1.at upd_same, upd_same, (by show 3 + 3 ≤ sizeLine; decide), fun p2 n2 => ?_⟩
    have s2 := (s1.trans t1).trans (same_new (o := .lst ([.bl (decide (0 = i)), .bl (decide (1 = i)), .bl (decide (2 = i))] ++ [.bl (decide (3 = i)), .bl (decide (4 = i)), .bl (decide (5 = i))])) n2)
    refine ⟨_, rfl, _, rfl, a, C, some dd, _, _, _, rfl, s2.at ha, (fun d2 e2 => by cases e2; exact ⟨_, s2.at hdd⟩), N.ex, .own _, k6,
      _, rfl, a, C, some dd, _, _, _, rfl, s2.at ha, (fun d2 e2 => by cases e2; exact ⟨_, s2.at hdd⟩), N.ex, .own _, k7,
      _, rfl, a, C, some dd, _, _, _, rfl, s2.at ha, (fun d2 e2 => by cases e2; exact ⟨_, s2.at hdd⟩), N.ex, .own _, k8, (by show 3 ≤ sizeLine; decide), fun q2 m2' => ?_⟩
    have t2 := same_new (o := .lst [.bl (decide (6 = i)), .bl (decide (7 = i)), .bl (decide (8 = i))]) m2'
    refine ⟨p2, q2, _, _, rfl, rfl, t2.at upd_same, upd_same, (by show 6 + 3 ≤ sizeLine; decide), fun p3 n3 => ?_⟩
    have s3 := (s2.trans t2).trans (same_new (o := .lst (([.bl (decide (0 = i)), .bl (decide (1 = i)), .bl (decide (2 = i))] ++ [.bl (decide (3 = i)), .bl (decide (4 = i)), .bl (decide (5 = i))]) ++ [.bl (decide (6 = i)), .bl (decide (7 = i)), .bl (decide (8 = i))])) n3)
    refine ⟨_, rfl, _, rfl, a, C, some dd, _, _, _, rfl, s3.at ha, (fun d2 e2 => by cases e2; exact ⟨_, s3.at hdd⟩), N.ex, .own _, k9,
      _, rfl, a, C, some dd, _, _, _, rfl, s3.at ha, (fun d2 e2 => by cases e2; exact ⟨_, s3.at hdd⟩), N.ex, .own _, k10,
      _, rfl, a, C, some dd, _, _, _, rfl, s3.at ha, (fun d2 e2 => by cases e2; exact ⟨_, s3.at hdd⟩), N.ex, .own _, k11, (by show 3 ≤ sizeLine; decide), fun q3 m3' => ?_⟩
    have t3 := same_new (o := .lst [.bl (decide (9 = i)), .bl (decide (10 = i)), .bl (decide (11 = i))]) m3'
    refine ⟨p3, q3, _, _, rfl, rfl, t3.at upd_same, upd_same, (by show 9 + 3 ≤ sizeLine; decide), fun p4 n4 => ?_⟩
    have s4 := (s3.trans t3).trans (same_new (o := .lst ((([.bl (decide (0 = i)), .bl (decide (1 = i)), .bl (decide (2 = i))] ++ [.bl (decide (3 = i)), .bl (decide (4 = i)), .bl (decide (5 = i))]) ++ [.bl (decide (6 = i)), .bl (decide (7 = i)), .bl (decide (8 = i))]) ++ [.bl (decide (9 = i)), .bl (decide (10 = i)), .bl (decide (11 = i))])) n4)
    have e12 : ((([.bl (decide (0 = i)), .bl (decide (1 = i)), .bl (decide (2 = i))] ++ [.bl (decide (3 = i)), .bl (decide (4 = i)), .bl (decide (5 = i))]) ++ [.bl (decide (6 = i)), .bl (decide (7 = i)), .bl (decide (8 = i))]) ++ [.bl (decide (9 = i)), .bl (decide (10 = i)), .bl (decide (11 = i))]) = bits i := rfl
    refine ⟨_, rfl, a, C, some dd, _, _, _, rfl, s4.at ha, (fun d2 e2 => by cases e2; exact ⟨_, s4.at hdd⟩), N.ex, .own _, kS, _, rfl, iteF ?_⟩
    refine ⟨_, rfl, a, C, some dd, _, _, _, rfl, s4.at ha, (fun d2 e2 => by cases e2; exact ⟨_, s4.at hdd⟩), N.ex, .ty "ValueError", N.kv, _, rfl, iteF ?_⟩
    refine ⟨_, rfl, .inl ⟨rfl, _, SqL.of upd_same⟩, p4, _, _, rfl, rfl, SqL.of upd_same, rfl, ?_, ?_⟩
    · rw [e12]
      exact bits_flat i
    rw [e12]
    have ec : (bits i).countP (fun z => eqV z (.bl true)) = 1 := bits_cnt ⟨i, by omega⟩
    rw [ec]
    refine ⟨rfl, _, rfl, iteF ?_⟩
    refine ⟨_, rfl, .inl ⟨rfl, _, SqL.of upd_same⟩, p4, _, _, i, .bl (decide (i = i)), rfl, rfl, SqL.of upd_same, rfl, bits_flat i, bits_get (by omega), by rw [decide_eq_true rfl]; rfl, fun m z' hm hz => ?_, ?_⟩
    · rw [bits_get (by omega)] at hz
      cases hz
      rw [decide_eq_false (by omega)]
      rfl
    refine ⟨_, rfl, _, _, rfl, rfl, _, rfl, ?_⟩
    rw [decide_eq_false (show ¬ (i : Int) < 7 by omega)]
    refine iteF ⟨_, rfl, rfl, _, rfl, ?_⟩
    rw [show decide (V.int (i : Int) = V.int 7) = false from decide_eq_false (fun z => by have z2 := V.int.inj z; omega)]
    refine iteF ⟨_, rfl, rfl, _, rfl, ?_⟩
    rw [show decide (V.int (i : Int) = V.int 8) = true from decide_eq_true (by rw [h8]; rfl)]
    refine iteT ⟨_, rfl, a, C, dd, _, v, rfl, s4.at ha, s4.at hdd, by simp [List.lookup], N.xf, noN, (by show 2 ≤ sizeLine; decide), fun t nt => ?_⟩
    exact k t _ (s4.trans (same_new nt)) upd_same
end
end Vk
set_option maxHeartbeats 8000000
namespace Vk
open PySem PySem.Spec PyProof.Rows L2 GxR
theorem not2 {b : Bool} {A B : Prop} (h1 : b = true → A) (h2 : b = false → B) : if (!b) = true then B else A := by
  cases b with
  | true => exact iteF (h1 rfl)
  | false => exact iteT (h2 rfl)
section
variable {P : Program} {w : World} {K : PySem.W.Frag} {mg : Str → Option Value} {base : Heap}
def spFaultR (K : PySem.W.Frag) : Sp := fun vs H Q _ => ∃ (v : V) (d : PyData), vs = [v] ∧ Dp K H v d ∧ goodHeads d = true ∧ ∀ H', Same H H' → Q (optV (rulePlace d)) H'
theorem scFaultR : FnScope ["value", "levels", "boost", "place", "level", "good"] ["value"] (defScope sFaultR) := ⟨rfl, rfl, rfl, by decide +kernel, rfl, by decide +kernel, by decide +kernel⟩
theorem ok_faultR (D : Df K mg "_law_fault_rule" sFaultR ["value"]) (B : Blt mg) (I : Cl P w K mg base CX0 1 "_law_is_int" ["value", "least"] (spInteger K)) : Cl P w K mg base CX0 2 "_law_fault_rule" ["value"] (spFaultR K) := by
  refine cl0 D scFaultR (fun vs H Q E h => ?_) (fun f cdv A outer s H vs Q E hr h => ?_)
  · obtain ⟨v, d, rfl, _⟩ := h
    rfl
  · obtain ⟨v, d, rfl, hd, gh, k⟩ := h
    refine ⟨_, pss_cons (ps_if (PW.pt (pw_or (pt_not (pt_val (pe_callB call_isi (by rfl) B.isi (by decide +kernel) (pa_cons (pv 0) (pa_cons (pe_bltn (v := .ty "tuple") (u := .type "tuple") (by rfl) B.tuple (by decide +kernel) rfl) pa_nil))))) (pw_or (pt_cmpR op_ne (pe_callB call_len_seq (by rfl) B.len PySem.boot_len (pa_cons (pv 0) pa_nil)) pe_int (nomark _)) (pw_or1 (pt_not (pt_val (pe_callB call_isi (by rfl) B.isi (by decide +kernel) (pa_cons (pe_ix ix_tup (pv 0) pe_int (fun _ _ => rfl)) (pa_cons (pe_bltn (v := .ty "tuple") (u := .type "tuple") (by rfl) B.tuple (by decide +kernel) rfl) pa_nil))))))))) (pss_one (ps_ret pe_int)) pss_nil)
      (pss_cons (ps_asg (pv 0) (pg_tup rfl (pgs_cons (pg_name (i := 1) scFaultR.nd rfl (.inl rfl)) (pgs_cons (pg_name (i := 2) scFaultR.nd rfl (.inl rfl)) pgs_nil))))
      (pss_cons (ps_if (pt_not (pt_chain op_le op_le pe_int (pe_callB call_len_seq (by rfl) B.len PySem.boot_len (pa_cons (pv 1) pa_nil)) pe_int)) (pss_one (ps_ret pe_int)) pss_nil)
      (pss_cons (ps_for PassesOwn.never rfl (pi_enumT B.enum (pa_cons (pv 1) pa_nil)) (pg_tup rfl (pgs_cons (pg_name (i := 3) scFaultR.nd rfl (.inl rfl)) (pgs_cons (pg_name (i := 4) scFaultR.nd rfl (.inl rfl)) pgs_nil)))
        (pss_cons (ps_set (i := 5) scFaultR.nd rfl (Or.inl rfl) (pe_and (pe_callB call_isi (by rfl) B.isi (by decide +kernel) (pa_cons (pv 4) (pa_cons (pe_bltn (v := .ty "tuple") (u := .type "tuple") (by rfl) B.tuple (by decide +kernel) rfl) pa_nil))) (pe_and (pe_cmpR op_eq (pe_callB call_len_seq (by rfl) B.len PySem.boot_len (pa_cons (pv 4) pa_nil)) pe_int (nomark _))
            (pe_one (pe_cmpR op_in_seq (pe_ix ix_tup (pv 4) pe_int (fun _ _ => rfl)) (pe_tup (pa_cons pe_str (pa_cons pe_str pa_nil))) (by rfl))))))
        (pss_one (ps_if (PW.pt (pw_or (pt_not (pt_val (pv 5))) (pw_or1 (PW.pt (pw_and (pt_cmpR op_notN (pe_ix ix_tup (pv 4) pe_int (fun _ _ => rfl)) pe_non (nomark _)) (pw_and1 (pt_not (pt_val (pc I hr (by decide) (pa_cons (pe_ix ix_tup (pv 4) pe_int (fun _ _ => rfl)) (pa_cons pe_int pa_nil))))))))))) (pss_one (ps_ret (pv 3))) pss_nil))))
      (pss_cons (ps_if (PW.pt (pw_or (pt_cmpR op_isN (pv 2) pe_non (nomark _)) (pw_or1 (pt_val (pc I hr (by decide) (pa_cons (pv 2) (pa_cons pe_int pa_nil))))))) (pss_one (ps_ret pe_non)) pss_nil)
      (pss_one (ps_ret (pe_callB call_len_seq (by rfl) B.len PySem.boot_len (pa_cons (pv 1) pa_nil)))))))), ?_⟩
    have zero : rulePlace d = some 0 → ∀ H', Same H H' → Q (.int 0) H' := fun e H' s1 => by
      have z := k H' s1
      rw [e] at z
      exact z
    refine ⟨_, rfl, v, _, _, _, _, rfl, .ty "tuple", dp_ty hd, kit_tup hd, _, rfl, ?_⟩
    by_cases htup : isTupD d = true
    case neg =>
      have e1 : isTupD d = false := Bool.eq_false_iff.mpr htup
      have e2 : rulePlace d = some 0 := by
        cases d with
        | tuple ds => exact absurd rfl htup
        | _ => rfl
      rw [e1]
      exact iteT (iteT (zero e2 H (Same.refl H)))
    rw [htup]
    refine iteF ?_
    obtain ⟨ds, rfl⟩ : ∃ ds, d = .tuple ds := by
      cases d with
      | tuple ls => exact ⟨ls, rfl⟩
      | _ => cases htup
    cases ht : tupleND 2 (.tuple ds) with
    | false =>
      obtain ⟨p, xs0, rfl, q0, r0⟩ := dp_tuple hd
      have z : ¬ (ds.length : Int) = 2 := of_decide_eq_false ht
      refine ⟨_, rfl, p, xs0, rfl, .inr q0, rfl, _, rfl, ?_⟩
      have e3 : (!decide (V.int (xs0.length : Nat) = V.int 2)) = true := by
        rw [decide_eq_false (fun y => z (by rw [← dps_len r0]; exact V.int.inj y))]
        rfl
      rw [e3]
      exact iteT (iteT (zero (place_two ht) H (Same.refl H)))
    | true =>
      obtain ⟨a, b, e4⟩ := level_two ht
      cases e4
      obtain ⟨p, x, y, rfl, q, ha, hb⟩ := dp_two hd
      refine ⟨_, rfl, p, _, rfl, .inr q, rfl, _, rfl, iteF ?_⟩
      refine ⟨_, rfl, p, _, _, _, rfl, rfl, q, rfl, x, _, _, _, _, rfl, .ty "tuple", dp_ty ha, kit_tup ha, _, rfl, ?_⟩
      cases hta : isTupD a with
      | false => exact iteT (zero (place_tup hta) H (Same.refl H))
      | true =>
        obtain ⟨ls, rfl⟩ : ∃ ls, a = .tuple ls := by
          cases a with
          | tuple ls => exact ⟨ls, rfl⟩
          | _ => cases hta
        obtain ⟨pl, xs, rfl, ql, rl⟩ := dp_tuple ha
        have ll := dps_len rl
        refine iteF ?_
        refine ⟨_, rfl, p, _, rfl, q, rfl, _, _, rfl, _, _, rfl, rfl, ?_⟩
        have noSmall : ¬ (1 ≤ ls.length ∧ ls.length ≤ 6) → rulePlace (.tuple [.tuple ls, b]) = some 0 := fun z => by
          simp only [rulePlace]
          rw [if_neg z]
        refine ⟨_, rfl, pl, xs, rfl, .inr ql, _, _, rfl, rfl, _, rfl, ?_⟩
        refine ite2 (fun z1 => ?_) (fun z1 => ?_)
        case refine_2 =>
          have n1 : ¬ (1 ≤ ls.length) := fun y => z1 (decide_eq_true (by omega))
          exact ⟨_, rfl, iteT (zero (noSmall fun y => n1 y.1) H (Same.refl H))⟩
        refine ⟨_, _, rfl, rfl, _, rfl, ?_⟩
        by_cases n6 : ls.length ≤ 6
        case neg =>
          rw [decide_eq_false (show ¬ ((xs.length : Nat) : Int) ≤ 6 by omega)]
          exact iteT (zero (noSmall fun y => n6 y.2) H (Same.refl H))
        rw [decide_eq_true (show ((xs.length : Nat) : Int) ≤ 6 by omega)]
        refine iteF ?_
        have n1 : 1 ≤ ls.length := by
          have z := of_decide_eq_true z1
          omega
        refine ⟨_, rfl, pl, xs, rfl, ql, for_it (walk_enumT (K := K) (a := pl) (xs := xs)) (fun i σ H' => ∃ (u1 u2 u3 : Option V), σ = [some (.ref p), some (.ref pl), some y, u1, u2, u3] ∧ Same H H' ∧ ∀ j < i, ∀ e, ls[j]? = some e → levelD e = true)
          ⟨none, none, none, rfl, Same.refl H, fun j hj => absurd hj (Nat.not_lt_zero _)⟩ (fun i σ H' _ ⟨_, _, _, _, s1, _⟩ => same_seqT s1 ql) ?_ ?_⟩
        · rintro i v1 σ H1 H2 hi ⟨u1, u2, u3, rfl, s1, okl⟩ ⟨TT, x1, y1, rfl, nT, rfl, ex, ey⟩
          cases ex
          obtain ⟨d1, hd1, dp1⟩ := dps_getV rl ey
          have s2 := s1.trans (same_new (o := .tup [V.int (i : Nat), y1]) nT)
          refine ⟨TT, _, rfl, SqT.of upd_same, rfl, _, _, rfl, _, _, rfl, rfl, ?_⟩
          have hh : headD d1 = true := List.all_eq_true.mp gh d1 (List.mem_of_getElem? hd1)
          have dp2 := dp_same s2 dp1
          have stop : levelD d1 = false → ∀ H', Same H H' → Q (.int (i : Nat)) H' := fun hl H' s' => by
            have pl0 : rulePlace (.tuple [.tuple ls, b]) = some (i : Int) := by
              simp only [rulePlace]
              rw [if_pos ⟨n1, n6⟩, bad_at hd1 hl okl]
            have z := k _ s'
            rw [pl0] at z
            exact z
          have go : levelD d1 = true → ∀ j < i + 1, ∀ e, ls[j]? = some e → levelD e = true := fun hl j hj e he => by
            by_cases z : j = i
            · subst z
              rw [hd1] at he
              cases he
              exact hl
            · exact okl j (by omega) e he
          generalize upd H1 TT (.tup [V.int (i : Nat), y1]) = G1 at s2 dp2 ⊢
          apply cutR (α := L2.St → Hp → Prop) (F := fun R => ∀ (g : Bool) (G3 : Hp), Same G1 G3 → (g = true → ∃ e1 e2, d1 = .tuple [e1, e2] ∧ kindD e1 = true) → (g = false → levelD d1 = false) → R [some (.ref p), some (.ref pl), some y, some (.int (i : Nat)), some y1, some (.bl g)] G3)
          · intro cont
            refine ⟨_, rfl, y1, _, _, _, _, rfl, .ty "tuple", dp_ty dp2, kit_tup dp2, _, rfl, ?_⟩
            cases h1 : isTupD d1 with
            | false =>
              refine iteF (cont false G1 (Same.refl G1) (fun z => nomatch z) (fun _ => ?_))
              cases d1 with
              | tuple ds => cases h1
              | _ => rfl
            | true =>
              obtain ⟨es, rfl⟩ : ∃ es, d1 = .tuple es := by
                cases d1 with
                | tuple es => exact ⟨es, rfl⟩
                | _ => cases h1
              refine iteT ?_
              cases h2 : tupleND 2 (.tuple es) with
              | false =>
                obtain ⟨p0, xs0, rfl, q0, r0⟩ := dp_tuple dp2
                have z : ¬ (es.length : Int) = 2 := of_decide_eq_false h2
                refine ⟨_, rfl, p0, xs0, rfl, .inr q0, rfl, _, rfl, ?_⟩
                rw [show decide (V.int (xs0.length : Nat) = V.int 2) = false from decide_eq_false (fun y => z (by rw [← dps_len r0]; exact V.int.inj y))]
                exact iteF (cont false G1 (Same.refl G1) (fun z => nomatch z) (fun _ => level_not h2))
              | true =>
                obtain ⟨e1, e2, e5⟩ := level_two h2
                cases e5
                obtain ⟨p0, xv, yv, rfl, q0, da, db⟩ := dp_two dp2
                refine ⟨_, rfl, p0, _, rfl, .inr q0, rfl, _, rfl, ?_⟩
                refine iteT ⟨_, rfl, p0, _, _, _, rfl, rfl, q0, rfl, (by show 2 ≤ sizeLine; decide), fun t nt => ?_⟩
                have s3 := same_new (o := .tup [.str ("queue" : Str), .str ("stack" : Str)]) nt
                refine ⟨t, _, rfl, .inr (SqT.of upd_same), (by rw [dp_flat da]; exact hh), rfl, ?_⟩
                rw [in_kinds da]
                refine cont (kindD e1) _ s3 (fun z => ⟨e1, e2, rfl, z⟩) (fun z => ?_)
                show (kindD e1 && countD e2) = false
                rw [z]
                rfl
          intro g G3 s3 hT hF
          refine ⟨_, rfl, _, rfl, ?_⟩
          cases g with
          | false => exact iteT (iteT ⟨_, rfl, stop (hF rfl) _ (s2.trans s3)⟩)
          | true =>
            obtain ⟨e1, e2, rfl, hk⟩ := hT rfl
            obtain ⟨p0, xv, yv, rfl, q0, da, db⟩ := dp_two (dp_same s3 dp2)
            have le : levelD (.tuple [e1, e2]) = countD e2 := by
              show (kindD e1 && countD e2) = _
              rw [hk]
              rfl
            refine iteF ⟨_, rfl, p0, _, _, _, rfl, rfl, q0, rfl, rfl, _, rfl, ?_⟩
            have rest : countD e2 = integerD 1 e2 → ∃ v d, Dp K G3 yv d ∧ True → True := fun _ => ⟨yv, e2, fun _ => trivial⟩
            clear rest
            have nxt : levelD (.tuple [e1, e2]) = true → ∃ (u1 u2 u3 : Option V), ([some (.ref p), some (.ref pl), some y, some (.int (i : Nat)), some (.ref p0), some (.bl true)] : L2.St) = [some (.ref p), some (.ref pl), some y, u1, u2, u3] ∧ Same H G3 ∧ ∀ j < i + 1, ∀ e, ls[j]? = some e → levelD e = true := fun hl => ⟨_, _, _, rfl, s2.trans s3, go hl⟩
            cases db with
            | non => exact iteF (iteF (nxt le))
            | int z => exact iteT ⟨_, rfl, p0, _, _, _, rfl, rfl, q0, rfl, _, _, 1, rfl, .int z, _, rfl, not2 (fun e => nxt (le.trans e)) (fun e => ⟨_, rfl, stop (le.trans e) _ (s2.trans s3)⟩)⟩
            | bl z => exact iteT ⟨_, rfl, p0, _, _, _, rfl, rfl, q0, rfl, _, _, 1, rfl, .bl z, _, rfl, not2 (fun e => nxt (le.trans e)) (fun e => ⟨_, rfl, stop (le.trans e) _ (s2.trans s3)⟩)⟩
            | str z => exact iteT ⟨_, rfl, p0, _, _, _, rfl, rfl, q0, rfl, _, _, 1, rfl, .str z, _, rfl, not2 (fun e => nxt (le.trans e)) (fun e => ⟨_, rfl, stop (le.trans e) _ (s2.trans s3)⟩)⟩
            | lst q2 r2 => exact iteT ⟨_, rfl, p0, _, _, _, rfl, rfl, q0, rfl, _, _, 1, rfl, .lst q2 r2, _, rfl, not2 (fun e => nxt (le.trans e)) (fun e => ⟨_, rfl, stop (le.trans e) _ (s2.trans s3)⟩)⟩
            | tup q2 r2 => exact iteT ⟨_, rfl, p0, _, _, _, rfl, rfl, q0, rfl, _, _, 1, rfl, .tup q2 r2, _, rfl, not2 (fun e => nxt (le.trans e)) (fun e => ⟨_, rfl, stop (le.trans e) _ (s2.trans s3)⟩)⟩
        · rintro σ H1 ⟨u1, u2, u3, rfl, s1, okl⟩
          have none1 := bad_no (ls := ls) (fun j hj => okl j (by omega))
          have pl1 : rulePlace (.tuple [.tuple ls, b]) = if countD b = true then none else some (ls.length : Int) := by
            simp only [rulePlace]
            rw [if_pos ⟨n1, n6⟩, none1]
          have kk := k H1 s1
          rw [pl1] at kk
          refine ⟨_, rfl, rfl, _, rfl, ?_⟩
          have rest : b ≠ .none → integerD 1 b = countD b → ∀ y : V, Dp K H y b → (if integerD 1 b = true then Q .non H1 else Q (.int (xs.length : Nat)) H1) := fun _ e _ _ => by
            rw [e, ll]
            cases hc : countD b with
            | true =>
              rw [hc] at kk
              exact iteT kk
            | false =>
              rw [hc] at kk
              exact iteF kk
          cases hb with
          | non => exact iteT kk
          | int i => exact iteF ⟨_, rfl, _, _, 1, rfl, .int i, _, rfl, ite2 (fun z => by have r := rest (fun z => nomatch z) rfl _ (.int i); rw [if_pos z] at r; exact r) (fun z => ⟨_, rfl, pl, xs, rfl, .inr (same_seqT s1 ql), by have r := rest (fun z => nomatch z) rfl _ (.int i); rw [if_neg z] at r; exact r⟩)⟩
          | bl b => exact iteF ⟨_, rfl, _, _, 1, rfl, .bl b, _, rfl, iteF ⟨_, rfl, pl, xs, rfl, .inr (same_seqT s1 ql), rest (fun z => nomatch z) rfl _ (.bl b)⟩⟩
          | str x => exact iteF ⟨_, rfl, _, _, 1, rfl, .str x, _, rfl, iteF ⟨_, rfl, pl, xs, rfl, .inr (same_seqT s1 ql), rest (fun z => nomatch z) rfl _ (.str x)⟩⟩
          | lst q2 r2 => exact iteF ⟨_, rfl, _, _, 1, rfl, .lst (s1.seq q2) (dps_same s1 r2), _, rfl, iteF ⟨_, rfl, pl, xs, rfl, .inr (same_seqT s1 ql), rest (fun z => nomatch z) rfl _ (.lst q2 r2)⟩⟩
          | tup q2 r2 => exact iteF ⟨_, rfl, _, _, 1, rfl, .tup (same_seqT s1 q2) (dps_same s1 r2), _, rfl, iteF ⟨_, rfl, pl, xs, rfl, .inr (same_seqT s1 ql), rest (fun z => nomatch z) rfl _ (.tup q2 r2)⟩⟩
end
end Vk
set_option maxHeartbeats 8000000
namespace Vk
open PySem PySem.Spec PyProof.Rows L2 GxR
theorem cnt_ok {K : PySem.W.Frag} {x : V} (hx : x = .non ∨ ∃ i : Int, 1 ≤ i ∧ x = .int i) : ∃ d, countD d = true ∧ ∀ H, Dp K H x d := by
  rcases hx with rfl | ⟨i, h, rfl⟩
  · exact ⟨.none, rfl, fun _ => .non⟩
  · exact ⟨.int i, decide_eq_true h, fun _ => .int i⟩
theorem kind_ok {K : PySem.W.Frag} {x : V} (hx : x ∈ [V.str ("queue" : Str), .str ("stack" : Str)]) : ∃ d, kindD d = true ∧ ∀ H, Dp K H x d := by
  simp only [List.mem_cons, List.not_mem_nil, or_false] at hx
  rcases hx with rfl | rfl
  · exact ⟨.str ("queue" : Str), by decide +kernel, fun _ => .str _⟩
  · exact ⟨.str ("stack" : Str), by decide +kernel, fun _ => .str _⟩
section
variable {P : Program} {w : World} {K : PySem.W.Frag} {mg : Str → Option Value} {base : Heap}
def spRule (K : PySem.W.Frag) : Sp := fun vs H Q _ => ∃ (a sc : Addr) (n : Int), vs = [.ref a] ∧ Sto sc a n H ∧ n ≤ 900000 ∧
  ∀ (v : V) (ls : List PyData) (b : PyData) (H' : Hp), Sto sc a (n + 40) H' → Kept a H H' → Dp K (Off a H') v (.tuple [.tuple ls, b]) → 1 ≤ ls.length → ls.length ≤ 6 → ls.all levelD = true → countD b = true → Q v H'
theorem scRule : FnScope ["store", "count", "levels", "k", "few", "quantum", "boosts"] ["store"] (defScope sRule) := ⟨rfl, rfl, rfl, by decide +kernel, rfl, by decide +kernel, by decide +kernel⟩
theorem ok_rule (D : Df K mg "_law_rule" sRule ["store"]) (B : Blt mg) (PK : Cl P w K mg base CX0 2 "_law_pick" ["store", "count"] spPick) : Cl P w K mg base CX0 3 "_law_rule" ["store"] (spRule K) := by
  refine cl0 D scRule (fun vs H Q E h => ?_) (fun f cdv A outer s H vs Q E hr h => ?_)
  · obtain ⟨a, sc, n, rfl, _⟩ := h
    rfl
  · obtain ⟨a, sc, n, rfl, S, n1, k⟩ := h
    refine ⟨_, pss_cons (ps_set (i := 1) scRule.nd rfl (Or.inl rfl) (pe_op op_add pe_int (pc PK hr (by decide) (pa_cons (pv 0) (pa_cons (pe_ix ix_list (pe_lst (pa_cons pe_int (pa_cons pe_int (pa_cons pe_int (pa_cons pe_int (pa_cons pe_int (pa_cons pe_int (pa_cons pe_int (pa_cons pe_int pa_nil))))))))) (pc PK hr (by decide) (pa_cons (pv 0) (pa_cons pe_int pa_nil))) (fun _ _ => rfl)) pa_nil)))))
      (pss_cons (ps_set (i := 2) scRule.nd rfl (Or.inl rfl) (pe_lst pa_nil))
      (pss_cons (ps_for PassesOwn.never rfl (pi_range1 rfl B.range (pa_cons (pv 1) pa_nil)) (pg_name (i := 3) scRule.nd rfl (Or.inl rfl))
        (pss_cons (ps_set (i := 4) scRule.nd rfl (Or.inl rfl) (pe_op op_add pe_int (pc PK hr (by decide) (pa_cons (pv 0) (pa_cons pe_int pa_nil)))))
        (pss_cons (ps_set (i := 5) scRule.nd rfl (Or.inl rfl) (pe_ix ix_list (pe_lst (pa_cons pe_non (pa_cons pe_int (pa_cons (pv 4) (pa_cons (pv 4) (pa_cons (pe_op op_add pe_int (pc PK hr (by decide) (pa_cons (pv 0) (pa_cons pe_int pa_nil)))) (pa_cons (pe_op op_pow pe_int pe_int) pa_nil))))))) (pc PK hr (by decide) (pa_cons (pv 0) (pa_cons pe_int pa_nil))) (fun _ _ => rfl)))
        (pss_one (ps_expr (pe_bm PySem.F.plainAttrs_list PySem.F.slot_list_append PySem.F.type_list_append mt_append (pv 2)
          (pa_cons (pe_tup (pa_cons (pe_ix ix_list (pe_lst (pa_cons pe_str (pa_cons pe_str pa_nil))) (pc PK hr (by decide) (pa_cons (pv 0) (pa_cons pe_int pa_nil))) (fun _ _ => rfl)) (pa_cons (pv 5) pa_nil))) pa_nil)))))))
      (pss_cons (ps_set (i := 6) scRule.nd rfl (Or.inl rfl) (pe_lst (pa_cons pe_non (pa_cons pe_non (pa_cons (pe_op op_add pe_int (pc PK hr (by decide) (pa_cons (pv 0) (pa_cons pe_int pa_nil)))) (pa_cons (pe_op op_add pe_int (pc PK hr (by decide) (pa_cons (pv 0) (pa_cons pe_int pa_nil)))) (pa_cons (pe_op op_pow pe_int pe_int) pa_nil)))))))
      (pss_one (ps_ret (pe_tup (pa_cons (pe_callTy call_tuple_of (by rfl) B.tuple (by decide +kernel) (pa_cons (pv 2) pa_nil)) (pa_cons (pe_ix ix_list (pv 6) (pc PK hr (by decide) (pa_cons (pv 0) (pa_cons pe_int pa_nil))) (fun _ _ => rfl)) pa_nil)))))))), ?_⟩
    -- count
    refine ⟨_, rfl, (by show 8 ≤ sizeLine; decide), fun q0 nq0 => ?_⟩
    have sq0 := same_new (o := .lst [.int 3, .int 3, .int 3, .int 3, .int 3, .int 3, .int 3, .int 6]) nq0
    have q0a := S.ne nq0
    refine ⟨_, rfl, a, sc, 8, n, rfl, by decide, by decide, S.same sq0, by omega, fun r H1 r0 r8 S1 K1 => ?_⟩
    obtain ⟨mv, hmv, mem⟩ := atI_mem (xs := [V.int 3, .int 3, .int 3, .int 3, .int 3, .int 3, .int 3, .int 6]) r0 r8
    obtain ⟨m, rfl, m3, m6⟩ : ∃ m : Int, mv = .int m ∧ 3 ≤ m ∧ m ≤ 6 := by
      simp only [List.mem_cons, List.not_mem_nil, or_false] at mem
      rcases mem with rfl | rfl | rfl | rfl | rfl | rfl | rfl | rfl
      all_goals exact ⟨_, rfl, by decide, by decide⟩
    refine ⟨q0, _, _, .int m, rfl, rfl, SqL.of (K1.at upd_same q0a), hmv, a, sc, m, n + 1, rfl, by omega, by omega, S1, by omega, fun c H2 c0 cm S2 K2 => ?_⟩
    refine ⟨_, _, rfl, rfl, ?_⟩
    have K02 : Kept a H H2 := (kept_same sq0).trans (K1.trans K2)
    -- levels = []
    refine ⟨(by show 0 ≤ sizeLine; decide), fun l nl => ?_⟩
    have sl := same_new (o := .lst []) nl
    have l1 : l ≠ a := S2.ne nl
    have l2 : l ≠ sc := S2.ne2 nl
    have S3 := S2.same sl
    refine ⟨_, rfl, 1 + c, rfl, by omega, by omega, ?_⟩
    have l3 : upd H2 l (.lst []) l = some (.lst []) := upd_same
    have K23 : Kept a H2 (upd H2 l (.lst [])) := kept_same sl
    generalize upd H2 l (.lst []) = H3 at S3 l3 K23
    refine for_range (lo := 0) (n := (1 + c).toNat) (fun i σ H' => ∃ (u3 u4 u5 : Option V) (xs : List V) (ds : List PyData), σ = [some (.ref a), some (.int (1 + c)), some (.ref l), u3, u4, u5, none] ∧ Sto sc a (n + 2 + 4 * i) H' ∧ Same (Off l (Off a H3)) (Off l (Off a H')) ∧
        H' l = some (.lst xs) ∧ DpAll K (Off l (Off a H')) xs ds ∧ ds.length = i ∧ ds.all levelD = true)
      ⟨none, none, none, [], [], rfl, S3.more (by omega), Same.refl _, l3, .nil, rfl, rfl⟩ ?_ ?_
    · rintro i σ G hi ⟨u3, u4, u5, xs, ds, rfl, SG, KG, lG, dG, len, okG⟩
      refine ⟨_, rfl, a, sc, 4, _, rfl, by decide, by decide, SG, by omega, fun x4 G1 x40 x44 SG1 KG1 => ?_⟩
      refine ⟨_, _, rfl, rfl, ?_⟩
      refine ⟨_, rfl, _, rfl, _, rfl, a, sc, 40, _, rfl, by decide, by decide, SG1, by omega, fun x5 G2 x50 x54 SG2 KG2 => ?_⟩
      refine ⟨_, _, rfl, rfl, _, _, rfl, rfl, ⟨by decide, by decide, by decide⟩, (by show 6 ≤ sizeLine; decide), fun q nq => ?_⟩
      have sq := same_new (o := .lst [.non, .int 1, .int (1 + x4), .int (1 + x4), .int (5 + x5), .int (10 ^ Int.toNat 30)]) nq
      have qa := SG2.ne nq
      refine ⟨_, rfl, a, sc, 6, _, rfl, by decide, by decide, SG2.same sq, by omega, fun x6 G3 x60 x66 SG3 KG3 => ?_⟩
      obtain ⟨nv, hnv, mnv⟩ := atI_mem (xs := [V.non, .int 1, .int (1 + x4), .int (1 + x4), .int (5 + x5), .int (10 ^ Int.toNat 30)]) x60 x66
      refine ⟨q, _, _, nv, rfl, rfl, SqL.of (KG3.at upd_same qa), hnv, ?_⟩
      obtain ⟨nd, nd1, nd2⟩ := cnt_ok (K := K) (x := nv) (by
        simp only [List.mem_cons, List.not_mem_nil, or_false] at mnv
        rcases mnv with rfl | rfl | rfl | rfl | rfl | rfl
        · exact .inl rfl
        · exact .inr ⟨_, by decide, rfl⟩
        · exact .inr ⟨_, by omega, rfl⟩
        · exact .inr ⟨_, by omega, rfl⟩
        · exact .inr ⟨_, by omega, rfl⟩
        · exact .inr ⟨_, by decide +kernel, rfl⟩)
      have K3 : Kept a G G3 := KG1.trans (KG2.trans ((kept_same sq).trans KG3))
      have lG3 : G3 l = some (.lst xs) := K3.at lG l1
      refine ⟨_, rfl, .inl ⟨rfl, _, SqL.of lG3⟩, ?_⟩
      refine ⟨(by show 2 ≤ sizeLine; decide), fun q2 nq2 => ?_⟩
      have sq2 := same_new (o := .lst [.str ("queue" : Str), .str ("stack" : Str)]) nq2
      have q2a := SG3.ne nq2
      refine ⟨_, rfl, a, sc, 2, _, rfl, by decide, by decide, SG3.same sq2, by omega, fun x7 G4 x70 x72 SG4 KG4 => ?_⟩
      obtain ⟨kv, hkv, mkv⟩ := atI_mem (xs := [V.str ("queue" : Str), .str ("stack" : Str)]) x70 x72
      obtain ⟨kd, kd1, kd2⟩ := kind_ok (K := K) mkv
      refine ⟨q2, _, _, kv, rfl, rfl, SqL.of (KG4.at upd_same q2a), hkv, _, rfl, (by show 2 ≤ sizeLine; decide), fun t nt => ?_⟩
      have ta := SG4.ne nt
      have lG4 : G4 l = some (.lst xs) := KG4.at (sq2.at lG3) l1
      have tl : l ≠ t := ne_of_none lG4 nt
      have st := same_new (o := .tup [kv, nv]) nt
      have xl : xs.length = i := by rw [dps_len dG, len]
      refine ⟨l, _, _, rfl, rfl, st.at lG4, by rw [xl]; exact Nat.lt_of_lt_of_le (show i < 7 by omega) (by decide), ?_⟩
      have KK : Kept a G (upd G4 t (.tup [kv, nv])) := K3.trans ((kept_same sq2).trans (KG4.trans (kept_same st)))
      have offs : Off l (Off a (upd (upd G4 t (.tup [kv, nv])) l (.lst (xs ++ [.ref t])))) = Off l (Off a (upd G4 t (.tup [kv, nv]))) := by
        rw [off_other l1, off_upd]
      refine ⟨_, _, _, xs ++ [.ref t], ds ++ [.tuple [kd, nd]], rfl, ?_, ?_, upd_same, ?_, by rw [List.length_append, len]; rfl, ?_⟩
      · exact ((SG4.same st).other l1 l2).more (by omega)
      · rw [offs]
        exact KG.trans (off_mono KK)
      · rw [offs]
        refine dps_app (dps_same (off_mono KK) dG) (.cons (.tup (SqT.of ?_) (.cons (kd2 _) (.cons (nd2 _) .nil))) .nil)
        rw [off_ne (Ne.symm tl), off_ne ta, upd_same]
      · rw [List.all_append, okG]
        show (true && ((kindD kd && countD nd) && true)) = true
        rw [kd1, nd1]
        rfl
    · rintro σ G ⟨u3, u4, u5, xs, ds, rfl, SG, KG, lG, dG, len, okG⟩
      have KGf : Kept a H G := K02.trans (kept_of_off nl ((off_mono K23).trans KG))
      refine ⟨_, rfl, a, sc, 9, _, rfl, by decide, by decide, SG, by omega, fun y1 G1 y10 y19 SG1 KG1 => ?_⟩
      refine ⟨_, _, rfl, rfl, _, rfl, a, sc, 90, _, rfl, by decide, by decide, SG1, by omega, fun y2 G2 y20 y29 SG2 KG2 => ?_⟩
      refine ⟨_, _, rfl, rfl, _, _, rfl, rfl, ⟨by decide, by decide, by decide⟩, (by show 5 ≤ sizeLine; decide), fun q nq => ?_⟩
      have sq := same_new (o := .lst [.non, .non, .int (1 + y1), .int (10 + y2), .int (10 ^ Int.toNat 30)]) nq
      have qa := SG2.ne nq
      have lq : l ≠ q := ne_of_none (KG2.at (KG1.at lG l1) l1) nq
      have lG2 : upd G2 q (.lst [.non, .non, .int (1 + y1), .int (10 + y2), .int (10 ^ Int.toNat 30)]) l = some (.lst xs) := sq.at (KG2.at (KG1.at lG l1) l1)
      refine ⟨_, rfl, l, xs, rfl, .inl ⟨SqL.of lG2, fun tp ntp => ?_⟩⟩
      have stp := same_new (o := .tup xs) ntp
      have tpa := (SG2.same sq).ne ntp
      refine ⟨_, rfl, _, rfl, a, sc, 5, _, rfl, by decide, by decide, (SG2.same sq).same stp, by omega, fun y3 G3 y30 y35 SG3 KG3 => ?_⟩
      obtain ⟨nv, hnv, mnv⟩ := atI_mem (xs := [V.non, .non, .int (1 + y1), .int (10 + y2), .int (10 ^ Int.toNat 30)]) y30 y35
      refine ⟨q, _, _, nv, rfl, rfl, SqL.of (KG3.at (stp.at upd_same) qa), hnv, (by show 2 ≤ sizeLine; decide), fun p np => ?_⟩
      obtain ⟨nd, nd1, nd2⟩ := cnt_ok (K := K) (x := nv) (by
        simp only [List.mem_cons, List.not_mem_nil, or_false] at mnv
        rcases mnv with rfl | rfl | rfl | rfl | rfl
        · exact .inl rfl
        · exact .inl rfl
        · exact .inr ⟨_, by omega, rfl⟩
        · exact .inr ⟨_, by omega, rfl⟩
        · exact .inr ⟨_, by decide +kernel, rfl⟩)
      have sp := same_new (o := .tup [.ref tp, nv]) np
      have pa := SG3.ne np
      have KF : Kept a G (upd G3 p (.tup [.ref tp, nv])) := KG1.trans (KG2.trans ((kept_same sq).trans ((kept_same stp).trans (KG3.trans (kept_same sp)))))
      have dG' : DpAll K (Off a G) xs ds := dps_same (off_sub l _) dG
      refine k (.ref p) ds nd _ ((SG3.same sp).more (by omega)) (KGf.trans KF) (.tup (SqT.of ?_) (.cons (.tup (a := tp) (SqT.of ?_) (dps_same KF dG')) (.cons (nd2 _) .nil))) (by omega) (by omega) okG nd1
      · rw [off_ne pa, upd_same]
      · rw [off_ne tpa]
        exact sp.at (KG3.at upd_same tpa)
end
end Vk
set_option maxHeartbeats 8000000
namespace Vk
open PySem PySem.Spec PyProof.Rows L2 GxR
theorem level_two' {d : PyData} (h : levelD d = true) : ∃ a b, d = .tuple [a, b] ∧ kindD a = true := by
  cases ht : tupleND 2 d with
  | false =>
    rw [level_not ht] at h
    cases h
  | true =>
    obtain ⟨a, b, rfl⟩ := level_two ht
    refine ⟨a, b, rfl, ?_⟩
    have h' : (kindD a && countD b) = true := h
    exact (Bool.and_eq_true_iff.mp h').1
theorem kind_flat {d : PyData} (h : kindD d = true) : flatD d = true := by
  cases d with
  | str x => rfl
  | _ => cases h
theorem heads_of {ls : List PyData} (h : ls.all levelD = true) : ls.all headD = true := by
  rw [List.all_eq_true] at h ⊢
  intro x hx
  obtain ⟨a, b, rfl, hk⟩ := level_two' (h x hx)
  exact kind_flat hk
theorem heads_cut {ls : List PyData} (h : ls.all headD = true) (i j : Nat) : ((ls.drop i).take j).all headD = true := by
  rw [List.all_eq_true] at h ⊢
  exact fun x hx => h x (List.mem_of_mem_drop (List.mem_of_mem_take hx))
section
variable {P : Program} {w : World} {K : PySem.W.Frag} {mg : Str → Option Value} {base : Heap}
def spBadRule (K : PySem.W.Frag) : Sp := fun vs H Q _ => ∃ (a sc l : Addr) (n : Int) (v : V) (ls : List PyData) (b : PyData), vs = [.ref a, v] ∧ Sto sc a n H ∧ H l ≠ none ∧ n ≤ 900000 ∧ Dp K (Of2 l a H) v (.tuple [.tuple ls, b]) ∧ 1 ≤ ls.length ∧ ls.length ≤ 6 ∧ ls.all levelD = true ∧
  ∀ (v' : V) (d' : PyData) (H' : Hp), Sto sc a (n + 4) H' → Kept a H H' → Dp K (Of2 l a H') v' d' → goodHeads d' = true → Q v' H'
theorem scBadRule : FnScope ["store", "policy", "levels", "boost", "at", "bads"] ["store", "policy"] (defScope sBadRule) := ⟨rfl, rfl, rfl, by decide +kernel, rfl, by decide +kernel, by decide +kernel⟩
theorem ok_badRule (D : Df K mg "_law_bad_rule" sBadRule ["store", "policy"]) (B : Blt mg) (PK : Cl P w K mg base CX0 2 "_law_pick" ["store", "count"] spPick) : Cl P w K mg base CX0 3 "_law_bad_rule" ["store", "policy"] (spBadRule K) := by
  refine cl0 D scBadRule (fun vs H Q E h => ?_) (fun f cdv A outer s H vs Q E hr h => ?_)
  · obtain ⟨a, sc, l, n, v, ls, b, rfl, _⟩ := h
    rfl
  · obtain ⟨a, sc, l, n, v, ls, b, rfl, S, hl, n1, hd, len1, len6, okl, k⟩ := h
    refine ⟨_, (pss_cons (ps_asg (pv 1) (pg_tup rfl (pgs_cons (pg_name (i := 2) scBadRule.nd rfl (.inl rfl)) (pgs_cons (pg_name (i := 3) scBadRule.nd rfl (.inl rfl)) pgs_nil))))
      (pss_cons (ps_set (i := 4) scBadRule.nd rfl (Or.inl rfl) (pc PK hr (by decide) (pa_cons (pv 0) (pa_cons (pe_callB call_len_seq (by rfl) B.len PySem.boot_len (pa_cons (pv 2) pa_nil)) pa_nil))))
      (pss_cons (ps_set (i := 5) scBadRule.nd rfl (Or.inl rfl) (pe_lst (pa_cons (pe_tup (pa_cons (pe_op op_catA (pe_op op_catA (pe_slice sl_tupA (pv 2) po_none (po_some (pv 4))) (pe_tup (pa_cons (pe_tup (pa_cons pe_str (pa_cons pe_int pa_nil))) pa_nil))) (pe_slice sl_tupA (pv 2) (po_some (pe_op op_add (pv 4) pe_int)) po_none)) (pa_cons (pv 3) pa_nil))) (pa_cons (pe_tup (pa_cons (pe_op op_catA (pe_op op_catA (pe_slice sl_tupA (pv 2) po_none (po_some (pv 4))) (pe_tup (pa_cons pe_non pa_nil))) (pe_slice sl_tupA (pv 2) (po_some (pe_op op_add (pv 4) pe_int)) po_none)) (pa_cons (pv 3) pa_nil))) pa_nil))))
      (pss_cons (ps_set (i := 5) scBadRule.nd rfl (Or.inl rfl) (pe_op op_cat (pv 5) (pe_lst (pa_cons (pe_tup (pa_cons (pv 2) (pa_cons pe_int pa_nil))) (pa_cons (pe_tup (pa_cons (pv 2) (pa_cons pe_bl pa_nil))) (pa_cons (pe_tup (pa_cons (pe_tup pa_nil) (pa_cons (pv 3) pa_nil))) (pa_cons (pe_tup (pa_cons (pe_callTy call_list_of (by rfl) B.list (by decide +kernel) (pa_cons (pv 2) pa_nil)) (pa_cons (pv 3) pa_nil))) (pa_cons (pe_lst (pa_cons (pv 2) (pa_cons (pv 3) pa_nil))) (pa_cons pe_non (pa_cons (pe_tup (pa_cons (pv 2) pa_nil)) pa_nil))))))))))
      (pss_one (ps_ret (pe_ix ix_list (pe_op op_cat (pv 5) (pe_lst (pa_cons (pe_tup (pa_cons (pe_op op_catA (pe_op op_catA (pe_slice sl_tupA (pv 2) po_none (po_some (pv 4))) (pe_tup (pa_cons (pe_tup (pa_cons pe_str (pa_cons pe_int pa_nil))) pa_nil))) (pe_slice sl_tupA (pv 2) (po_some (pe_op op_add (pv 4) pe_int)) po_none)) (pa_cons pe_int pa_nil))) pa_nil))) (pc PK hr (by decide) (pa_cons (pv 0) (pa_cons pe_int pa_nil))) (fun _ _ => rfl)))))))), ?_⟩
    have hh := heads_of okl
    obtain ⟨pr, x, y, rfl, q, hx, hb⟩ := dp_two hd
    obtain ⟨pl, xs, rfl, ql, rl⟩ := dp_tuple hx
    have ll := dps_len rl
    refine ⟨_, rfl, pr, _, rfl, same_seqT (of2_sub l a H) q, rfl, _, _, rfl, _, _, rfl, rfl, ?_⟩
    refine ⟨_, rfl, _, rfl, pl, xs, rfl, .inr (same_seqT (of2_sub l a H) ql), a, sc, _, n, rfl, by omega, by omega, S, by omega, fun at_ G0 at0 at1 S1 K1 => ?_⟩
    have hA := has2 (l := l) S1 K1 hl
    have hx := dp_same (of2_kept K1) hx
    have hb := dp_same (of2_kept K1) hb
    have ql1 : SqT K (Of2 l a G0) pl xs := same_seqT (of2_kept K1) ql
    have rl1 := dps_same (of2_kept K1) rl
    have g := Same.refl G0
    refine ⟨_, rfl, _, rfl, _, rfl, slice_go2 hA hx (fun z1 G1 s1 d1 => ?_)⟩
    have hA := s1.has2 hA
    have hx := dp_up2 (K := K) s1 hx
    have hb := dp_up2 (K := K) s1 hb
    have g := g.trans s1
    refine ⟨(by show 2 ≤ sizeLine; decide), fun t2 m2 => ?_⟩
    have d2 := new_tup2 (K := K) (vs := [.str ("queue" : Str), .int 0]) hA m2 (.cons (.str _) (.cons (.int _) .nil))
    have s2 := same_new (o := .tup [.str ("queue" : Str), .int 0]) m2
    have hA := s2.has2 hA
    have hx := dp_up2 (K := K) s2 hx
    have hb := dp_up2 (K := K) s2 hb
    have d1 := dp_up2 (K := K) s2 d1
    have g := g.trans s2
    refine ⟨(by show 1 ≤ sizeLine; decide), fun t3 m3 => ?_⟩
    have d3 := new_tup2 (K := K) (vs := [.ref t2]) hA m3 (.cons d2 .nil)
    have s3 := same_new (o := .tup [.ref t2]) m3
    have hA := s3.has2 hA
    have hx := dp_up2 (K := K) s3 hx
    have hb := dp_up2 (K := K) s3 hb
    have d1 := dp_up2 (K := K) s3 d1
    have d2 := dp_up2 (K := K) s3 d2
    have g := g.trans s3
    refine cat_go2 hA d1 d3 ?_ (fun z4 G4 s4 d4 => ?_)
    · simp only [List.length_append, List.length_take, List.length_drop, List.length_cons, List.length_nil]
      omega
    have hA := s4.has2 hA
    have hx := dp_up2 (K := K) s4 hx
    have hb := dp_up2 (K := K) s4 hb
    have g := g.trans s4
    refine ⟨_, rfl, _, rfl, _, _, rfl, rfl, _, rfl, ?_⟩
    dsimp only [tNoPart]
    refine slice_go2 hA hx (fun z5 G5 s5 d5 => ?_)
    have hA := s5.has2 hA
    have hx := dp_up2 (K := K) s5 hx
    have hb := dp_up2 (K := K) s5 hb
    have d4 := dp_up2 (K := K) s5 d4
    have g := g.trans s5
    refine cat_go2 hA d4 d5 ?_ (fun z6 G6 s6 d6 => ?_)
    · simp only [List.length_append, List.length_take, List.length_drop, List.length_cons, List.length_nil]
      omega
    have hA := s6.has2 hA
    have hx := dp_up2 (K := K) s6 hx
    have hb := dp_up2 (K := K) s6 hb
    have g := g.trans s6
    refine ⟨_, rfl, (by show 2 ≤ sizeLine; decide), fun t7 m7 => ?_⟩
    have d7 := new_tup2 (K := K) (vs := [z6, y]) hA m7 (.cons d6 (.cons hb .nil))
    have s7 := same_new (o := .tup [z6, y]) m7
    have hA := s7.has2 hA
    have hx := dp_up2 (K := K) s7 hx
    have hb := dp_up2 (K := K) s7 hb
    have d6 := dp_up2 (K := K) s7 d6
    have g := g.trans s7
    refine ⟨_, rfl, _, rfl, _, rfl, slice_go2 hA hx (fun z8 G8 s8 d8 => ?_)⟩
    have hA := s8.has2 hA
    have hx := dp_up2 (K := K) s8 hx
    have hb := dp_up2 (K := K) s8 hb
    have d7 := dp_up2 (K := K) s8 d7
    have g := g.trans s8
    refine ⟨(by show 1 ≤ sizeLine; decide), fun t9 m9 => ?_⟩
    have d9 := new_tup2 (K := K) (vs := [.non]) hA m9 (.cons .non .nil)
    have s9 := same_new (o := .tup [.non]) m9
    have hA := s9.has2 hA
    have hx := dp_up2 (K := K) s9 hx
    have hb := dp_up2 (K := K) s9 hb
    have d7 := dp_up2 (K := K) s9 d7
    have d8 := dp_up2 (K := K) s9 d8
    have g := g.trans s9
    refine cat_go2 hA d8 d9 ?_ (fun z10 G10 s10 d10 => ?_)
    · simp only [List.length_append, List.length_take, List.length_drop, List.length_cons, List.length_nil]
      omega
    have hA := s10.has2 hA
    have hx := dp_up2 (K := K) s10 hx
    have hb := dp_up2 (K := K) s10 hb
    have d7 := dp_up2 (K := K) s10 d7
    have g := g.trans s10
    refine ⟨_, rfl, _, rfl, _, _, rfl, rfl, _, rfl, ?_⟩
    dsimp only [tNoPart]
    refine slice_go2 hA hx (fun z11 G11 s11 d11 => ?_)
    have hA := s11.has2 hA
    have hx := dp_up2 (K := K) s11 hx
    have hb := dp_up2 (K := K) s11 hb
    have d7 := dp_up2 (K := K) s11 d7
    have d10 := dp_up2 (K := K) s11 d10
    have g := g.trans s11
    refine cat_go2 hA d10 d11 ?_ (fun z12 G12 s12 d12 => ?_)
    · simp only [List.length_append, List.length_take, List.length_drop, List.length_cons, List.length_nil]
      omega
    have hA := s12.has2 hA
    have hx := dp_up2 (K := K) s12 hx
    have hb := dp_up2 (K := K) s12 hb
    have d7 := dp_up2 (K := K) s12 d7
    have g := g.trans s12
    refine ⟨_, rfl, (by show 2 ≤ sizeLine; decide), fun t13 m13 => ?_⟩
    have d13 := new_tup2 (K := K) (vs := [z12, y]) hA m13 (.cons d12 (.cons hb .nil))
    have s13 := same_new (o := .tup [z12, y]) m13
    have hA := s13.has2 hA
    have hx := dp_up2 (K := K) s13 hx
    have hb := dp_up2 (K := K) s13 hb
    have d7 := dp_up2 (K := K) s13 d7
    have d12 := dp_up2 (K := K) s13 d12
    have g := g.trans s13
    refine ⟨(by show 2 ≤ sizeLine; decide), fun t14 m14 => ?_⟩
    have s14 := same_new (o := .lst [.ref t7, .ref t13]) m14
    have hA := s14.has2 hA
    have hx := dp_up2 (K := K) s14 hx
    have hb := dp_up2 (K := K) s14 hb
    have d7 := dp_up2 (K := K) s14 d7
    have d13 := dp_up2 (K := K) s14 d13
    have g := g.trans s14
    have w1 := new_at s14
    refine ⟨_, rfl, ?_⟩
    refine ⟨_, rfl, (by show 2 ≤ sizeLine; decide), fun t15 m15 => ?_⟩
    have d15 := new_tup2 (K := K) (vs := [.ref pl, .int 0]) hA m15 (.cons hx (.cons (.int _) .nil))
    have s15 := same_new (o := .tup [.ref pl, .int 0]) m15
    have hA := s15.has2 hA
    have hx := dp_up2 (K := K) s15 hx
    have hb := dp_up2 (K := K) s15 hb
    have d7 := dp_up2 (K := K) s15 d7
    have d13 := dp_up2 (K := K) s15 d13
    have w1 := s15.at w1
    have g := g.trans s15
    refine ⟨_, rfl, (by show 2 ≤ sizeLine; decide), fun t16 m16 => ?_⟩
    have d16 := new_tup2 (K := K) (vs := [.ref pl, .bl true]) hA m16 (.cons hx (.cons (.bl _) .nil))
    have s16 := same_new (o := .tup [.ref pl, .bl true]) m16
    have hA := s16.has2 hA
    have hx := dp_up2 (K := K) s16 hx
    have hb := dp_up2 (K := K) s16 hb
    have d7 := dp_up2 (K := K) s16 d7
    have d13 := dp_up2 (K := K) s16 d13
    have d15 := dp_up2 (K := K) s16 d15
    have w1 := s16.at w1
    have g := g.trans s16
    refine ⟨(by show 0 ≤ sizeLine; decide), fun t17 m17 => ?_⟩
    have d17 := new_tup2 (K := K) (vs := []) hA m17 .nil
    have s17 := same_new (o := .tup []) m17
    have hA := s17.has2 hA
    have hx := dp_up2 (K := K) s17 hx
    have hb := dp_up2 (K := K) s17 hb
    have d7 := dp_up2 (K := K) s17 d7
    have d13 := dp_up2 (K := K) s17 d13
    have d15 := dp_up2 (K := K) s17 d15
    have d16 := dp_up2 (K := K) s17 d16
    have w1 := s17.at w1
    have g := g.trans s17
    refine ⟨_, rfl, (by show 2 ≤ sizeLine; decide), fun t18 m18 => ?_⟩
    have d18 := new_tup2 (K := K) (vs := [.ref t17, y]) hA m18 (.cons d17 (.cons hb .nil))
    have s18 := same_new (o := .tup [.ref t17, y]) m18
    have hA := s18.has2 hA
    have hx := dp_up2 (K := K) s18 hx
    have hb := dp_up2 (K := K) s18 hb
    have d7 := dp_up2 (K := K) s18 d7
    have d13 := dp_up2 (K := K) s18 d13
    have d15 := dp_up2 (K := K) s18 d15
    have d16 := dp_up2 (K := K) s18 d16
    have d17 := dp_up2 (K := K) s18 d17
    have w1 := s18.at w1
    have g := g.trans s18
    refine ⟨_, rfl, pl, xs, rfl, .inr (same_seqT (of2_sub l a _) (same_seqT (of2_mono g) ql1)), fun t19 m19 => ?_⟩
    have d19 := new_lst2 (K := K) (vs := xs) hA m19 (dps_same (of2_mono g) rl1)
    have s19 := same_new (o := .lst xs) m19
    have hA := s19.has2 hA
    have hx := dp_up2 (K := K) s19 hx
    have hb := dp_up2 (K := K) s19 hb
    have d7 := dp_up2 (K := K) s19 d7
    have d13 := dp_up2 (K := K) s19 d13
    have d15 := dp_up2 (K := K) s19 d15
    have d16 := dp_up2 (K := K) s19 d16
    have d18 := dp_up2 (K := K) s19 d18
    have w1 := s19.at w1
    have g := g.trans s19
    refine ⟨_, rfl, (by show 2 ≤ sizeLine; decide), fun t20 m20 => ?_⟩
    have d20 := new_tup2 (K := K) (vs := [.ref t19, y]) hA m20 (.cons d19 (.cons hb .nil))
    have s20 := same_new (o := .tup [.ref t19, y]) m20
    have hA := s20.has2 hA
    have hx := dp_up2 (K := K) s20 hx
    have hb := dp_up2 (K := K) s20 hb
    have d7 := dp_up2 (K := K) s20 d7
    have d13 := dp_up2 (K := K) s20 d13
    have d15 := dp_up2 (K := K) s20 d15
    have d16 := dp_up2 (K := K) s20 d16
    have d18 := dp_up2 (K := K) s20 d18
    have d19 := dp_up2 (K := K) s20 d19
    have w1 := s20.at w1
    have g := g.trans s20
    refine ⟨_, rfl, _, rfl, (by show 2 ≤ sizeLine; decide), fun t21 m21 => ?_⟩
    have d21 := new_lst2 (K := K) (vs := [.ref pl, y]) hA m21 (.cons hx (.cons hb .nil))
    have s21 := same_new (o := .lst [.ref pl, y]) m21
    have hA := s21.has2 hA
    have hx := dp_up2 (K := K) s21 hx
    have hb := dp_up2 (K := K) s21 hb
    have d7 := dp_up2 (K := K) s21 d7
    have d13 := dp_up2 (K := K) s21 d13
    have d15 := dp_up2 (K := K) s21 d15
    have d16 := dp_up2 (K := K) s21 d16
    have d18 := dp_up2 (K := K) s21 d18
    have d20 := dp_up2 (K := K) s21 d20
    have w1 := s21.at w1
    have g := g.trans s21
    refine ⟨_, rfl, (by show 1 ≤ sizeLine; decide), fun t22 m22 => ?_⟩
    have d22 := new_tup2 (K := K) (vs := [.ref pl]) hA m22 (.cons hx .nil)
    have s22 := same_new (o := .tup [.ref pl]) m22
    have hA := s22.has2 hA
    have hx := dp_up2 (K := K) s22 hx
    have hb := dp_up2 (K := K) s22 hb
    have d7 := dp_up2 (K := K) s22 d7
    have d13 := dp_up2 (K := K) s22 d13
    have d15 := dp_up2 (K := K) s22 d15
    have d16 := dp_up2 (K := K) s22 d16
    have d18 := dp_up2 (K := K) s22 d18
    have d20 := dp_up2 (K := K) s22 d20
    have d21 := dp_up2 (K := K) s22 d21
    have w1 := s22.at w1
    have g := g.trans s22
    refine ⟨(by show 7 ≤ sizeLine; decide), fun t23 m23 => ?_⟩
    have s23 := same_new (o := .lst [.ref t15, .ref t16, .ref t18, .ref t20, .ref t21, .non, .ref t22]) m23
    have hA := s23.has2 hA
    have hx := dp_up2 (K := K) s23 hx
    have hb := dp_up2 (K := K) s23 hb
    have d7 := dp_up2 (K := K) s23 d7
    have d13 := dp_up2 (K := K) s23 d13
    have d15 := dp_up2 (K := K) s23 d15
    have d16 := dp_up2 (K := K) s23 d16
    have d18 := dp_up2 (K := K) s23 d18
    have d20 := dp_up2 (K := K) s23 d20
    have d21 := dp_up2 (K := K) s23 d21
    have d22 := dp_up2 (K := K) s23 d22
    have w1 := s23.at w1
    have g := g.trans s23
    have w2 := new_at s23
    refine ⟨t14, t23, _, _, rfl, rfl, w1, w2, (by show 2 + 7 ≤ sizeLine; decide), fun t24 m24 => ?_⟩
    have s24 := same_new (o := .lst ([.ref t7, .ref t13] ++ [.ref t15, .ref t16, .ref t18, .ref t20, .ref t21, .non, .ref t22])) m24
    have hA := s24.has2 hA
    have hx := dp_up2 (K := K) s24 hx
    have hb := dp_up2 (K := K) s24 hb
    have d7 := dp_up2 (K := K) s24 d7
    have d13 := dp_up2 (K := K) s24 d13
    have d15 := dp_up2 (K := K) s24 d15
    have d16 := dp_up2 (K := K) s24 d16
    have d18 := dp_up2 (K := K) s24 d18
    have d20 := dp_up2 (K := K) s24 d20
    have d21 := dp_up2 (K := K) s24 d21
    have d22 := dp_up2 (K := K) s24 d22
    have g := g.trans s24
    have w3 := new_at s24
    refine ⟨_, rfl, ?_⟩
    refine ⟨_, rfl, _, rfl, _, rfl, slice_go2 hA hx (fun z25 G25 s25 d25 => ?_)⟩
    have hA := s25.has2 hA
    have hx := dp_up2 (K := K) s25 hx
    have hb := dp_up2 (K := K) s25 hb
    have d7 := dp_up2 (K := K) s25 d7
    have d13 := dp_up2 (K := K) s25 d13
    have d15 := dp_up2 (K := K) s25 d15
    have d16 := dp_up2 (K := K) s25 d16
    have d18 := dp_up2 (K := K) s25 d18
    have d20 := dp_up2 (K := K) s25 d20
    have d21 := dp_up2 (K := K) s25 d21
    have d22 := dp_up2 (K := K) s25 d22
    have w3 := s25.at w3
    have g := g.trans s25
    refine ⟨(by show 2 ≤ sizeLine; decide), fun t26 m26 => ?_⟩
    have d26 := new_tup2 (K := K) (vs := [.str ("line" : Str), .int 1]) hA m26 (.cons (.str _) (.cons (.int _) .nil))
    have s26 := same_new (o := .tup [.str ("line" : Str), .int 1]) m26
    have hA := s26.has2 hA
    have hx := dp_up2 (K := K) s26 hx
    have hb := dp_up2 (K := K) s26 hb
    have d7 := dp_up2 (K := K) s26 d7
    have d13 := dp_up2 (K := K) s26 d13
    have d15 := dp_up2 (K := K) s26 d15
    have d16 := dp_up2 (K := K) s26 d16
    have d18 := dp_up2 (K := K) s26 d18
    have d20 := dp_up2 (K := K) s26 d20
    have d21 := dp_up2 (K := K) s26 d21
    have d22 := dp_up2 (K := K) s26 d22
    have d25 := dp_up2 (K := K) s26 d25
    have w3 := s26.at w3
    have g := g.trans s26
    refine ⟨(by show 1 ≤ sizeLine; decide), fun t27 m27 => ?_⟩
    have d27 := new_tup2 (K := K) (vs := [.ref t26]) hA m27 (.cons d26 .nil)
    have s27 := same_new (o := .tup [.ref t26]) m27
    have hA := s27.has2 hA
    have hx := dp_up2 (K := K) s27 hx
    have hb := dp_up2 (K := K) s27 hb
    have d7 := dp_up2 (K := K) s27 d7
    have d13 := dp_up2 (K := K) s27 d13
    have d15 := dp_up2 (K := K) s27 d15
    have d16 := dp_up2 (K := K) s27 d16
    have d18 := dp_up2 (K := K) s27 d18
    have d20 := dp_up2 (K := K) s27 d20
    have d21 := dp_up2 (K := K) s27 d21
    have d22 := dp_up2 (K := K) s27 d22
    have d25 := dp_up2 (K := K) s27 d25
    have d26 := dp_up2 (K := K) s27 d26
    have w3 := s27.at w3
    have g := g.trans s27
    refine cat_go2 hA d25 d27 ?_ (fun z28 G28 s28 d28 => ?_)
    · simp only [List.length_append, List.length_take, List.length_drop, List.length_cons, List.length_nil]
      omega
    have hA := s28.has2 hA
    have hx := dp_up2 (K := K) s28 hx
    have hb := dp_up2 (K := K) s28 hb
    have d7 := dp_up2 (K := K) s28 d7
    have d13 := dp_up2 (K := K) s28 d13
    have d15 := dp_up2 (K := K) s28 d15
    have d16 := dp_up2 (K := K) s28 d16
    have d18 := dp_up2 (K := K) s28 d18
    have d20 := dp_up2 (K := K) s28 d20
    have d21 := dp_up2 (K := K) s28 d21
    have d22 := dp_up2 (K := K) s28 d22
    have w3 := s28.at w3
    have g := g.trans s28
    refine ⟨_, rfl, _, rfl, _, _, rfl, rfl, _, rfl, ?_⟩
    dsimp only [tNoPart]
    refine slice_go2 hA hx (fun z29 G29 s29 d29 => ?_)
    have hA := s29.has2 hA
    have hx := dp_up2 (K := K) s29 hx
    have hb := dp_up2 (K := K) s29 hb
    have d7 := dp_up2 (K := K) s29 d7
    have d13 := dp_up2 (K := K) s29 d13
    have d15 := dp_up2 (K := K) s29 d15
    have d16 := dp_up2 (K := K) s29 d16
    have d18 := dp_up2 (K := K) s29 d18
    have d20 := dp_up2 (K := K) s29 d20
    have d21 := dp_up2 (K := K) s29 d21
    have d22 := dp_up2 (K := K) s29 d22
    have d28 := dp_up2 (K := K) s29 d28
    have w3 := s29.at w3
    have g := g.trans s29
    refine cat_go2 hA d28 d29 ?_ (fun z30 G30 s30 d30 => ?_)
    · simp only [List.length_append, List.length_take, List.length_drop, List.length_cons, List.length_nil]
      omega
    have hA := s30.has2 hA
    have hx := dp_up2 (K := K) s30 hx
    have hb := dp_up2 (K := K) s30 hb
    have d7 := dp_up2 (K := K) s30 d7
    have d13 := dp_up2 (K := K) s30 d13
    have d15 := dp_up2 (K := K) s30 d15
    have d16 := dp_up2 (K := K) s30 d16
    have d18 := dp_up2 (K := K) s30 d18
    have d20 := dp_up2 (K := K) s30 d20
    have d21 := dp_up2 (K := K) s30 d21
    have d22 := dp_up2 (K := K) s30 d22
    have w3 := s30.at w3
    have g := g.trans s30
    refine ⟨(by show 2 ≤ sizeLine; decide), fun t31 m31 => ?_⟩
    have d31 := new_tup2 (K := K) (vs := [z30, .int 0]) hA m31 (.cons d30 (.cons (.int _) .nil))
    have s31 := same_new (o := .tup [z30, .int 0]) m31
    have hA := s31.has2 hA
    have hx := dp_up2 (K := K) s31 hx
    have hb := dp_up2 (K := K) s31 hb
    have d7 := dp_up2 (K := K) s31 d7
    have d13 := dp_up2 (K := K) s31 d13
    have d15 := dp_up2 (K := K) s31 d15
    have d16 := dp_up2 (K := K) s31 d16
    have d18 := dp_up2 (K := K) s31 d18
    have d20 := dp_up2 (K := K) s31 d20
    have d21 := dp_up2 (K := K) s31 d21
    have d22 := dp_up2 (K := K) s31 d22
    have d30 := dp_up2 (K := K) s31 d30
    have w3 := s31.at w3
    have g := g.trans s31
    refine ⟨(by show 1 ≤ sizeLine; decide), fun t32 m32 => ?_⟩
    have s32 := same_new (o := .lst [.ref t31]) m32
    have hA := s32.has2 hA
    have hx := dp_up2 (K := K) s32 hx
    have hb := dp_up2 (K := K) s32 hb
    have d7 := dp_up2 (K := K) s32 d7
    have d13 := dp_up2 (K := K) s32 d13
    have d15 := dp_up2 (K := K) s32 d15
    have d16 := dp_up2 (K := K) s32 d16
    have d18 := dp_up2 (K := K) s32 d18
    have d20 := dp_up2 (K := K) s32 d20
    have d21 := dp_up2 (K := K) s32 d21
    have d22 := dp_up2 (K := K) s32 d22
    have d31 := dp_up2 (K := K) s32 d31
    have w3 := s32.at w3
    have g := g.trans s32
    have w4 := new_at s32
    refine ⟨t24, t32, _, _, rfl, rfl, w3, w4, (by show 9 + 1 ≤ sizeLine; decide), fun t33 m33 => ?_⟩
    have d33 := new_lst2 (K := K) (vs := (([.ref t7, .ref t13] ++ [.ref t15, .ref t16, .ref t18, .ref t20, .ref t21, .non, .ref t22]) ++ [.ref t31])) hA m33 (.cons d7 (.cons d13 (.cons d15 (.cons d16 (.cons d18 (.cons d20 (.cons d21 (.cons .non (.cons d22 (.cons d31 .nil))))))))))
    have s33 := same_new (o := .lst (([.ref t7, .ref t13] ++ [.ref t15, .ref t16, .ref t18, .ref t20, .ref t21, .non, .ref t22]) ++ [.ref t31])) m33
    have g := g.trans s33
    refine ⟨_, rfl, a, sc, 10, n + 1, rfl, by decide, by decide, S1.same g, by omega, fun r H6 r0 r10 S6 K6 => ?_⟩
    obtain ⟨p6, ys, res, xd, e6, qp, hres, mx, dres⟩ := pick_dp (dp_same (of2_kept K6) d33) r0 r10
    cases e6
    refine ⟨t33, _, _, res, rfl, rfl, qp, hres, ?_⟩
    refine k _ _ _ (S6.more (by omega)) ((K1.trans (kept_same g)).trans K6) dres ?_
    simp only [List.mem_cons, List.not_mem_nil, or_false] at mx
    rcases mx with rfl | rfl | rfl | rfl | rfl | rfl | rfl | rfl | rfl | rfl
    · simp only [goodHeads, List.all_append, List.all_cons, List.all_nil, heads_cut hh, Bool.and_true, Bool.true_and]
      rfl
    · simp only [goodHeads, List.all_append, List.all_cons, List.all_nil, heads_cut hh, Bool.and_true, Bool.true_and]
      rfl
    · exact hh
    · exact hh
    · rfl
    · rfl
    · rfl
    · rfl
    · rfl
    · simp only [goodHeads, List.all_append, List.all_cons, List.all_nil, heads_cut hh, Bool.and_true, Bool.true_and]
      rfl
end
end Vk
set_option maxHeartbeats 8000000
namespace Vk
open PySem PySem.Spec PyProof.Rows L2 GxR
theorem eqT {i j : Int} {A B : Prop} (e : i = j) (h : A) : if decide (V.int i = V.int j) = true then A else B := by
  rw [decide_eq_true (by rw [e])]
  exact iteT h
theorem eqF {i j : Int} {A B : Prop} (e : i ≠ j) (h : B) : if decide (V.int i = V.int j) = true then A else B := by
  rw [decide_eq_false (fun z => e (V.int.inj z))]
  exact iteF h
section
variable {P : Program} {w : World} {K : PySem.W.Frag} {mg : Str → Option Value} {base : Heap}
def spCall (K : PySem.W.Frag) (T : Addr) (cl : Nat → Addr) : Sp := fun vs H _ E => ∃ (n : Nat) (v u r q : V) (dj dl d1 d2 : PyData) (x : Due), vs = [.int (n : Nat), v, u, r, q] ∧ n ≤ 6 ∧ Dp K H v dj ∧ niceJobs dj ∧ TabG H T ∧ Dp K H u dl ∧ lenLog dl ≤ 50000 ∧ Dp K H r d1 ∧ goodHeads d1 = true ∧ Dp K H q d2 ∧ goodHeads d2 = true ∧
  dueW n dj dl d1 d2 = some x ∧ Er cl E x H
theorem scCall : FnScope ["way", "jobs", "log", "policy", "second"] ["way", "jobs", "log", "policy", "second"] (defScope sCall) := ⟨rfl, rfl, rfl, by decide +kernel, rfl, by decide +kernel, by decide +kernel⟩
theorem ok_call {T : Addr} {cl : Nat → Addr} (D : Df K mg "_law_call" sCall ["way", "jobs", "log", "policy", "second"]) (C0 : Cl P w K mg base (L2.CX P w) 6 "presence" ["jobs", "log"] (spPr K T cl))
    (C1 : ClK P w K mg base (L2.CX P w) 6 "first_fault" ["jobs", "log"] "processors" (.int 1) (spFF K T cl)) (C2 : ClK P w K mg base (L2.CX P w) 7 "ways" ["jobs", "log"] "processors" (.int 1) (spFF K T cl))
    (C3 : ClM P w K mg base (L2.CX P w) 6 "nth_lengths" ["jobs", "log", "number", "rule", "processors"] 3 ["rule"] (fun vs zs => vs ++ zs ++ [.int 1]) (spNth K T cl))
    (C4 : ClM P w K mg base (L2.CX P w) 6 "lengths_of" ["jobs", "marks", "rule", "processors"] 2 ["rule"] (fun vs zs => vs ++ zs ++ [.int 1]) (spLO K T cl))
    (C5 : ClM P w K mg base (L2.CX P w) 6 "lengths_from_names" ["jobs", "named", "rule", "processors"] 2 ["rule", "processors"] (fun vs zs => vs ++ zs) (spLN K T cl))
    (C6 : ClM P w K mg base (L2.CX P w) 6 "parting" ["jobs", "marks", "rule", "other", "processors"] 2 ["rule", "other"] (fun vs zs => vs ++ zs ++ [.int 1]) (spPT K T cl)) :
    Cl P w K mg base (L2.CX P w) 8 "_law_call" ["way", "jobs", "log", "policy", "second"] (spCall K T cl) := by
  refine clX D scCall (fun vs H Q E h => ?_) (fun f cdv A outer s H vs Q E hr h => ?_)
  · obtain ⟨n, v, u, r, q, dj, dl, d1, d2, x, rfl, _⟩ := h
    rfl
  · obtain ⟨n, v, u, r, q, dj, dl, d1, d2, x, rfl, n6, hd, nj, tg, hu, ll, h1, g1, h2, g2, hx, er⟩ := h
    obtain ⟨f0, fd0, m0, kp0, b0, F0⟩ := C0.ex
    obtain ⟨f1, fd1, m1, kp1, kb1, _, F1⟩ := C1.ex
    obtain ⟨f2, fd2, m2, kp2, _, ⟨ds2, vd2, b2⟩, F2⟩ := C2.ex
    obtain ⟨f3, fd3, gg3, m3, kp3, kb3, F3⟩ := C3.ex
    obtain ⟨f4, fd4, gg4, m4, kp4, kb4, F4⟩ := C4.ex
    obtain ⟨f5, fd5, gg5, m5, kp5, kb5, F5⟩ := C5.ex
    obtain ⟨f6, fd6, gg6, m6, kp6, kb6, F6⟩ := C6.ex
    refine ⟨_, (pss_cons (ps_if (pt_cmpR op_eq (pv 0) pe_int (nomark _)) (pss_one (ps_ret (pe_call (E := E) F0 (hr.mono (by decide)) rfl m0 kp0 b0 .nil (passes_call (W := fun cls d _ H => E cls d H) (takes_of rfl rfl rfl rfl) (fun _ _ _ _ h => h)) (pa_cons (pv 1) (pa_cons (pv 2) pa_nil))))) pss_nil)
      (pss_cons (ps_if (pt_cmpR op_eq (pv 0) pe_int (nomark _)) (pss_one (ps_ret (pe_callK (ex := fun _ => E) F1 (hr.mono (by decide)) rfl m1 kp1 kb1 (fun σ pins H s e s' I h => (passes_call (W := fun cls d _ H => E cls d H) (takes_of rfl rfl rfl rfl) (fun _ _ _ _ h => h)) pins σ H s e s' I h) (pa_cons (pv 1) (pa_cons (pv 2) pa_nil)) (pk_cons pe_int pk_nil)))) pss_nil)
      (pss_cons (ps_if (pt_cmpR op_eq (pv 0) pe_int (nomark _)) (pss_one (ps_ret (pe_call (E := E) F2 (hr.mono (by decide)) rfl m2 kp2 b2 vd2 (passes_call (W := fun cls d _ H => E cls d H) (takes_of rfl rfl rfl rfl) (fun _ _ _ _ h => h)) (pa_cons (pv 1) (pa_cons (pv 2) pa_nil))))) pss_nil)
      (pss_cons (ps_if (pt_cmpR op_eq (pv 0) pe_int (nomark _)) (pss_one (ps_ret (pe_callM (ex := fun _ => E) F3 (hr.mono (by decide)) rfl m3 kp3 kb3 (fun σ pins H s e s' I h => (passes_call (W := fun cls d _ H => E cls d H) (takes_of rfl rfl rfl rfl) (fun _ _ _ _ h => h)) pins σ H s e s' I h) (pa_cons (pv 1) (pa_cons (pv 2) (pa_cons (pe_un un_neg pe_int) pa_nil))) (pk_cons (pv 3) pk_nil)))) pss_nil)
      (pss_cons (ps_if (pt_cmpR op_eq (pv 0) pe_int (nomark _)) (pss_one (ps_ret (pe_callM (ex := fun _ => E) F4 (hr.mono (by decide)) rfl m4 kp4 kb4 (fun σ pins H s e s' I h => (passes_call (W := fun cls d _ H => E cls d H) (takes_of rfl rfl rfl rfl) (fun _ _ _ _ h => h)) pins σ H s e s' I h) (pa_cons (pv 1) (pa_cons pe_non pa_nil)) (pk_cons (pv 3) pk_nil)))) pss_nil)
      (pss_cons (ps_if (pt_cmpR op_eq (pv 0) pe_int (nomark _)) (pss_one (ps_ret (pe_callM (ex := fun _ => E) F5 (hr.mono (by decide)) rfl m5 kp5 kb5 (fun σ pins H s e s' I h => (passes_call (W := fun cls d _ H => E cls d H) (takes_of rfl rfl rfl rfl) (fun _ _ _ _ h => h)) pins σ H s e s' I h) (pa_cons (pv 1) (pa_cons pe_non pa_nil)) (pk_cons (pv 3) (pk_cons pe_int pk_nil))))) pss_nil)
      (pss_one (ps_ret (pe_callM (ex := fun _ => E) F6 (hr.mono (by decide)) rfl m6 kp6 kb6 (fun σ pins H s e s' I h => (passes_call (W := fun cls d _ H => E cls d H) (takes_of rfl rfl rfl rfl) (fun _ _ _ _ h => h)) pins σ H s e s' I h) (pa_cons (pv 1) (pa_cons pe_non pa_nil)) (pk_cons (pv 3) (pk_cons (pv 4) pk_nil))))))))))), ?_⟩
    match n, n6, hx with
    | 0, _, hx =>
      refine ⟨_, rfl, rfl, _, rfl, eqT (by decide) ?_⟩
      exact ⟨_, rfl, _, rfl, v, u, dj, dl, x, rfl, hd, nj, tg, hu, ll, hx, er⟩
    | 1, _, hx =>
      refine ⟨_, rfl, rfl, _, rfl, eqF (by decide) ?_⟩
      refine ⟨_, rfl, rfl, _, rfl, eqT (by decide) ?_⟩
      exact ⟨_, rfl, _, rfl, rfl, rfl, v, u, dj, dl, x, 2, rfl, hd, nj, tg, hu, ll, hx, er⟩
    | 2, _, hx =>
      refine ⟨_, rfl, rfl, _, rfl, eqF (by decide) ?_⟩
      refine ⟨_, rfl, rfl, _, rfl, eqF (by decide) ?_⟩
      refine ⟨_, rfl, rfl, _, rfl, eqT (by decide) ?_⟩
      exact ⟨_, rfl, _, rfl, v, u, dj, dl, x, 1, rfl, hd, nj, tg, hu, ll, hx, er⟩
    | 3, _, hx =>
      refine ⟨_, rfl, rfl, _, rfl, eqF (by decide) ?_⟩
      refine ⟨_, rfl, rfl, _, rfl, eqF (by decide) ?_⟩
      refine ⟨_, rfl, rfl, _, rfl, eqF (by decide) ?_⟩
      refine ⟨_, rfl, rfl, _, rfl, eqT (by decide) ?_⟩
      exact ⟨_, rfl, _, rfl, _, rfl, _, rfl, rfl, rfl, v, u, r, dj, dl, d1, x, rfl, hd, nj, tg, hu, ll, h1, g1, hx, er⟩
    | 4, _, hx =>
      refine ⟨_, rfl, rfl, _, rfl, eqF (by decide) ?_⟩
      refine ⟨_, rfl, rfl, _, rfl, eqF (by decide) ?_⟩
      refine ⟨_, rfl, rfl, _, rfl, eqF (by decide) ?_⟩
      refine ⟨_, rfl, rfl, _, rfl, eqF (by decide) ?_⟩
      refine ⟨_, rfl, rfl, _, rfl, eqT (by decide) ?_⟩
      exact ⟨_, rfl, _, rfl, rfl, rfl, v, r, dj, d1, x, rfl, hd, nj, tg, h1, g1, hx, er⟩
    | 5, _, hx =>
      refine ⟨_, rfl, rfl, _, rfl, eqF (by decide) ?_⟩
      refine ⟨_, rfl, rfl, _, rfl, eqF (by decide) ?_⟩
      refine ⟨_, rfl, rfl, _, rfl, eqF (by decide) ?_⟩
      refine ⟨_, rfl, rfl, _, rfl, eqF (by decide) ?_⟩
      refine ⟨_, rfl, rfl, _, rfl, eqF (by decide) ?_⟩
      refine ⟨_, rfl, rfl, _, rfl, eqT (by decide) ?_⟩
      exact ⟨_, rfl, _, rfl, rfl, rfl, v, r, 2, dj, d1, x, rfl, hd, nj, tg, h1, g1, hx, er⟩
    | 6, _, hx =>
      refine ⟨_, rfl, rfl, _, rfl, eqF (by decide) ?_⟩
      refine ⟨_, rfl, rfl, _, rfl, eqF (by decide) ?_⟩
      refine ⟨_, rfl, rfl, _, rfl, eqF (by decide) ?_⟩
      refine ⟨_, rfl, rfl, _, rfl, eqF (by decide) ?_⟩
      refine ⟨_, rfl, rfl, _, rfl, eqF (by decide) ?_⟩
      refine ⟨_, rfl, rfl, _, rfl, eqF (by decide) ?_⟩
      exact ⟨_, rfl, _, rfl, _, rfl, rfl, rfl, v, r, q, dj, d1, d2, x, rfl, hd, nj, tg, h1, g1, h2, g2, hx, er⟩
end
end Vk
set_option maxHeartbeats 8000000
namespace Vk
open PySem PySem.Spec PyProof.Rows L2 GxR
def kW : Nat → Nat
  | 0 => 0 | 1 => 0 | 2 => 0 | 3 => 1 | 4 => 1 | 5 => 1 | _ => 2
def constW : Nat → Option Due
  | 3 => some (8, -1) | 4 => some (4, 0) | 5 => some (5, 0) | 6 => some (4, 0) | _ => none
def firstR : List PyData → Option Int
  | [] => none
  | d :: r => match rulePlace d with
    | some p => some p
    | none => firstR r
def logW (n : Nat) (dl : PyData) : Option Due := if n < 4 then tagD 3 (logPlace dl) else none
theorem due_eq {n : Nat} (h : n ≤ 6) {dj dl d1 d2 : PyData} : dueW n dj dl d1 d2 = orD (tagD 0 (jobsPlace dj)) (orD (tagD 1 (firstR (([d1, d2] : List PyData).take (kW n)))) (orD (logW n dl) (constW n))) := by
  match n, h with
  | 0, _ | 1, _ | 2, _ | 3, _ | 4, _ | 5, _ | 6, _ =>
    all_goals
      simp only [dueW, kW, List.take, firstR, constW, logW]
      generalize jobsPlace dj = j
      generalize rulePlace d1 = a
      generalize rulePlace d2 = b
      generalize logPlace dl = c
      cases j <;> cases a <;> cases b <;> cases c <;> rfl
theorem cut_kW {x1 x2 : V} {n : Nat} (h : n ≤ 6) : cutV [x1, x2] none (some ((if decide ((2 : Int) < (n : Nat)) = true then 1 else 0) + (if decide ((5 : Int) < (n : Nat)) = true then 1 else 0))) = ([x1, x2] : List V).take (kW n) := by
  match n, h with
  | 0, _ => rfl
  | 1, _ => rfl
  | 2, _ => rfl
  | 3, _ => rfl
  | 4, _ => rfl
  | 5, _ => rfl
  | 6, _ => rfl
section
variable {P : Program} {w : World} {K : PySem.W.Frag} {mg : Str → Option Value} {base : Heap}
def spDue (K : PySem.W.Frag) : Sp := fun vs H Q _ => ∃ (n : Nat) (v u : V) (pl : Addr) (dj dl d1 d2 : PyData), vs = [.int (n : Nat), v, u, .ref pl] ∧ n ≤ 6 ∧ Dp K H v dj ∧ niceJobs dj ∧ Dp K H u dl ∧ lenLog dl ≤ 50000 ∧ Dp K H (.ref pl) (.list [d1, d2]) ∧ goodHeads d1 = true ∧ goodHeads d2 = true ∧
  (dueW n dj dl d1 d2 = none → ∀ H', Same H H' → Q .non H') ∧ (∀ x, dueW n dj dl d1 d2 = some x → ∀ t H', Same H H' → H' t = some (.tup [.str (wordOf x.1), .int x.2]) → Q (.ref t) H')
theorem scDue : FnScope ["way", "jobs", "log", "policies", "policy"] ["way", "jobs", "log", "policies"] (defScope sDue) := ⟨rfl, rfl, rfl, by decide +kernel, rfl, by decide +kernel, by decide +kernel⟩
theorem ok_due (D : Df K mg "_law_due" sDue ["way", "jobs", "log", "policies"]) (B : Blt mg) (FA : Cl P w K mg base CX0 3 "_law_fault" ["jobs"] (spFault K)) (FR : Cl P w K mg base CX0 2 "_law_fault_rule" ["value"] (spFaultR K)) (LF : Cl P w K mg base CX0 2 "_law_log_fault" ["log"] (spLogFault K)) :
    Cl P w K mg base CX0 4 "_law_due" ["way", "jobs", "log", "policies"] (spDue K) := by
  refine cl0 D scDue (fun vs H Q E h => ?_) (fun f cdv A outer s H vs Q E hr h => ?_)
  · obtain ⟨n, v, u, pl, dj, dl, d1, d2, rfl, _⟩ := h
    rfl
  · obtain ⟨n, v, u, pl, dj, dl, d1, d2, rfl, n6, hd, nj, hu, ll, hp, g1, g2, kN, kE⟩ := h
    rw [due_eq n6] at kN kE
    refine ⟨_, pss_cons (ps_if (pt_cmpR op_notN (pc FA hr (by decide) (pa_cons (pv 1) pa_nil)) pe_non (nomark _)) (pss_one (ps_ret (pe_tup (pa_cons pe_str (pa_cons (pc FA hr (by decide) (pa_cons (pv 1) pa_nil)) pa_nil))))) pss_nil)
      (pss_cons (ps_for PassesOwn.never rfl (pi_list (pe_slice sl_list (pv 3) po_none (po_some (pe_op op_add (pe_callTy call_int1 (by rfl) B.int (by decide +kernel) (pa_cons (pe_cmpR op_gt (pv 0) pe_int (nomark _)) pa_nil)) (pe_callTy call_int1 (by rfl) B.int (by decide +kernel) (pa_cons (pe_cmpR op_gt (pv 0) pe_int (nomark _)) pa_nil)))))) (pg_name (i := 4) scDue.nd rfl (Or.inl rfl))
        (pss_one (ps_if (pt_cmpR op_notN (pc FR hr (by decide) (pa_cons (pv 4) pa_nil)) pe_non (nomark _)) (pss_one (ps_ret (pe_tup (pa_cons pe_str (pa_cons (pc FR hr (by decide) (pa_cons (pv 4) pa_nil)) pa_nil))))) pss_nil)))
      (pss_cons (ps_if (PW.pt (pw_and (pt_cmpR op_lt (pv 0) pe_int (nomark _)) (pw_and1 (pt_cmpR op_notN (pc LF hr (by decide) (pa_cons (pv 2) pa_nil)) pe_non (nomark _))))) (pss_one (ps_ret (pe_tup (pa_cons pe_str (pa_cons (pc LF hr (by decide) (pa_cons (pv 2) pa_nil)) pa_nil))))) pss_nil)
      (pss_one (ps_ret (pe_ix ix_list (pe_lst (pa_cons pe_non (pa_cons pe_non (pa_cons pe_non (pa_cons (pe_tup (pa_cons pe_str (pa_cons (pe_un un_neg pe_int) pa_nil))) (pa_cons (pe_tup (pa_cons pe_str (pa_cons pe_int pa_nil))) (pa_cons (pe_tup (pa_cons pe_str (pa_cons pe_int pa_nil))) (pa_cons (pe_tup (pa_cons pe_str (pa_cons pe_int pa_nil))) pa_nil)))))))) (pv 0) (fun _ _ => rfl)))))), ?_⟩
    refine ⟨_, rfl, v, dj, rfl, hd, nj, fun H1 s1 => ?_⟩
    cases hj : jobsPlace dj with
    | some p =>
      refine ⟨rfl, _, rfl, iteT ⟨_, rfl, v, dj, rfl, dp_same s1 hd, nj, fun H2 s2 => ?_⟩⟩
      rw [hj]
      refine ⟨(by show 2 ≤ sizeLine; decide), fun t nt => ?_⟩
      exact kE (0, p) (by rw [hj]; rfl) t _ (s1.trans (s2.trans (same_new nt))) upd_same
    | none =>
      rw [hj] at kN kE
      refine ⟨rfl, _, rfl, iteF ?_⟩
      obtain ⟨pq, ps, e, qp, rp⟩ := dp_lst hp
      cases e
      have pl2 := dps_len rp
      obtain ⟨x1, x2, rfl⟩ : ∃ x1 x2, ps = [x1, x2] := by
        match ps, pl2 with
        | [x1, x2], _ => exact ⟨x1, x2, rfl⟩
      refine ⟨_, rfl, _, rfl, _, _, rfl, rfl, .inr ⟨_, rfl, _, rfl, _, _, rfl, rfl, .inr ⟨_, rfl, _, _, rfl, rfl, _, rfl, ?_⟩⟩⟩
      dsimp only [tNoPart]
      refine ⟨pl, _, rfl, s1.seq qp, fun l nl => ⟨l, rfl, ⟨_, SqL.of upd_same⟩, ?_⟩⟩
      rw [cut_kW n6]
      have sl := s1.trans (same_new (o := .lst (([x1, x2] : List V).take (kW n))) nl)
      have lst1 : upd H1 l (.lst (([x1, x2] : List V).take (kW n))) l = some (.lst (([x1, x2] : List V).take (kW n))) := upd_same
      have rt : DpAll K H (([x1, x2] : List V).take (kW n)) (([d1, d2] : List PyData).take (kW n)) := dps_take _ rp
      have gt : ∀ d ∈ ([d1, d2] : List PyData).take (kW n), goodHeads d = true := fun d hd => by
        have z := List.mem_of_mem_take hd
        simp only [List.mem_cons, List.not_mem_nil, or_false] at z
        rcases z with rfl | rfl
        · exact g1
        · exact g2
      generalize upd H1 l (.lst (([x1, x2] : List V).take (kW n))) = G0 at sl lst1 ⊢
      generalize ([x1, x2] : List V).take (kW n) = xs at rt lst1 ⊢
      generalize ([d1, d2] : List PyData).take (kW n) = ds at rt gt kN kE
      have xl := dps_len rt
      refine for_it (D := { nx := _, rt := Q }) (walk_list (K := K) (a := l) (xs := xs)) (fun i σ G => ∃ (u4 : Option V), σ = [some (.int (n : Nat)), some v, some u, some (.ref pl), u4] ∧ Same G0 G ∧ firstR ds = firstR (ds.drop i))
        ⟨none, rfl, Same.refl G0, rfl⟩ (fun i σ G _ ⟨_, _, s, _⟩ => SqL.of (s.at lst1)) ?_ ?_
      · rintro i x σ G1 G hi ⟨u4, rfl, sG, ef⟩ ⟨rfl, hx⟩
        obtain ⟨d, hdd, dx⟩ := dps_getV rt hx
        have gd := gt d (List.mem_of_getElem? hdd)
        have dr : ds.drop i = d :: ds.drop (i + 1) := by
          obtain ⟨h1, h2⟩ := List.getElem?_eq_some_iff.mp hdd
          rw [List.drop_eq_getElem_cons h1, h2]
        rw [dr] at ef
        have dxG := dp_same (sl.trans sG) dx
        refine ⟨_, rfl, x, d, rfl, dxG, gd, fun G2 s2 => ?_⟩
        cases hr2 : rulePlace d with
        | some p =>
          refine ⟨rfl, _, rfl, iteT ⟨_, rfl, x, d, rfl, dp_same s2 dxG, gd, fun G3 s3 => ?_⟩⟩
          rw [hr2]
          refine ⟨(by show 2 ≤ sizeLine; decide), fun t nt => ?_⟩
          have e1 : firstR ds = some p := by
            rw [ef]
            simp only [firstR, hr2]
          exact kE (1, p) (by rw [e1]; rfl) t _ ((sl.trans sG).trans (s2.trans (s3.trans (same_new nt)))) upd_same
        | none =>
          refine ⟨rfl, _, rfl, iteF ⟨_, rfl, sG.trans s2, ?_⟩⟩
          rw [ef]
          simp only [firstR, hr2]
      rintro σ G ⟨u4, rfl, sG, ef⟩
      have e1 : firstR ds = none := by
        rw [ef, xl, List.drop_length]
        rfl
      rw [e1] at kN kE
      have sHG := sl.trans sG
      -- the log
      apply cutR (α := L2.St → Hp → Prop) (F := fun R => ∀ (H3 : Hp), Same H H3 → logW n dl = none → R [some (.int (n : Nat)), some v, some u, some (.ref pl), u4] H3)
      · intro cont
        refine ⟨_, rfl, _, _, rfl, rfl, _, rfl, ?_⟩
        by_cases h4 : n < 4
        · rw [decide_eq_true (show ((n : Nat) : Int) < 4 by omega)]
          refine iteT ⟨_, rfl, u, dl, rfl, dp_same sHG hu, ll, fun H3 s3 => ?_⟩
          have lw : logW n dl = tagD 3 (logPlace dl) := by
            unfold logW
            rw [if_pos h4]
          cases hl : logPlace dl with
          | none => exact ⟨rfl, _, rfl, iteF (cont H3 (sHG.trans s3) (by rw [lw, hl]; rfl))⟩
          | some p =>
            refine ⟨rfl, _, rfl, iteT ⟨_, rfl, u, dl, rfl, dp_same (sHG.trans s3) hu, ll, fun H4 s4 => ?_⟩⟩
            rw [hl]
            refine ⟨(by show 2 ≤ sizeLine; decide), fun t nt => ?_⟩
            exact kE (3, p) (by rw [lw, hl]; rfl) t _ (sHG.trans (s3.trans (s4.trans (same_new nt)))) upd_same
        · rw [decide_eq_false (show ¬ ((n : Nat) : Int) < 4 by omega)]
          refine iteF (iteF (cont G sHG ?_))
          unfold logW
          rw [if_neg h4]
      intro H3 s3 lw
      rw [lw] at kN kE
      refine ⟨_, rfl, (by show 2 ≤ sizeLine; decide), fun t1 n1 => ?_⟩
      have a1 := same_new (o := .tup [.str ("number" : Str), .int (-1)]) n1
      refine ⟨(by show 2 ≤ sizeLine; decide), fun t2 n2 => ?_⟩
      have a2 := same_new (o := .tup [.str ("marks" : Str), .int 0]) n2
      refine ⟨(by show 2 ≤ sizeLine; decide), fun t3 n3 => ?_⟩
      have a3 := same_new (o := .tup [.str ("named" : Str), .int 0]) n3
      refine ⟨(by show 2 ≤ sizeLine; decide), fun t4 n4 => ?_⟩
      have a4 := same_new (o := .tup [.str ("marks" : Str), .int 0]) n4
      refine ⟨(by show 7 ≤ sizeLine; decide), fun q nq => ?_⟩
      have a5 := same_new (o := .lst [.non, .non, .non, .ref t1, .ref t2, .ref t3, .ref t4]) nq
      have sAll := s3.trans (a1.trans (a2.trans (a3.trans (a4.trans a5))))
      match n, n6, kN, kE with
      | 0, _, kN, kE => exact ⟨_, rfl, q, _, _, _, rfl, rfl, SqL.of upd_same, rfl, kN rfl _ sAll⟩
      | 1, _, kN, kE => exact ⟨_, rfl, q, _, _, _, rfl, rfl, SqL.of upd_same, rfl, kN rfl _ sAll⟩
      | 2, _, kN, kE => exact ⟨_, rfl, q, _, _, _, rfl, rfl, SqL.of upd_same, rfl, kN rfl _ sAll⟩
      | 3, _, kN, kE => exact ⟨_, rfl, q, _, _, _, rfl, rfl, SqL.of upd_same, rfl, kE (8, -1) rfl t1 _ sAll (a5.at (a4.at (a3.at (a2.at upd_same))))⟩
      | 4, _, kN, kE => exact ⟨_, rfl, q, _, _, _, rfl, rfl, SqL.of upd_same, rfl, kE (4, 0) rfl t2 _ sAll (a5.at (a4.at (a3.at upd_same)))⟩
      | 5, _, kN, kE => exact ⟨_, rfl, q, _, _, _, rfl, rfl, SqL.of upd_same, rfl, kE (5, 0) rfl t3 _ sAll (a5.at (a4.at upd_same))⟩
      | 6, _, kN, kE => exact ⟨_, rfl, q, _, _, _, rfl, rfl, SqL.of upd_same, rfl, kE (4, 0) rfl t4 _ sAll (a5.at upd_same)⟩
end
end Vk
set_option maxHeartbeats 8000000
namespace Vk
open PySem PySem.Spec PyProof.Rows L2 GxR
theorem due_ok {n : Nat} {dj dl d1 d2 : PyData} {x : Due} (h6 : n ≤ 6) (h : dueW n dj dl d1 d2 = some x) : OkI x.1 := by
  match n, h6, h with
  | 0, _, h | 1, _, h | 2, _, h | 3, _, h | 4, _, h | 5, _, h | 6, _, h =>
    all_goals
      simp only [dueW] at h
      revert h
      generalize jobsPlace dj = j
      generalize rulePlace d1 = a
      generalize rulePlace d2 = b
      generalize logPlace dl = c
      cases j <;> cases a <;> cases b <;> cases c <;> intro h <;> simp [tagD, orD] at h <;> subst h <;> simp [OkI]
theorem word_shaped {i : Nat} (h : OkI i) (p : Int) : SeqAt.shaped (.tuple [.str (wordOf i), .int p]) = true := by
  rcases h with rfl | rfl | rfl | rfl | rfl | rfl <;> (simp [SeqAt.shaped, PyData.canLay0, PyData.canLayAll0, PyData.depth, PyData.depthAll]; decide +kernel)
section
variable {P : Program} {w : World} {K : PySem.W.Frag} {mg : Str → Option Value} {base : Heap}
def spRight (K : PySem.W.Frag) (T : Addr) : Sp := fun vs H Q _ => ∃ (n : Nat) (v u : V) (pl : Addr) (dj dl d1 d2 : PyData), vs = [.int (n : Nat), v, u, .ref pl] ∧ n ≤ 6 ∧ Dp K H v dj ∧ niceJobs dj ∧ TabG H T ∧ Dp K H u dl ∧ lenLog dl ≤ 50000 ∧ Dp K H (.ref pl) (.list [d1, d2]) ∧ goodHeads d1 = true ∧ goodHeads d2 = true ∧ ∀ H', Same H H' → Q (.bl true) H'
theorem scRight : FnScope ["way", "jobs", "log", "policies", "due", "caught", "e"] ["way", "jobs", "log", "policies"] (defScope sRight) := ⟨rfl, rfl, rfl, by decide +kernel, rfl, by decide +kernel, by decide +kernel⟩
theorem ok_right {T : Addr} {cl : Nat → Addr} (D : Df K mg "_law_right" sRight ["way", "jobs", "log", "policies"]) (B : Blt mg) (NN : ∀ i, OkI i → Kn K mg (cl i) i) (DU : Cl P w K mg base CX0 4 "_law_due" ["way", "jobs", "log", "policies"] (spDue K))
    (CA : Cl P w K mg base (L2.CX P w) 8 "_law_call" ["way", "jobs", "log", "policy", "second"] (spCall K T cl)) (KI : Cl P w K mg base CX0 1 "_law_kind" ["caught"] (spKindA cl)) : Cl P w K mg base CX0 9 "_law_right" ["way", "jobs", "log", "policies"] (spRight K T) := by
  refine cl0 D scRight (fun vs H Q E h => ?_) (fun f cdv A outer s H vs Q E hr h => ?_)
  · obtain ⟨n, v, u, pl, dj, dl, d1, d2, rfl, _⟩ := h
    rfl
  · obtain ⟨n, v, u, pl, dj, dl, d1, d2, rfl, n6, hd, nj, tg, hu, ll, hp, g1, g2, k⟩ := h
    obtain ⟨S, mS, _, _⟩ := (NN 0 (.inl rfl)).se
    obtain ⟨fC, fdC, mC, kpC, bC, FC⟩ := CA.ex
    refine ⟨_, pss_cons (ps_set (i := 4) scRight.nd rfl (Or.inl rfl) (pc DU hr (by decide) (pa_cons (pv 0) (pa_cons (pv 1) (pa_cons (pv 2) (pa_cons (pv 3) pa_nil))))))
      (pss_cons (ps_if (pt_cmpR op_isN (pv 4) pe_non (nomark _)) (pss_one (ps_ret pe_bl)) pss_nil)
      (pss_cons (ps_set (i := 5) scRight.nd rfl (Or.inl rfl) pe_non)
      (pss_cons (ps_try_keep (i := 6) (c := .ref S) (tb := fun W => tDrop (tCallS (spCall K T cl) (WE W) (tCons (tVar 0) (tCons (tVar 1) (tCons (tVar 2) (tCons (tOp (rIxL K) (tVar 3) (tC (.int 0))) (tCons (tOp (rIxL K) (tVar 3) (tC (.int 1))) tNil))))))) (ts := fun _ _ _ => tAsg (tVar 6) (gName 5)) rfl rfl rfl scRight.nd rfl rfl rfl mS (by decide)
          (fun W pn xe tk _ => pss_one (ps_expr (by exact (pe_callS FC hr rfl mC kpC bC (fun σ => passAt tk σ) (by exact (pa_cons (pv 0) (pa_cons (pv 1) (pa_cons (pv 2) (pa_cons (pe_ix ix_list (pv 3) pe_int (fun _ _ => rfl)) (pa_cons (pe_ix ix_list (pv 3) pe_int (fun _ _ => rfl)) pa_nil))))))))))
          (fun a oe cls d pn _ _ => pss_one (ps_set (i := 5) scRight.nd rfl (Or.inl rfl) (by exact (pv 6)))))
      (pss_one (ps_ret (pe_and (pe_cmpR op_notN (pv 5) pe_non (nomark _)) (pe_one (pe_cmpR (op_eqD hr.units) (pc KI hr (by decide) (pa_cons (pv 5) pa_nil)) (pv 4) (nomark _))))))))), ?_⟩
    refine ⟨_, rfl, _, rfl, _, rfl, _, rfl, n, v, u, pl, dj, dl, d1, d2, rfl, n6, hd, nj, hu, ll, hp, g1, g2, fun hN H1 s1 => ?_, fun x hx td H1 s1 htd => ?_⟩
    · exact ⟨_, rfl, rfl, _, rfl, iteT (k H1 s1)⟩
    refine ⟨_, rfl, rfl, _, rfl, iteF ?_⟩
    have oi := due_ok n6 hx
    have N := NN x.1 oi
    obtain ⟨S2, mS2, _, exm2⟩ := N.se
    have eS : S2 = S := by
      have z := mS2.symm.trans mS
      cases z
      rfl
    subst eS
    obtain ⟨pq, ps, e, qp, rp⟩ := dp_lst hp
    cases e
    have pl2 := dps_len rp
    obtain ⟨x1, x2, rfl⟩ : ∃ x1 x2, ps = [x1, x2] := by
      match ps, pl2 with
      | [x1, x2], _ => exact ⟨x1, x2, rfl⟩
    obtain ⟨r1, r2⟩ : Dp K H x1 d1 ∧ Dp K H x2 d2 := by
      cases rp with
      | cons h1 r =>
        cases r with
        | cons h2 r => exact ⟨h1, h2⟩
    refine ⟨_, rfl, _, rfl, _, rfl, _, rfl, pl, _, _, x1, rfl, rfl, s1.seq qp, rfl, _, rfl, pl, _, _, x2, rfl, rfl, s1.seq qp, rfl, n, v, u, x1, x2, dj, dl, d1, d2, x, rfl, n6, dp_same s1 hd, nj, s1.tab T tg, dp_same s1 hu, ll, dp_same s1 r1, g1, dp_same s1 r2, g2, hx, fun dx H2 s2 hh => ?_⟩
    refine ⟨exm2, fun a na => ⟨_, rfl, fun na2 => ?_⟩⟩
    have sa := same_new (o := Xco a (.ref (cl x.1)) (some dx)) na2
    have s3 := (s1.trans s2).trans sa
    have hx3 : upd H2 a (Xco a (.ref (cl x.1)) (some dx)) dx = some (.xd [(fldOf x.1, .int x.2)]) := by
      rw [upd_ne (ne_of_none hh na2)]
      exact hh
    refine ⟨_, rfl, rfl, _, rfl, iteT ?_⟩
    refine ⟨_, rfl, a, dx, x.1, x.2, rfl, upd_same, hx3, oi, fun t H4 s4 ht => ?_⟩
    have dt : Dp K H4 (.ref t) (.tuple [.str (wordOf x.1), .int x.2]) := .tup (SqT.of ht) (.cons (.str _) (.cons (.int _) .nil))
    have dd : Dp K H4 (.ref td) (.tuple [.str (wordOf x.1), .int x.2]) := .tup (SqT.of (s4.at (sa.at (s2.at htd)))) (.cons (.str _) (.cons (.int _) .nil))
    have sh : SeqAt.shaped (.tuple [.str (wordOf x.1), .int x.2]) = true := word_shaped oi x.2
    have eq : PyData.eqv (.tuple [.str (wordOf x.1), .int x.2]) (.tuple [.str (wordOf x.1), .int x.2]) = true := SeqAt.eqv_refl _ (SeqAt.canLay_of_shaped sh)
    refine ⟨_, rfl, _, _, dt, dd, sh, sh, ?_⟩
    show Q (.bl (PyData.eqv _ _)) _
    rw [eq]
    exact k _ (s3.trans s4)
end
end Vk
set_option maxHeartbeats 8000000
namespace Vk
open PySem PySem.Spec PyProof.Rows L2 GxR
def ValidR (d : PyData) : Prop := ∃ ls b, d = .tuple [.tuple ls, b] ∧ 1 ≤ ls.length ∧ ls.length ≤ 6 ∧ ls.all levelD = true
theorem ValidR.good {d : PyData} (h : ValidR d) : goodHeads d = true := by
  obtain ⟨ls, b, rfl, _, _, ok⟩ := h
  exact heads_of ok
theorem len_log {lg : List (Int × Int)} : lenLog (.tuple (lg.map pairP)) = lg.length := by
  show (lg.map pairP).length = _
  exact List.length_map ..
theorem nice_app {js : List PyData} (ok : js.all jobD = true) (l : js.length ≤ 12) (i j : Nat) : niceJobs (.tuple (js ++ (js.drop i).take j)) := by
  refine ⟨fun d hd => ?_, ?_⟩
  · rcases List.mem_append.mp hd with h | h
    · exact nice_of (List.all_eq_true.mp ok d h)
    · exact nice_of (List.all_eq_true.mp ok d (List.mem_of_mem_drop (List.mem_of_mem_take h)))
  · simp only [List.length_append, List.length_take, List.length_drop]
    omega
theorem tab_put {H : Hp} {T l : Addr} {xs : List V} {o : HO} (t : TabG H T) (h : H l = some (.lst xs)) : TabG (upd H l o) T := by
  obtain ⟨ps, e, ok⟩ := t
  have ne : T ≠ l := fun z => by
    rw [z, h] at e
    cases e
  exact ⟨ps, by rw [upd_ne ne]; exact e, ok⟩
section
variable {P : Program} {w : World} {K : PySem.W.Frag} {mg : Str → Option Value} {base : Heap}
def spLaw (K : PySem.W.Frag) (T : Addr) : Sp := fun vs H Q _ => ∃ (a : Addr) (ns : List Int), vs = [.ref a] ∧ SqL K H a (ns.map V.int) ∧ ns.length ≤ 63 ∧ TabG H T ∧ ∀ H', Q (.bl true) H'
theorem scLaw : FnScope ["script", "store", "jobs", "log", "policies", "turn", "some", "pairs", "plans", "way", "policy"] ["script"] (defScope sLaw) := ⟨rfl, rfl, rfl, by decide +kernel, rfl, by decide +kernel, by decide +kernel⟩
theorem ok_law {f T : Addr} {fd : FuncData} (F : Fun K "law" "law" sLaw f fd) (B : Blt mg) (ST : Cl P w K mg base CX0 1 "_law_store" ["script"] (spStore K)) (PK : Cl P w K mg base CX0 2 "_law_pick" ["store", "count"] spPick) (JB : Cl P w K mg base CX0 4 "_law_jobs" ["store", "most", "late"] (spJobs K))
    (LG : Cl P w K mg base CX0 3 "_law_log" ["store", "jobs", "cores", "wide"] (spLog K)) (RU : Cl P w K mg base CX0 3 "_law_rule" ["store"] (spRule K)) (SP : Cl P w K mg base CX0 3 "_law_spoilt" ["store", "jobs"] (spSpoilt K)) (BL : Cl P w K mg base CX0 3 "_law_bad_log" ["store", "log"] (spBadLog K))
    (BR : Cl P w K mg base CX0 3 "_law_bad_rule" ["store", "policy"] (spBadRule K)) (RT : Cl P w K mg base CX0 9 "_law_right" ["way", "jobs", "log", "policies"] (spRight K T)) :
    FnOk P w K mg base CX0 10 f fd ["script"] (spLaw K T) := by
  refine F.ok scLaw (fun vs H Q E h => ?_) (fun cdv A outer s H vs Q E hr h => ?_)
  · obtain ⟨a, ns, rfl, _⟩ := h
    rfl
  · obtain ⟨a, ns, rfl, hS, hlen, tg, k⟩ := h
    refine ⟨_, pss_cons (ps_set (i := 1) scLaw.nd rfl (Or.inr rfl) (pc ST hr (by decide) (pa_cons (pv 0) pa_nil)))
      (pss_cons (ps_set (i := 2) scLaw.nd rfl (Or.inl rfl) (pc JB hr (by decide) (pa_cons (pv 1) (pa_cons pe_int (pa_cons pe_int pa_nil)))))
      (pss_cons (ps_set (i := 3) scLaw.nd rfl (Or.inl rfl) (pc LG hr (by decide) (pa_cons (pv 1) (pa_cons (pv 2) (pa_cons pe_int (pa_cons pe_int pa_nil))))))
      (pss_cons (ps_set (i := 4) scLaw.nd rfl (Or.inl rfl) (pe_lst (pa_cons (pc RU hr (by decide) (pa_cons (pv 1) pa_nil)) (pa_cons (pc RU hr (by decide) (pa_cons (pv 1) pa_nil)) pa_nil))))
      (pss_cons (ps_for PassesOwn.never rfl (pi_range1 rfl B.range (pa_cons pe_int pa_nil)) (pg_name (i := 5) scLaw.nd rfl (Or.inl rfl))
        (pss_cons (ps_set (i := 6) scLaw.nd rfl (Or.inl rfl) (pe_ix ix_list (pe_lst (pa_cons (pv 2) (pa_cons (pv 2) (pa_cons (pe_op op_catA (pv 2) (pe_slice sl_tupA (pv 2) po_none (po_some pe_int))) (pa_cons (pc SP hr (by decide) (pa_cons (pv 1) (pa_cons (pv 2) pa_nil))) pa_nil))))) (pc PK hr (by decide) (pa_cons (pv 1) (pa_cons pe_int pa_nil))) (fun _ _ => rfl)))
        (pss_cons (ps_set (i := 7) scLaw.nd rfl (Or.inl rfl) (pe_ifExp (pt_cmpR op_eq (pc PK hr (by decide) (pa_cons (pv 1) (pa_cons pe_int pa_nil))) pe_int (nomark _)) (pc BL hr (by decide) (pa_cons (pv 1) (pa_cons (pv 3) pa_nil))) (pv 3)))
        (pss_cons (ps_setLc (i := 8) (own := [("policy", 10)]) (g := gName 10) (tt := tYes) (te := tIf (tTest (tOp rEq (tCal spPick (tCons (tVar 1) (tCons (tC (.int 3)) tNil))) (tC (.int 0)))) (tCal (spBadRule K) (tCons (tVar 1) (tCons (tVar 10) tNil))) (tVar 10))
            rfl scLaw.nd rfl rfl (sw_true rfl rfl rfl (by decide +kernel)) (pi_list (pv 4))
            (blkOk_by (own := [("policy", 10)]) (N := ["script", "store", "jobs", "log", "policies", "turn", "some", "pairs", "plans", "way", "policy"]) (sc := defScope sLaw) (by decide +kernel))
            (fun _ _ _ _ _ => pg_name (i := 10) scLaw.nd rfl (Or.inl rfl)) (fun _ _ _ _ _ => pts_nil)
            (fun _ _ _ _ _ => pe_ifExp (pt_cmpR op_eq (pc PK hr (by decide) (pa_cons (pv 1) (pa_cons pe_int pa_nil))) pe_int (nomark _)) (pc BR hr (by decide) (pa_cons (pv 1) (pa_cons (pv 10) pa_nil))) (pv 10)))
        (pss_one (ps_for PassesOwn.never rfl (pi_range1 rfl B.range (pa_cons pe_int pa_nil)) (pg_name (i := 9) scLaw.nd rfl (Or.inl rfl))
          (pss_one (ps_if (pt_not (pt_val (pc RT hr (by decide) (pa_cons (pv 9) (pa_cons (pv 6) (pa_cons (pv 7) (pa_cons (pv 8) pa_nil))))))) (pss_one (ps_ret pe_bl)) pss_nil))))))))
      (pss_one (ps_ret pe_bl)))))), ?_⟩
    refine ⟨_, rfl, a, ns, rfl, hS, hlen, fun st sc H1 s1 nst S1 => ?_⟩
    have tg1 := s1.tab T tg
    -- jobs
    refine ⟨_, rfl, st, sc, 0, 5, 6, rfl, S1, by decide, by decide, by decide, by decide, by decide, fun v js G1 SG1 KG1 dv okj l12 fine _ => ?_⟩
    have tG1 := KG1.tab S1 tg1
    -- log
    refine ⟨_, rfl, _, rfl, st, sc, _, v, js, 2, 4, rfl, SG1, by decide, dv, okj, l12, fine, by decide, by decide, by decide, fun t lg G2 SG2 KG2 dt asc ll => ?_⟩
    have tG2 := KG2.tab SG1 tG1
    -- policies
    refine ⟨_, rfl, st, sc, _, rfl, SG2, by decide, fun p1 ls1 b1 G3 SG3 KG3 dp1 la1 lb1 ok1 _ => ?_⟩
    have tG3 := KG3.tab SG2 tG2
    refine ⟨_, rfl, st, sc, _, rfl, SG3, by decide, fun p2 ls2 b2 G4 SG4 KG4 dp2 la2 lb2 ok2 _ => ?_⟩
    have tG4 := KG4.tab SG3 tG3
    refine ⟨(by show 2 ≤ sizeLine; decide), fun pl npl => ?_⟩
    have sp := same_new (o := .lst [p1, p2]) npl
    have dpl := new_lst (K := K) SG4.hasA npl (.cons (dp_same KG4 dp1) (.cons dp2 .nil))
    have SG5 := SG4.same sp
    have tG5 := sp.tab T tG4
    have dv5 := dp_up (K := K) sp (dp_same KG4 (dp_same KG3 (dp_same KG2 dv)))
    have dt5 := dp_up (K := K) sp (dp_same KG4 (dp_same KG3 dt))
    have vd : ∀ d ∈ [PyData.tuple [.tuple ls1, b1], .tuple [.tuple ls2, b2]], ValidR d := fun d hd => by
      simp only [List.mem_cons, List.not_mem_nil, or_false] at hd
      rcases hd with rfl | rfl
      · exact ⟨_, _, rfl, la1, lb1, ok1⟩
      · exact ⟨_, _, rfl, la2, lb2, ok2⟩
    generalize hrs : [PyData.tuple [.tuple ls1, b1], .tuple [.tuple ls2, b2]] = rs at dpl vd
    have rs2 : rs.length = 2 := by rw [← hrs]; rfl
    generalize upd G4 pl (.lst [p1, p2]) = G5 at SG5 tG5 dv5 dt5 dpl ⊢
    refine ⟨8, rfl, by decide, by decide, ?_⟩
    refine for_range (lo := 0) (n := 8) (fun i σ G => ∃ (u5 u6 u7 u8 u9 : Option V), σ = [some (.ref a), some (.ref st), some v, some t, some (.ref pl), u5, u6, u7, u8, u9, none] ∧ Sto sc st (1180 + 40 * i) G ∧ Kept st G5 G ∧ TabG G T)
      ⟨none, none, none, none, none, rfl, SG5.more (by omega), Kept.refl st G5, tG5⟩ ?_ ?_
    · rintro i σ G hi ⟨u5, u6, u7, u8, u9, rfl, SG, KG, tG⟩
      have dvG := dp_same KG dv5
      -- some
      refine ⟨_, rfl, _, rfl, _, rfl, _, rfl, ?_⟩
      dsimp only [tNoPart]
      refine ⟨_, rfl, slice_go SG.hasA dvG (fun z1 J1 s1 d1 => ?_)⟩
      refine cat_go (s1.has st SG.hasA) (dp_up s1 dvG) d1 (by simp only [List.length_take, List.length_drop]; omega) (fun z2 J2 s2 d2 => ?_)
      have s12 := s1.trans s2
      refine ⟨_, rfl, _, rfl, st, sc, st, _, v, js, rfl, SG.same s12, (SG.same s12).hasA, by omega, by rw [of2_self]; exact dp_up s12 dvG, okj, l12, fun sv sd J3 S3 K3 dsv nsd lsd => ?_⟩
      rw [of2_self] at dsv
      refine ⟨(by show 4 ≤ sizeLine; decide), fun q nq => ?_⟩
      have sq := same_new (o := .lst [v, v, z2, sv]) nq
      have qa := S3.ne nq
      refine ⟨_, rfl, st, sc, 4, _, rfl, by decide, by decide, S3.same sq, by omega, fun r J4 r0 r4 S4 K4 => ?_⟩
      obtain ⟨sx, hsx, msx⟩ := atI_mem (xs := [v, v, z2, sv]) r0 r4
      refine ⟨q, _, _, sx, rfl, rfl, SqL.of (K4.at upd_same qa), hsx, ?_⟩
      have K34 : Kept st J3 J4 := (kept_same sq).trans K4
      have K04 : Kept st G J4 := (kept_same s12).trans (K3.trans K34)
      obtain ⟨xd, dsx, nxd⟩ : ∃ xd, Dp K (Off st J4) sx xd ∧ niceJobs xd := by
        have nj : niceJobs (.tuple js) := ⟨fun d hd => nice_of (List.all_eq_true.mp okj d hd), by omega⟩
        simp only [List.mem_cons, List.not_mem_nil, or_false] at msx
        rcases msx with rfl | rfl | rfl | rfl
        · exact ⟨_, dp_same K04 dvG, nj⟩
        · exact ⟨_, dp_same K04 dvG, nj⟩
        · exact ⟨_, dp_same (K3.trans K34) d2, nice_app okj l12 _ _⟩
        · exact ⟨_, dp_same K34 dsv, nsd⟩
      have tJ4 : TabG J4 T := K4.tab (S3.same sq) (sq.tab T (K3.tab (SG.same s12) (s12.tab T tG)))
      have S4' : Sto sc st (1180 + 40 * i + 11) J4 := S4.more (by omega)
      -- pairs
      apply cutR (α := L2.St → Hp → Prop) (F := fun R => ∀ (pv : V) (pd : PyData) (J5 : Hp), Sto sc st (1180 + 40 * i + 22) J5 → Kept st J4 J5 → TabG J5 T → Dp K (Off st J5) pv pd → lenLog pd ≤ 50000 → R [some (.ref a), some (.ref st), some v, some t, some (.ref pl), some (.int (0 + i)), some sx, some pv, u8, u9, none] J5)
      · intro cont
        refine ⟨_, rfl, st, sc, 2, _, rfl, by decide, by decide, S4', by omega, fun r J5 r0 r2 S5 K5 => ?_⟩
        have tJ5 := K5.tab S4' tJ4
        refine ⟨rfl, _, rfl, ?_⟩
        have dt5' := dp_same K5 (dp_same K04 (dp_same KG dt5))
        refine ite2 (fun _ => ?_) (fun _ => ?_)
        · refine ⟨_, rfl, _, rfl, st, sc, st, _, t, lg, rfl, S5, S5.hasA, by omega, by rw [of2_self]; exact dt5', by omega, fun bv bd J6 S6 K6 dbd lbd => ?_⟩
          rw [of2_self] at dbd
          dsimp only [gName]
          exact cont bv bd J6 (S6.more (by omega)) (K5.trans K6) (K6.tab S5 tJ5) dbd (by omega)
        · refine ⟨_, rfl, ?_⟩
          dsimp only [gName]
          exact cont t _ J5 (S5.more (by omega)) K5 tJ5 dt5' (by rw [len_log]; omega)
      intro pv pd J5 S5 K5 tJ5 dpv lpd
      -- plans
      have dplJ := dp_same K5 (dp_same K04 (dp_same KG dpl))
      obtain ⟨pq, ys, e, qp, rp⟩ := dp_lst dplJ
      cases e
      have yl := dps_len rp
      refine ⟨_, rfl, pl, rfl, ⟨_, (off_sub st _).seq qp⟩, fun D1 nD1 => ?_⟩
      have Da := S5.ne nD1
      have Dsc := S5.ne2 nD1
      have sD := same_new (o := .lst []) nD1
      refine lc_it (walk_list (K := K) (a := pl) (xs := ys)) (fun m Hc => ∃ acc ds, Sto sc st (1180 + 40 * i + 22 + 5 * m) Hc ∧ Same (Off st J5) (Of2 D1 st Hc) ∧ TabG Hc T ∧ Hc D1 = some (.lst acc) ∧ DpAll K (Of2 D1 st Hc) acc ds ∧ ds.length = m ∧ ∀ d ∈ ds, goodHeads d = true)
        ⟨[], [], (S5.same sD).more (by omega), by rw [of2_new nD1 Da]; exact Same.refl _, sD.tab T tJ5, upd_same, .nil, rfl, fun d hd => absurd hd (by simp)⟩ (fun m Hc _ ⟨_, _, _, s3, _⟩ => (of2_sub D1 st Hc).seq (s3.seq qp)) ?_ ?_
      · rintro m y1 Hc0 Hc hm ⟨acc, ds, Sc, s3, tc, hD, dds, lds, gds⟩ ⟨rfl, hy1⟩
        obtain ⟨e1, he1, de1⟩ := dps_getV rp hy1
        have de1' := dp_same s3 de1
        obtain ⟨ls0, b0, rfl, l1, l6, ok0⟩ := vd e1 (List.mem_of_getElem? he1)
        have m2 : m < 2 := by omega
        refine ⟨rfl, _, rfl, st, sc, 3, _, rfl, by decide, by decide, Sc, by omega, fun r J6 r0 r3 S6 K6 => ?_⟩
        have hD6 := K6.at hD Da
        have tJ6 := K6.tab Sc tc
        have de6 := dp_same (of2_kept K6) de1'
        have dd6 := dps_same (of2_kept (l := D1) K6) dds
        refine ⟨rfl, _, rfl, ?_⟩
        have accl : acc.length = m := by rw [dps_len dds, lds]
        refine ite2 (fun _ => ?_) (fun _ => ?_)
        · refine ⟨_, rfl, _, rfl, st, sc, D1, _, y1, ls0, b0, rfl, S6, (by rw [hD6]; exact fun z => nomatch z), by omega, de6, l1, l6, ok0, fun bv bd J7 S7 K7 dbd gbd => ?_⟩
          refine ⟨acc, K7.at hD6 Da, by rw [accl]; exact Nat.lt_of_lt_of_le (show m < 3 by omega) (by decide), acc ++ [bv], ds ++ [bd], (S7.other Da Dsc).more (by omega), ?_, ?_, upd_same, ?_, by rw [List.length_append, lds]; rfl, ?_⟩
          · rw [of2_upd Da]
            exact s3.trans ((of2_kept K6).trans (of2_kept K7))
          · exact tab_put (K7.tab S6 tJ6) (K7.at hD6 Da)
          · rw [of2_upd Da]
            exact dps_app (dps_same (of2_kept K7) dd6) (.cons dbd .nil)
          · intro d hd
            rcases List.mem_append.mp hd with hd | hd
            · exact gds d hd
            · rw [List.mem_singleton.mp hd]
              exact gbd
        · refine ⟨_, rfl, acc, hD6, by rw [accl]; exact Nat.lt_of_lt_of_le (show m < 3 by omega) (by decide), acc ++ [y1], ds ++ [PyData.tuple [.tuple ls0, b0]], (S6.other Da Dsc).more (by omega), ?_, ?_, upd_same, ?_, by rw [List.length_append, lds]; rfl, ?_⟩
          · rw [of2_upd Da]
            exact s3.trans (of2_kept K6)
          · exact tab_put tJ6 hD6
          · rw [of2_upd Da]
            exact dps_app dd6 (.cons de6 .nil)
          · intro d hd
            rcases List.mem_append.mp hd with hd | hd
            · exact gds d hd
            · rw [List.mem_singleton.mp hd]
              exact heads_of ok0
      rintro J6 ⟨acc, ds, S6, s3, tJ6, hD, dds, lds, gds⟩
      have K56 : Kept st J5 J6 := s3.trans (off_sub D1 _)
      rw [yl, rs2] at lds
      obtain ⟨d1', d2', rfl⟩ : ∃ d1 d2, ds = [d1, d2] := by
        match ds, lds with
        | [d1, d2], _ => exact ⟨d1, d2, rfl⟩
      have dplans : Dp K J6 (.ref D1) (.list [d1', d2']) := .lst (SqL.of hD) (dps_same (of2_sub D1 st J6) dds)
      have dsx6 := dp_on (dp_same K56 (dp_same K5 dsx))
      have dpv6 := dp_on (dp_same K56 dpv)
      refine ⟨7, rfl, by decide, by decide, ?_⟩
      refine for_range (lo := 0) (n := 7) (fun j σ L => ∃ (u9 : Option V), σ = [some (.ref a), some (.ref st), some v, some t, some (.ref pl), some (.int (0 + i)), some sx, some pv, some (.ref D1), u9, none] ∧ Same J6 L)
        ⟨_, rfl, Same.refl J6⟩ ?_ ?_
      · rintro j σ L hj ⟨w9, rfl, sL⟩
        refine ⟨_, rfl, _, rfl, _, rfl, _, rfl, j, sx, pv, D1, xd, pd, d1', d2', by rw [Int.zero_add]; rfl, by omega, dp_same sL dsx6, nxd, sL.tab T tJ6, dp_same sL dpv6, lpd, dp_same sL dplans, gds _ (by simp), gds _ (by simp), fun L2 s2 => ⟨_, rfl, iteF ?_⟩⟩
        exact ⟨_, rfl, sL.trans s2⟩
      · rintro σ L ⟨w9, rfl, sL⟩
        exact ⟨_, _, _, _, _, rfl, (S6.same sL).more (by omega), KG.trans (K04.trans (K5.trans (K56.trans (kept_same sL)))), sL.tab T tJ6⟩
    · rintro σ G ⟨u5, u6, u7, u8, u9, rfl, SG, KG, tG⟩
      exact k G
end
end Vk
set_option maxHeartbeats 4000000
namespace Vk
open PySem PySem.Spec PyProof.Rows L2
abbrev sLenIn : Stmt := top 43
section
variable {K : PySem.W.Frag} {mg : Str → Option Value}
/-- the keywords ks written, processors by default -/
theorem dfm_mk {x : Str} {st : Stmt} {f D : Addr} {oc doc pm cdv ct : Value} {od an : Option Addr} {osl : Array (Option Value)} {t : Tok} {ps ks : List Str} {n : Nat} (m : mg x = some (.ref f))
    (l : K.lookup f = some ⟨oc, od, .func (PySem.W.fnOf x x (defArgs st) (defBody st) (defScope st) .none (.ref D) doc pm an cdv ct), osl⟩) (c : PySem.W.codeIn K cdv x = true) (kp : PySem.W.keepIn K (.ref f) = true) (nd : PySem.W.nsIn K D "processors" = some (some (.int 1 t)))
    (hd : ∀ (doc pm : Value) (an : Option Addr) (cdv ct : Value) (us ws : List Value) (z : Value), us.length = n → ws.length = ks.length → KwChain D [("processors", z)] (bindArgs (PySem.W.fnOf x x (defArgs st) (defBody st) (defScope st) .none (.ref D) doc pm an cdv ct) ⟨us, ks.zip ws⟩) (ps.zip (us ++ ws ++ [z]))) :
    DfM K mg x st ps n ks (fun vs zs => vs ++ zs ++ [.int 1]) := by
  have F : FunD K x x (defArgs st) (defBody st) (defScope st) [] [] f (PySem.W.fnOf x x (defArgs st) (defBody st) (defScope st) .none (.ref D) doc pm an cdv ct) :=
    ⟨⟨oc, od, .none, .ref D, doc, pm, an, cdv, ct, osl, rfl, l, c, .inl ⟨rfl, rfl⟩, .inr ⟨D, rfl, fun q hq => absurd hq (by simp)⟩⟩, kp⟩
  refine ⟨f, _, [], fun us ws => us ++ ws ++ [.int 1 t], m, F, ⟨fun s us ws X l1 l2 => ?_, fun r1 r2 => (r1.append r2).append (.cons ⟨t, rfl⟩ .nil)⟩⟩
  refine BindsTo.of_looks fun M => KwChain.looks X (fun q hq => ?_) (hd doc pm an cdv ct us ws (.int 1 t) l1 l2)
  rw [List.mem_singleton.mp hq]
  exact nd
/-- all keywords written -/
theorem dfm_all {x : Str} {st : Stmt} {f D : Addr} {oc doc pm cdv ct : Value} {od an : Option Addr} {osl : Array (Option Value)} {ps ks : List Str} {n : Nat} (m : mg x = some (.ref f))
    (l : K.lookup f = some ⟨oc, od, .func (PySem.W.fnOf x x (defArgs st) (defBody st) (defScope st) .none (.ref D) doc pm an cdv ct), osl⟩) (c : PySem.W.codeIn K cdv x = true) (kp : PySem.W.keepIn K (.ref f) = true)
    (hb : ∀ (doc pm : Value) (an : Option Addr) (cdv ct : Value) (us ws : List Value), us.length = n → ws.length = ks.length → bindArgs (PySem.W.fnOf x x (defArgs st) (defBody st) (defScope st) .none (.ref D) doc pm an cdv ct) ⟨us, ks.zip ws⟩ = pure (ps.zip (us ++ ws))) :
    DfM K mg x st ps n ks (fun vs zs => vs ++ zs) := by
  have F : FunD K x x (defArgs st) (defBody st) (defScope st) [] [] f (PySem.W.fnOf x x (defArgs st) (defBody st) (defScope st) .none (.ref D) doc pm an cdv ct) :=
    ⟨⟨oc, od, .none, .ref D, doc, pm, an, cdv, ct, osl, rfl, l, c, .inl ⟨rfl, rfl⟩, .inr ⟨D, rfl, fun q hq => absurd hq (by simp)⟩⟩, kp⟩
  exact ⟨f, _, [], fun us ws => us ++ ws, m, F, ⟨fun s us ws X l1 l2 => .of_eq (hb doc pm an cdv ct us ws l1 l2), fun r1 r2 => r1.append r2⟩⟩
end
end Vk
set_option maxHeartbeats 4000000
/-! the end of a law whose top is run by the kernel at once: what is looked at behind the top -/
namespace Vk
open PySem PySem.Spec PyProof.Rows L2
abbrev SeeV : Type := Bool × List He.FnV
def seeV (fs : List (PySem.W.Frag → Bool)) (fn : List He.FnD) (K : PySem.W.Frag) : SeeV := (fs.all fun f => f K, fn.map fun d => He.fnObs K d.at_)
def dueV (fn : List He.FnD) : SeeV := (true, fn.map He.FnD.val)
/-- what stands below the module's names: their objects; code, defaults, a class's names; what stands in these; its code -/
def valsV (g : Addr → Option Obj) (a : Addr) : List Addr := match g a with
  | some ⟨_, _, .dict es _, _⟩ => es.toList.flatMap fun e => He.refV e.val
  | some ⟨_, _, .seq its _, _⟩ => its.toList.flatMap He.refV
  | _ => []
def backV (g : Addr → Option Obj) (a : Addr) : List Addr := match g a with
  | some ⟨_, _, .func fd, _⟩ => He.refV fd.code ++ (He.refV fd.kwdefaults ++ He.refV fd.defaults)
  | some ⟨_, _, .cls cd, _⟩ => [cd.ns]
  | some ⟨_, _, .seq its _, _⟩ => its.toList.flatMap He.refV
  | _ => []
def asV (g : Addr → Option Obj) : List Addr :=
  let l1 := valsV g mainGlobals
  let l2 := l1.flatMap (backV g)
  let l3 := l2.flatMap (valsV g)
  mainGlobals :: (l1 ++ (l2 ++ (l3 ++ l3.flatMap (backV g))))
def partV (_ : Nat) (g : Addr → Option Obj) : PySem.W.Frag := He.frT g (asV g)
def hookV (n : Nat) (fs : List (PySem.W.Frag → Bool)) (fn : List He.FnD) : PySem.W.Hook where
  α := SeeV
  obs := fun s => seeV fs fn (partV n s.heap.get?)
  val := fun _ => dueV fn
  says := fun _ h => ∃ K : PySem.W.Frag, K.In h ∧ seeV fs fn K = dueV fn
  of := fun _ _ e => ⟨_, He.frT_in, e⟩
  keeps := fun _ _ _ ⟨K, hK, c⟩ k => ⟨K, PySem.W.Frag.In.keeps hK k, c⟩
theorem seeV_eq {n : Nat} {fs : List (PySem.W.Frag → Bool)} {fn : List He.FnD} {g : Addr → Option Obj} {s : Shared} (h : ∀ a, g a = s.heap.get? a) : seeV fs fn (partV n g) = (hookV n fs fn).obs s := by
  have e : g = s.heap.get? := funext h
  rw [e]
  rfl
section
variable {fs : List (PySem.W.Frag → Bool)} {fn : List He.FnD} {K : PySem.W.Frag}
theorem facV (c : seeV fs fn K = dueV fn) (i : Nat) {f : PySem.W.Frag → Bool} (h : fs[i]? = some f) : f K = true :=
  List.all_eq_true.mp (show (fs.all fun f => f K) = true from congrArg (fun z : SeeV => z.1) c) f (List.mem_of_getElem? h)
theorem defV (c : seeV fs fn K = dueV fn) (i : Nat) {d : He.FnD} (h : fn[i]? = some d) : He.fnObs K d.at_ = d.val := by
  have e : fn.map (fun d => He.fnObs K d.at_) = fn.map He.FnD.val := congrArg (fun z : SeeV => z.2) c
  have e2 : (fn.map fun d => He.fnObs K d.at_)[i]? = (fn.map He.FnD.val)[i]? := by rw [e]
  rw [List.getElem?_map, List.getElem?_map, h] at e2
  exact Option.some.inj e2
end
theorem join3 {α β γ δ : Type} {o : Option α} {f : α → β} {g : α → γ} {k : α → δ} {a : β} {b : γ} {c : δ} (h1 : o.map f = some a) (h2 : o.map g = some b) (h3 : o.map k = some c) : o.map (fun x => (f x, g x, k x)) = some (a, b, c) := by
  cases o with
  | none => cases h1
  | some x =>
    cases (Option.some.inj h1)
    cases (Option.some.inj h2)
    cases (Option.some.inj h3)
    rfl
/-! ### a def of the top -/
def dD (x : Str) (st : Stmt) : He.FnD := ⟨(x, none), x, x, defArgs st, defBody st, defScope st⟩
def bD (x : Str) (K : PySem.W.Frag) : Bool := He.eqO (PySem.W.nsIn K mainGlobals x) (some (some (.ref (He.ga K x)))) && ((He.Fa.code (x, none) x).ok K && PySem.W.keepIn K (.ref (He.ga K x)))
theorem okD {K : PySem.W.Frag} {x : Str} {st : Stmt} (e : He.fnObs K (dD x st).at_ = (dD x st).val) (c : bD x K = true) :
    ∃ oc od sl kV dc pm an cd ct, PySem.W.nsIn K mainGlobals x = some (some (.ref (He.ga K x))) ∧ K.lookup (He.ga K x) = some ⟨oc, od, .func (PySem.W.fnOf x x (defArgs st) (defBody st) (defScope st) .none kV dc pm an cd ct), sl⟩ ∧ PySem.W.codeIn K cd x = true ∧
      PySem.W.keepIn K (.ref (He.ga K x)) = true := by
  obtain ⟨c1, c2⟩ := He.ba c
  obtain ⟨c2, c3⟩ := He.ba c2
  obtain ⟨oc, od, sl, kV, dc, pm, an, cd, ct, l, k⟩ := He.fn_ok (d := dD x st) e c2
  exact ⟨oc, od, sl, kV, dc, pm, an, cd, ct, He.eqO_ok c1, l, k, c3⟩
/-! ### .. with one keyword's default, 1 -/
def kwRef (K : PySem.W.Frag) (f : Addr) : Value := match K.lookup f with
  | some ⟨_, _, .func fd, _⟩ => fd.kwdefaults
  | _ => .none
def oneAt (K : PySem.W.Frag) (y : Str) (i : Int) : Value → Bool
  | .ref D => (match PySem.W.nsIn K D y with
    | some (some (.int j _)) => decide (j = i)
    | _ => false)
  | _ => false
def bK (x y : Str) (K : PySem.W.Frag) : Bool := bD x K && oneAt K y 1 (kwRef K (He.ga K x))
theorem okK {K : PySem.W.Frag} {x y : Str} {st : Stmt} (e : He.fnObs K (dD x st).at_ = (dD x st).val) (c : bK x y K = true) :
    ∃ (oc : Value) (od : Option Addr) (sl : Array (Option Value)) (D : Addr) (dc pm : Value) (an : Option Addr) (cd ct : Value) (t : Tok), PySem.W.nsIn K mainGlobals x = some (some (.ref (He.ga K x))) ∧ K.lookup (He.ga K x) = some ⟨oc, od, .func (PySem.W.fnOf x x (defArgs st) (defBody st) (defScope st) .none (.ref D) dc pm an cd ct), sl⟩ ∧ PySem.W.codeIn K cd x = true ∧
      PySem.W.keepIn K (.ref (He.ga K x)) = true ∧ PySem.W.nsIn K D y = some (some (.int 1 t)) := by
  obtain ⟨c1, c2⟩ := He.ba c
  obtain ⟨oc, od, sl, kV, dc, pm, an, cd, ct, a, l, k, k2⟩ := okD e c1
  unfold kwRef at c2
  rw [l] at c2
  have c3 : oneAt K y 1 kV = true := c2
  cases kV with
  | ref D =>
    have c4 : (match PySem.W.nsIn K D y with
      | some (some (.int j _)) => decide (j = 1)
      | _ => false) = true := c3
    cases q : PySem.W.nsIn K D y with
    | none =>
      rw [q] at c4
      cases c4
    | some o =>
      rw [q] at c4
      cases o with
      | none => cases c4
      | some v =>
        cases v with
        | int j t =>
          have ej : j = 1 := of_decide_eq_true c4
          rw [ej] at q
          exact ⟨oc, od, sl, D, dc, pm, an, cd, ct, t, a, l, k, k2, q⟩
        | _ => cases c4
  | _ => cases c3
/-! ### a number of the top -/
def bI (x : Str) (i : Int) (K : PySem.W.Frag) : Bool := match PySem.W.nsIn K mainGlobals x with
  | some (some (.int j _)) => decide (j = i)
  | _ => false
theorem okI {K : PySem.W.Frag} {x : Str} {i : Int} (c : bI x i K = true) : ∃ t, PySem.W.nsIn K mainGlobals x = some (some (.int i t)) := by
  unfold bI at c
  cases q : PySem.W.nsIn K mainGlobals x with
  | none =>
    rw [q] at c
    cases c
  | some o =>
    rw [q] at c
    cases o with
    | none => cases c
    | some v =>
      cases v with
      | int j t =>
        have ej : j = i := of_decide_eq_true c
        rw [ej]
        exact ⟨t, rfl⟩
      | _ => cases c
/-! ### a def whose code object's table grows -/
def bN (x : Str) (K : PySem.W.Frag) : Bool := bD x K && (match PySem.W.tabIn K x with
  | some (_, P) => (K.lookup P).isNone
  | none => false)
theorem okN {K : PySem.W.Frag} {x : Str} {st : Stmt} (e : He.fnObs K (dD x st).at_ = (dD x st).val) (c : bN x K = true) :
    ∃ (oc : Value) (od : Option Addr) (sl : Array (Option Value)) (kV dc pm : Value) (an : Option Addr) (ct : Value) (cN PN : Addr) (eN : Value) (dd : Option Addr) (vs : Array Value) (sc : Array (Option Value)),
      PySem.W.nsIn K mainGlobals x = some (some (.ref (He.ga K x))) ∧ K.lookup (He.ga K x) = some ⟨oc, od, .func (PySem.W.fnOf x x (defArgs st) (defBody st) (defScope st) .none kV dc pm an (.ref cN) ct), sl⟩ ∧ PySem.W.codeIn K (.ref cN) x = true ∧
      PySem.W.keepIn K (.ref (He.ga K x)) = true ∧ K.lookup cN = some ⟨eN, dd, .fields vs, sc⟩ ∧ (vs[11]? : Option Value) = some (.ref PN) ∧ K.lookup PN = none := by
  obtain ⟨c1, c2⟩ := He.ba c
  obtain ⟨oc, od, sl, kV, dc, pm, an, cd, ct, a, l, k, k2⟩ := okD e c1
  cases q : PySem.W.tabIn K x with
  | none =>
    rw [q] at c2
    cases c2
  | some r =>
    obtain ⟨cN, PN⟩ := r
    rw [q] at c2
    have c3 : (K.lookup PN).isNone = true := c2
    unfold PySem.W.tabIn at q
    rw [a] at q
    dsimp only at q
    rw [l] at q
    dsimp only [PySem.W.fnOf] at q
    cases cd with
    | ref c =>
      dsimp only at q
      cases hc : K.lookup c with
      | none =>
        rw [hc] at q
        cases q
      | some o =>
        obtain ⟨eN, dd, dt, sc⟩ := o
        rw [hc] at q
        cases dt with
        | fields vs =>
          dsimp only at q
          cases hv : (vs[11]? : Option Value) with
          | none =>
            rw [hv] at q
            cases q
          | some v =>
            rw [hv] at q
            cases v with
            | ref P =>
              cases q
              exact ⟨oc, od, sl, kV, dc, pm, an, ct, cN, PN, eN, dd, vs, sc, a, l, k, k2, hc, hv, Option.isNone_iff_eq_none.mp c3⟩
            | _ => cases q
        | _ => cases q
    | _ => cases q
/-! ### an own error's class -/
def bX (S : Addr) (C : Addr) (K : PySem.W.Frag) : Bool := match K.lookup C with
  | some ⟨.type t, _, .cls cd, sl⟩ => decide (t = "type") && (decide (cd.mro = [.ref C, .ref S, .type "ValueError", .type "Exception", .type "BaseException", .type "object"]) && (cd.hasDict && (!cd.hasDel && (match sl.toList with
    | [_, _, _, _, some (.builtin n), _] => decide (n = "ValueError.__new__")
    | _ => false))))
  | _ => false
theorem okX {K : PySem.W.Frag} {S C : Addr} (c : bX S C K = true) : ∃ (nm q : Str) (N : Addr) (bs : List Value) (sn : List Str) (sb : List Value) (ab : Bool) (col : Option Bool) (dd : Option Addr) (m0 m1 m2 m3 m5 : Option Value),
    K.lookup C = some (excClassObj nm q C N bs [.ref S, .type "ValueError", .type "Exception", .type "BaseException", .type "object"] true sn sb ab col dd m0 m1 m2 m3 m5 "ValueError.__new__") := by
  unfold bX at c
  cases q : K.lookup C with
  | none =>
    rw [q] at c
    cases c
  | some o =>
    obtain ⟨oc, dd, dt, sl⟩ := o
    rw [q] at c
    cases oc with
    | type t =>
      cases dt with
      | cls cd =>
        obtain ⟨nm, bs, mro, N, qn, hd, sn, sb, ab, col, del⟩ := cd
        obtain ⟨sl⟩ := sl
        obtain ⟨h1, c⟩ := He.ba c
        obtain ⟨h2, c⟩ := He.ba c
        obtain ⟨h3, c⟩ := He.ba c
        obtain ⟨h4, h5⟩ := He.ba c
        have e1 : t = "type" := of_decide_eq_true h1
        have e2 : mro = _ := of_decide_eq_true h2
        have e3 : hd = true := h3
        have e4 : del = false := by
          cases del
          · rfl
          · cases h4
        dsimp only at h5
        split at h5
        · rename_i k0 k1 k2 k3 n k5 z1 z2 z3
          have e5 : n = "ValueError.__new__" := of_decide_eq_true h5
          subst e1 e2 e3 e4 e5
          exact ⟨nm, qn, N, bs, sn, sb, ab, col, dd, k0, k1, k2, k3, k5, rfl⟩
        · cases h5
      | _ => cases c
    | _ => cases dt <;> cases c
/-! ### a method of a class of the top -/
def dM (x m q : Str) (st : Stmt) : He.FnD := ⟨(x, some m), m, q, defArgs st, defBody st, defScope st⟩
theorem okM {K : PySem.W.Frag} {x m qn : Str} {st : Stmt} (e : He.fnObs K (dM x m qn st).at_ = (dM x m qn st).val) (c : (He.Fa.code (x, some m) qn).ok K = true) :
    ∃ oc od sl kV dc pm an cd ct, K.lookup (He.ma K (He.ga K x) m) = some ⟨oc, od, .func (PySem.W.fnOf m qn (defArgs st) (defBody st) (defScope st) .none kV dc pm an cd ct), sl⟩ ∧ PySem.W.codeIn K cd qn = true := He.fn_ok (d := dM x m qn st) e c
end Vk
set_option maxHeartbeats 8000000
namespace Vk
open PySem PySem.Spec PyProof.Rows L2 GxR
def clsOf (E0 E1 E3 E4 E5 E8 : Addr) : Nat → Addr
  | 0 => E0 | 1 => E1 | 3 => E3 | 4 => E4 | 5 => E5 | _ => E8
/-- what the law needs of a head: the promise of its def, over the empty table of one code object -/
def LawTab (l : PySem.W.OpenLaw) (w : World) (K : PySem.W.Frag) (mg : Str → Option Value) (fa : Addr) : Prop := ∃ (fd : FuncData) (c P : Addr), PySem.W.tabIn K "is_name" = some (c, P) ∧ K.lookup P = none ∧
  (∀ (s : Shared) (u : Value), BindsTo s fd ⟨[u], []⟩ [("script", u)]) ∧ ∀ base : Heap, K.In base → base.Ns mainGlobals mg → TabB base mg c P → FnOk l.prog w K mg base CX0 10 fa fd ["script"] (spLaw K P)

theorem all_mk {l : PySem.W.OpenLaw} {w : World} {K : PySem.W.Frag} {h : Heap} {mg : Str → Option Value} {fa : Addr} (X : K.In h) (G : h.Ns mainGlobals mg) (hfa : mg "law" = some (.ref fa))
    {f0 : Addr} {oc0 kV0 dc0 pm0 cd0 ct0 : Value} {od0 an0 : Option Addr} {sl0 : Array (Option Value)}
    {f1 : Addr} {oc1 kV1 dc1 pm1 cd1 ct1 : Value} {od1 an1 : Option Addr} {sl1 : Array (Option Value)}
    {f2 : Addr} {oc2 kV2 dc2 pm2 cd2 ct2 : Value} {od2 an2 : Option Addr} {sl2 : Array (Option Value)}
    {f3 : Addr} {oc3 kV3 dc3 pm3 cd3 ct3 : Value} {od3 an3 : Option Addr} {sl3 : Array (Option Value)}
    {f4 : Addr} {oc4 kV4 dc4 pm4 cd4 ct4 : Value} {od4 an4 : Option Addr} {sl4 : Array (Option Value)}
    {f5 : Addr} {oc5 kV5 dc5 pm5 cd5 ct5 : Value} {od5 an5 : Option Addr} {sl5 : Array (Option Value)}
    {f6 : Addr} {oc6 kV6 dc6 pm6 cd6 ct6 : Value} {od6 an6 : Option Addr} {sl6 : Array (Option Value)}
    {f7 : Addr} {oc7 kV7 dc7 pm7 cd7 ct7 : Value} {od7 an7 : Option Addr} {sl7 : Array (Option Value)}
    {f8 : Addr} {oc8 kV8 dc8 pm8 cd8 ct8 : Value} {od8 an8 : Option Addr} {sl8 : Array (Option Value)}
    {f9 : Addr} {oc9 kV9 dc9 pm9 cd9 ct9 : Value} {od9 an9 : Option Addr} {sl9 : Array (Option Value)}
    {f10 : Addr} {oc10 kV10 dc10 pm10 cd10 ct10 : Value} {od10 an10 : Option Addr} {sl10 : Array (Option Value)}
    {f11 : Addr} {oc11 kV11 dc11 pm11 cd11 ct11 : Value} {od11 an11 : Option Addr} {sl11 : Array (Option Value)}
    {f12 : Addr} {oc12 kV12 dc12 pm12 cd12 ct12 : Value} {od12 an12 : Option Addr} {sl12 : Array (Option Value)}
    {f13 : Addr} {oc13 kV13 dc13 pm13 cd13 ct13 : Value} {od13 an13 : Option Addr} {sl13 : Array (Option Value)}
    {f14 : Addr} {oc14 kV14 dc14 pm14 cd14 ct14 : Value} {od14 an14 : Option Addr} {sl14 : Array (Option Value)}
    {f15 : Addr} {oc15 kV15 dc15 pm15 cd15 ct15 : Value} {od15 an15 : Option Addr} {sl15 : Array (Option Value)}
    {f16 : Addr} {oc16 kV16 dc16 pm16 cd16 ct16 : Value} {od16 an16 : Option Addr} {sl16 : Array (Option Value)}
    {f17 : Addr} {oc17 kV17 dc17 pm17 cd17 ct17 : Value} {od17 an17 : Option Addr} {sl17 : Array (Option Value)}
    {f18 : Addr} {oc18 kV18 dc18 pm18 cd18 ct18 : Value} {od18 an18 : Option Addr} {sl18 : Array (Option Value)}
    {f19 : Addr} {oc19 kV19 dc19 pm19 cd19 ct19 : Value} {od19 an19 : Option Addr} {sl19 : Array (Option Value)}
    {f20 : Addr} {oc20 kV20 dc20 pm20 cd20 ct20 : Value} {od20 an20 : Option Addr} {sl20 : Array (Option Value)}
    {f21 : Addr} {oc21 kV21 dc21 pm21 cd21 ct21 : Value} {od21 an21 : Option Addr} {sl21 : Array (Option Value)}
    {f22 : Addr} {oc22 kV22 dc22 pm22 cd22 ct22 : Value} {od22 an22 : Option Addr} {sl22 : Array (Option Value)}
    {f23 : Addr} {oc23 kV23 dc23 pm23 cd23 ct23 : Value} {od23 an23 : Option Addr} {sl23 : Array (Option Value)}
    {f24 : Addr} {oc24 kV24 dc24 pm24 cd24 ct24 : Value} {od24 an24 : Option Addr} {sl24 : Array (Option Value)}
    {f25 : Addr} {oc25 kV25 dc25 pm25 cd25 ct25 : Value} {od25 an25 : Option Addr} {sl25 : Array (Option Value)}
    {f26 : Addr} {oc26 kV26 dc26 pm26 cd26 ct26 : Value} {od26 an26 : Option Addr} {sl26 : Array (Option Value)}
    {f27 : Addr} {oc27 kV27 dc27 pm27 cd27 ct27 : Value} {od27 an27 : Option Addr} {sl27 : Array (Option Value)}
    {f28 : Addr} {oc28 kV28 dc28 pm28 cd28 ct28 : Value} {od28 an28 : Option Addr} {sl28 : Array (Option Value)}
    {f29 : Addr} {oc29 kV29 dc29 pm29 cd29 ct29 : Value} {od29 an29 : Option Addr} {sl29 : Array (Option Value)}
    {f30 : Addr} {oc30 kV30 dc30 pm30 cd30 ct30 : Value} {od30 an30 : Option Addr} {sl30 : Array (Option Value)}
    {f31 : Addr} {oc31 kV31 dc31 pm31 cd31 ct31 : Value} {od31 an31 : Option Addr} {sl31 : Array (Option Value)}
    {f32 : Addr} {oc32 kV32 dc32 pm32 cd32 ct32 : Value} {od32 an32 : Option Addr} {sl32 : Array (Option Value)}
    {f33 : Addr} {oc33 kV33 dc33 pm33 cd33 ct33 : Value} {od33 an33 : Option Addr} {sl33 : Array (Option Value)}
    {f34 : Addr} {oc34 kV34 dc34 pm34 cd34 ct34 : Value} {od34 an34 : Option Addr} {sl34 : Array (Option Value)}
    {f35 : Addr} {oc35 kV35 dc35 pm35 cd35 ct35 : Value} {od35 an35 : Option Addr} {sl35 : Array (Option Value)}
    {f36 : Addr} {oc36 kV36 dc36 pm36 cd36 ct36 : Value} {od36 an36 : Option Addr} {sl36 : Array (Option Value)}
    {S : Addr}
    {E0 : Addr}
    {E1 : Addr}
    {E2 : Addr}
    {E3 : Addr}
    {E4 : Addr}
    {E5 : Addr}
    {E6 : Addr}
    {E7 : Addr}
    {E8 : Addr}
    {E9 : Addr}
    {E10 : Addr}
    {E11 : Addr}
    {fI0 : Addr} {nm0 q0 : Str} {N0 : Addr} {bs0 sb0 : List Value} {sn0 : List Str} {ab0 : Bool} {col0 : Option Bool} {dd0 : Option Addr} {m00 m10 m20 m30 m50 : Option Value} {ocI0 kVI0 dcI0 pmI0 cdI0 ctI0 : Value} {odI0 anI0 : Option Addr} {slI0 : Array (Option Value)}
    {fI1 : Addr} {nm1 q1 : Str} {N1 : Addr} {bs1 sb1 : List Value} {sn1 : List Str} {ab1 : Bool} {col1 : Option Bool} {dd1 : Option Addr} {m01 m11 m21 m31 m51 : Option Value} {ocI1 kVI1 dcI1 pmI1 cdI1 ctI1 : Value} {odI1 anI1 : Option Addr} {slI1 : Array (Option Value)}
    {fI3 : Addr} {nm3 q3 : Str} {N3 : Addr} {bs3 sb3 : List Value} {sn3 : List Str} {ab3 : Bool} {col3 : Option Bool} {dd3 : Option Addr} {m03 m13 m23 m33 m53 : Option Value} {ocI3 kVI3 dcI3 pmI3 cdI3 ctI3 : Value} {odI3 anI3 : Option Addr} {slI3 : Array (Option Value)}
    {fI4 : Addr} {nm4 q4 : Str} {N4 : Addr} {bs4 sb4 : List Value} {sn4 : List Str} {ab4 : Bool} {col4 : Option Bool} {dd4 : Option Addr} {m04 m14 m24 m34 m54 : Option Value} {ocI4 kVI4 dcI4 pmI4 cdI4 ctI4 : Value} {odI4 anI4 : Option Addr} {slI4 : Array (Option Value)}
    {fI5 : Addr} {nm5 q5 : Str} {N5 : Addr} {bs5 sb5 : List Value} {sn5 : List Str} {ab5 : Bool} {col5 : Option Bool} {dd5 : Option Addr} {m05 m15 m25 m35 m55 : Option Value} {ocI5 kVI5 dcI5 pmI5 cdI5 ctI5 : Value} {odI5 anI5 : Option Addr} {slI5 : Array (Option Value)}
    {fI8 : Addr} {nm8 q8 : Str} {N8 : Addr} {bs8 sb8 : List Value} {sn8 : List Str} {ab8 : Bool} {col8 : Option Bool} {dd8 : Option Addr} {m08 m18 m28 m38 m58 : Option Value} {ocI8 kVI8 dcI8 pmI8 cdI8 ctI8 : Value} {odI8 anI8 : Option Addr} {slI8 : Array (Option Value)}
    {fF DF : Addr} {ocF dcF pmF cdF ctF : Value} {odF anF : Option Addr} {slF : Array (Option Value)} {tF : Tok}
    {fW DW : Addr} {ocW dcW pmW cdW ctW : Value} {odW anW : Option Addr} {slW : Array (Option Value)} {tW : Tok}
    {fH DH : Addr} {ocH dcH pmH cdH ctH : Value} {odH anH : Option Addr} {slH : Array (Option Value)} {tH : Tok}
    {fO DO : Addr} {ocO dcO pmO cdO ctO : Value} {odO anO : Option Addr} {slO : Array (Option Value)} {tO : Tok}
    {fM DM : Addr} {ocM dcM pmM cdM ctM : Value} {odM anM : Option Addr} {slM : Array (Option Value)} {tM : Tok}
    {fT DT : Addr} {ocT dcT pmT cdT ctT : Value} {odT anT : Option Addr} {slT : Array (Option Value)} {tT : Tok}
    {tML : Tok}
    {fN cN PN : Addr} {ocN kVN dcN pmN ctN eN : Value} {odN anN ddN : Option Addr} {slN scN : Array (Option Value)} {vsN : Array Value}
    (a0 : PySem.W.nsIn K mainGlobals "is_integer" = some (some (.ref f0)))
    (l0 : K.lookup f0 = some ⟨oc0, od0, .func (PySem.W.fnOf "is_integer" "is_integer" (defArgs sInteger) (defBody sInteger) (defScope sInteger) .none kV0 dc0 pm0 an0 cd0 ct0), sl0⟩)
    (c0 : PySem.W.codeIn K cd0 "is_integer" = true)
    (k0 : PySem.W.keepIn K (.ref f0) = true)
    (a1 : PySem.W.nsIn K mainGlobals "is_tuple_of" = some (some (.ref f1)))
    (l1 : K.lookup f1 = some ⟨oc1, od1, .func (PySem.W.fnOf "is_tuple_of" "is_tuple_of" (defArgs sTupleOf) (defBody sTupleOf) (defScope sTupleOf) .none kV1 dc1 pm1 an1 cd1 ct1), sl1⟩)
    (c1 : PySem.W.codeIn K cd1 "is_tuple_of" = true)
    (k1 : PySem.W.keepIn K (.ref f1) = true)
    (a2 : PySem.W.nsIn K mainGlobals "check_jobs" = some (some (.ref f2)))
    (l2 : K.lookup f2 = some ⟨oc2, od2, .func (PySem.W.fnOf "check_jobs" "check_jobs" (defArgs sCheck) (defBody sCheck) (defScope sCheck) .none kV2 dc2 pm2 an2 cd2 ct2), sl2⟩)
    (c2 : PySem.W.codeIn K cd2 "check_jobs" = true)
    (k2 : PySem.W.keepIn K (.ref f2) = true)
    (a3 : PySem.W.nsIn K mainGlobals "check_each_job" = some (some (.ref f3)))
    (l3 : K.lookup f3 = some ⟨oc3, od3, .func (PySem.W.fnOf "check_each_job" "check_each_job" (defArgs sEach) (defBody sEach) (defScope sEach) .none kV3 dc3 pm3 an3 cd3 ct3), sl3⟩)
    (c3 : PySem.W.codeIn K cd3 "check_each_job" = true)
    (k3 : PySem.W.keepIn K (.ref f3) = true)
    (a4 : PySem.W.nsIn K mainGlobals "is_job" = some (some (.ref f4)))
    (l4 : K.lookup f4 = some ⟨oc4, od4, .func (PySem.W.fnOf "is_job" "is_job" (defArgs sIsJob) (defBody sIsJob) (defScope sIsJob) .none kV4 dc4 pm4 an4 cd4 ct4), sl4⟩)
    (c4 : PySem.W.codeIn K cd4 "is_job" = true)
    (k4 : PySem.W.keepIn K (.ref f4) = true)
    (a5 : PySem.W.nsIn K mainGlobals "is_arrival" = some (some (.ref f5)))
    (l5 : K.lookup f5 = some ⟨oc5, od5, .func (PySem.W.fnOf "is_arrival" "is_arrival" (defArgs sArrival) (defBody sArrival) (defScope sArrival) .none kV5 dc5 pm5 an5 cd5 ct5), sl5⟩)
    (c5 : PySem.W.codeIn K cd5 "is_arrival" = true)
    (k5 : PySem.W.keepIn K (.ref f5) = true)
    (a6 : PySem.W.nsIn K mainGlobals "waits_forever" = some (some (.ref f6)))
    (l6 : K.lookup f6 = some ⟨oc6, od6, .func (PySem.W.fnOf "waits_forever" "waits_forever" (defArgs sWaits) (defBody sWaits) (defScope sWaits) .none kV6 dc6 pm6 an6 cd6 ct6), sl6⟩)
    (c6 : PySem.W.codeIn K cd6 "waits_forever" = true)
    (k6 : PySem.W.keepIn K (.ref f6) = true)
    (a7 : PySem.W.nsIn K mainGlobals "check_rule" = some (some (.ref f7)))
    (l7 : K.lookup f7 = some ⟨oc7, od7, .func (PySem.W.fnOf "check_rule" "check_rule" (defArgs sCheckR) (defBody sCheckR) (defScope sCheckR) .none kV7 dc7 pm7 an7 cd7 ct7), sl7⟩)
    (c7 : PySem.W.codeIn K cd7 "check_rule" = true)
    (k7 : PySem.W.keepIn K (.ref f7) = true)
    (a8 : PySem.W.nsIn K mainGlobals "is_level" = some (some (.ref f8)))
    (l8 : K.lookup f8 = some ⟨oc8, od8, .func (PySem.W.fnOf "is_level" "is_level" (defArgs sLevel) (defBody sLevel) (defScope sLevel) .none kV8 dc8 pm8 an8 cd8 ct8), sl8⟩)
    (c8 : PySem.W.codeIn K cd8 "is_level" = true)
    (k8 : PySem.W.keepIn K (.ref f8) = true)
    (a9 : PySem.W.nsIn K mainGlobals "is_count" = some (some (.ref f9)))
    (l9 : K.lookup f9 = some ⟨oc9, od9, .func (PySem.W.fnOf "is_count" "is_count" (defArgs sIsCnt) (defBody sIsCnt) (defScope sIsCnt) .none kV9 dc9 pm9 an9 cd9 ct9), sl9⟩)
    (c9 : PySem.W.codeIn K cd9 "is_count" = true)
    (k9 : PySem.W.keepIn K (.ref f9) = true)
    (a10 : PySem.W.nsIn K mainGlobals "lengths_in" = some (some (.ref f10)))
    (l10 : K.lookup f10 = some ⟨oc10, od10, .func (PySem.W.fnOf "lengths_in" "lengths_in" (defArgs sLenIn) (defBody sLenIn) (defScope sLenIn) .none kV10 dc10 pm10 an10 cd10 ct10), sl10⟩)
    (c10 : PySem.W.codeIn K cd10 "lengths_in" = true)
    (k10 : PySem.W.keepIn K (.ref f10) = true)
    (a11 : PySem.W.nsIn K mainGlobals "presence" = some (some (.ref f11)))
    (l11 : K.lookup f11 = some ⟨oc11, od11, .func (PySem.W.fnOf "presence" "presence" (defArgs sPresence) (defBody sPresence) (defScope sPresence) .none kV11 dc11 pm11 an11 cd11 ct11), sl11⟩)
    (c11 : PySem.W.codeIn K cd11 "presence" = true)
    (k11 : PySem.W.keepIn K (.ref f11) = true)
    (a12 : PySem.W.nsIn K mainGlobals "check_log" = some (some (.ref f12)))
    (l12 : K.lookup f12 = some ⟨oc12, od12, .func (PySem.W.fnOf "check_log" "check_log" (defArgs sCheckLog) (defBody sCheckLog) (defScope sCheckLog) .none kV12 dc12 pm12 an12 cd12 ct12), sl12⟩)
    (c12 : PySem.W.codeIn K cd12 "check_log" = true)
    (k12 : PySem.W.keepIn K (.ref f12) = true)
    (a13 : PySem.W.nsIn K mainGlobals "check_marks" = some (some (.ref f13)))
    (l13 : K.lookup f13 = some ⟨oc13, od13, .func (PySem.W.fnOf "check_marks" "check_marks" (defArgs sCheckMarks) (defBody sCheckMarks) (defScope sCheckMarks) .none kV13 dc13 pm13 an13 cd13 ct13), sl13⟩)
    (c13 : PySem.W.codeIn K cd13 "check_marks" = true)
    (k13 : PySem.W.keepIn K (.ref f13) = true)
    (a14 : PySem.W.nsIn K mainGlobals "course_by_names" = some (some (.ref f14)))
    (l14 : K.lookup f14 = some ⟨oc14, od14, .func (PySem.W.fnOf "course_by_names" "course_by_names" (defArgs sByNames) (defBody sByNames) (defScope sByNames) .none kV14 dc14 pm14 an14 cd14 ct14), sl14⟩)
    (c14 : PySem.W.codeIn K cd14 "course_by_names" = true)
    (k14 : PySem.W.keepIn K (.ref f14) = true)
    (a15 : PySem.W.nsIn K mainGlobals "_law_mix" = some (some (.ref f15)))
    (l15 : K.lookup f15 = some ⟨oc15, od15, .func (PySem.W.fnOf "_law_mix" "_law_mix" (defArgs sMix) (defBody sMix) (defScope sMix) .none kV15 dc15 pm15 an15 cd15 ct15), sl15⟩)
    (c15 : PySem.W.codeIn K cd15 "_law_mix" = true)
    (k15 : PySem.W.keepIn K (.ref f15) = true)
    (a16 : PySem.W.nsIn K mainGlobals "_law_store" = some (some (.ref f16)))
    (l16 : K.lookup f16 = some ⟨oc16, od16, .func (PySem.W.fnOf "_law_store" "_law_store" (defArgs sStore) (defBody sStore) (defScope sStore) .none kV16 dc16 pm16 an16 cd16 ct16), sl16⟩)
    (c16 : PySem.W.codeIn K cd16 "_law_store" = true)
    (k16 : PySem.W.keepIn K (.ref f16) = true)
    (a17 : PySem.W.nsIn K mainGlobals "_law_pick" = some (some (.ref f17)))
    (l17 : K.lookup f17 = some ⟨oc17, od17, .func (PySem.W.fnOf "_law_pick" "_law_pick" (defArgs sPick) (defBody sPick) (defScope sPick) .none kV17 dc17 pm17 an17 cd17 ct17), sl17⟩)
    (c17 : PySem.W.codeIn K cd17 "_law_pick" = true)
    (k17 : PySem.W.keepIn K (.ref f17) = true)
    (a18 : PySem.W.nsIn K mainGlobals "_law_names" = some (some (.ref f18)))
    (l18 : K.lookup f18 = some ⟨oc18, od18, .func (PySem.W.fnOf "_law_names" "_law_names" (defArgs sNames) (defBody sNames) (defScope sNames) .none kV18 dc18 pm18 an18 cd18 ct18), sl18⟩)
    (c18 : PySem.W.codeIn K cd18 "_law_names" = true)
    (k18 : PySem.W.keepIn K (.ref f18) = true)
    (a19 : PySem.W.nsIn K mainGlobals "_law_before" = some (some (.ref f19)))
    (l19 : K.lookup f19 = some ⟨oc19, od19, .func (PySem.W.fnOf "_law_before" "_law_before" (defArgs sBefore) (defBody sBefore) (defScope sBefore) .none kV19 dc19 pm19 an19 cd19 ct19), sl19⟩)
    (c19 : PySem.W.codeIn K cd19 "_law_before" = true)
    (k19 : PySem.W.keepIn K (.ref f19) = true)
    (a20 : PySem.W.nsIn K mainGlobals "_law_jobs" = some (some (.ref f20)))
    (l20 : K.lookup f20 = some ⟨oc20, od20, .func (PySem.W.fnOf "_law_jobs" "_law_jobs" (defArgs sJobs) (defBody sJobs) (defScope sJobs) .none kV20 dc20 pm20 an20 cd20 ct20), sl20⟩)
    (c20 : PySem.W.codeIn K cd20 "_law_jobs" = true)
    (k20 : PySem.W.keepIn K (.ref f20) = true)
    (a21 : PySem.W.nsIn K mainGlobals "_law_is_int" = some (some (.ref f21)))
    (l21 : K.lookup f21 = some ⟨oc21, od21, .func (PySem.W.fnOf "_law_is_int" "_law_is_int" (defArgs sInt) (defBody sInt) (defScope sInt) .none kV21 dc21 pm21 an21 cd21 ct21), sl21⟩)
    (c21 : PySem.W.codeIn K cd21 "_law_is_int" = true)
    (k21 : PySem.W.keepIn K (.ref f21) = true)
    (a22 : PySem.W.nsIn K mainGlobals "_law_is_job" = some (some (.ref f22)))
    (l22 : K.lookup f22 = some ⟨oc22, od22, .func (PySem.W.fnOf "_law_is_job" "_law_is_job" (defArgs sIsJobL) (defBody sIsJobL) (defScope sIsJobL) .none kV22 dc22 pm22 an22 cd22 ct22), sl22⟩)
    (c22 : PySem.W.codeIn K cd22 "_law_is_job" = true)
    (k22 : PySem.W.keepIn K (.ref f22) = true)
    (a23 : PySem.W.nsIn K mainGlobals "_law_fault" = some (some (.ref f23)))
    (l23 : K.lookup f23 = some ⟨oc23, od23, .func (PySem.W.fnOf "_law_fault" "_law_fault" (defArgs sFault) (defBody sFault) (defScope sFault) .none kV23 dc23 pm23 an23 cd23 ct23), sl23⟩)
    (c23 : PySem.W.codeIn K cd23 "_law_fault" = true)
    (k23 : PySem.W.keepIn K (.ref f23) = true)
    (a24 : PySem.W.nsIn K mainGlobals "_law_spoilt" = some (some (.ref f24)))
    (l24 : K.lookup f24 = some ⟨oc24, od24, .func (PySem.W.fnOf "_law_spoilt" "_law_spoilt" (defArgs sSpoilt) (defBody sSpoilt) (defScope sSpoilt) .none kV24 dc24 pm24 an24 cd24 ct24), sl24⟩)
    (c24 : PySem.W.codeIn K cd24 "_law_spoilt" = true)
    (k24 : PySem.W.keepIn K (.ref f24) = true)
    (a25 : PySem.W.nsIn K mainGlobals "_law_rule" = some (some (.ref f25)))
    (l25 : K.lookup f25 = some ⟨oc25, od25, .func (PySem.W.fnOf "_law_rule" "_law_rule" (defArgs sRule) (defBody sRule) (defScope sRule) .none kV25 dc25 pm25 an25 cd25 ct25), sl25⟩)
    (c25 : PySem.W.codeIn K cd25 "_law_rule" = true)
    (k25 : PySem.W.keepIn K (.ref f25) = true)
    (a26 : PySem.W.nsIn K mainGlobals "_law_fault_rule" = some (some (.ref f26)))
    (l26 : K.lookup f26 = some ⟨oc26, od26, .func (PySem.W.fnOf "_law_fault_rule" "_law_fault_rule" (defArgs sFaultR) (defBody sFaultR) (defScope sFaultR) .none kV26 dc26 pm26 an26 cd26 ct26), sl26⟩)
    (c26 : PySem.W.codeIn K cd26 "_law_fault_rule" = true)
    (k26 : PySem.W.keepIn K (.ref f26) = true)
    (a27 : PySem.W.nsIn K mainGlobals "_law_bad_rule" = some (some (.ref f27)))
    (l27 : K.lookup f27 = some ⟨oc27, od27, .func (PySem.W.fnOf "_law_bad_rule" "_law_bad_rule" (defArgs sBadRule) (defBody sBadRule) (defScope sBadRule) .none kV27 dc27 pm27 an27 cd27 ct27), sl27⟩)
    (c27 : PySem.W.codeIn K cd27 "_law_bad_rule" = true)
    (k27 : PySem.W.keepIn K (.ref f27) = true)
    (a28 : PySem.W.nsIn K mainGlobals "_law_kind" = some (some (.ref f28)))
    (l28 : K.lookup f28 = some ⟨oc28, od28, .func (PySem.W.fnOf "_law_kind" "_law_kind" (defArgs sKind) (defBody sKind) (defScope sKind) .none kV28 dc28 pm28 an28 cd28 ct28), sl28⟩)
    (c28 : PySem.W.codeIn K cd28 "_law_kind" = true)
    (k28 : PySem.W.keepIn K (.ref f28) = true)
    (a29 : PySem.W.nsIn K mainGlobals "_law_present" = some (some (.ref f29)))
    (l29 : K.lookup f29 = some ⟨oc29, od29, .func (PySem.W.fnOf "_law_present" "_law_present" (defArgs sPresentL) (defBody sPresentL) (defScope sPresentL) .none kV29 dc29 pm29 an29 cd29 ct29), sl29⟩)
    (c29 : PySem.W.codeIn K cd29 "_law_present" = true)
    (k29 : PySem.W.keepIn K (.ref f29) = true)
    (a30 : PySem.W.nsIn K mainGlobals "_law_log" = some (some (.ref f30)))
    (l30 : K.lookup f30 = some ⟨oc30, od30, .func (PySem.W.fnOf "_law_log" "_law_log" (defArgs sLog) (defBody sLog) (defScope sLog) .none kV30 dc30 pm30 an30 cd30 ct30), sl30⟩)
    (c30 : PySem.W.codeIn K cd30 "_law_log" = true)
    (k30 : PySem.W.keepIn K (.ref f30) = true)
    (a31 : PySem.W.nsIn K mainGlobals "_law_log_fault" = some (some (.ref f31)))
    (l31 : K.lookup f31 = some ⟨oc31, od31, .func (PySem.W.fnOf "_law_log_fault" "_law_log_fault" (defArgs sLogFault) (defBody sLogFault) (defScope sLogFault) .none kV31 dc31 pm31 an31 cd31 ct31), sl31⟩)
    (c31 : PySem.W.codeIn K cd31 "_law_log_fault" = true)
    (k31 : PySem.W.keepIn K (.ref f31) = true)
    (a32 : PySem.W.nsIn K mainGlobals "_law_bad_log" = some (some (.ref f32)))
    (l32 : K.lookup f32 = some ⟨oc32, od32, .func (PySem.W.fnOf "_law_bad_log" "_law_bad_log" (defArgs sBadLog) (defBody sBadLog) (defScope sBadLog) .none kV32 dc32 pm32 an32 cd32 ct32), sl32⟩)
    (c32 : PySem.W.codeIn K cd32 "_law_bad_log" = true)
    (k32 : PySem.W.keepIn K (.ref f32) = true)
    (a33 : PySem.W.nsIn K mainGlobals "_law_call" = some (some (.ref f33)))
    (l33 : K.lookup f33 = some ⟨oc33, od33, .func (PySem.W.fnOf "_law_call" "_law_call" (defArgs sCall) (defBody sCall) (defScope sCall) .none kV33 dc33 pm33 an33 cd33 ct33), sl33⟩)
    (c33 : PySem.W.codeIn K cd33 "_law_call" = true)
    (k33 : PySem.W.keepIn K (.ref f33) = true)
    (a34 : PySem.W.nsIn K mainGlobals "_law_due" = some (some (.ref f34)))
    (l34 : K.lookup f34 = some ⟨oc34, od34, .func (PySem.W.fnOf "_law_due" "_law_due" (defArgs sDue) (defBody sDue) (defScope sDue) .none kV34 dc34 pm34 an34 cd34 ct34), sl34⟩)
    (c34 : PySem.W.codeIn K cd34 "_law_due" = true)
    (k34 : PySem.W.keepIn K (.ref f34) = true)
    (a35 : PySem.W.nsIn K mainGlobals "_law_right" = some (some (.ref f35)))
    (l35 : K.lookup f35 = some ⟨oc35, od35, .func (PySem.W.fnOf "_law_right" "_law_right" (defArgs sRight) (defBody sRight) (defScope sRight) .none kV35 dc35 pm35 an35 cd35 ct35), sl35⟩)
    (c35 : PySem.W.codeIn K cd35 "_law_right" = true)
    (k35 : PySem.W.keepIn K (.ref f35) = true)
    (a36 : PySem.W.nsIn K mainGlobals "law" = some (some (.ref f36)))
    (l36 : K.lookup f36 = some ⟨oc36, od36, .func (PySem.W.fnOf "law" "law" (defArgs sLaw) (defBody sLaw) (defScope sLaw) .none kV36 dc36 pm36 an36 cd36 ct36), sl36⟩)
    (c36 : PySem.W.codeIn K cd36 "law" = true)
    (k36 : PySem.W.keepIn K (.ref f36) = true)
    (z_len : PySem.W.nsIn K mainGlobals "len" = some none)
    (z_isinstance : PySem.W.nsIn K mainGlobals "isinstance" = some none)
    (z_int : PySem.W.nsIn K mainGlobals "int" = some none)
    (z_bool : PySem.W.nsIn K mainGlobals "bool" = some none)
    (z_tuple : PySem.W.nsIn K mainGlobals "tuple" = some none)
    (z_str : PySem.W.nsIn K mainGlobals "str" = some none)
    (z_range : PySem.W.nsIn K mainGlobals "range" = some none)
    (z_enumerate : PySem.W.nsIn K mainGlobals "enumerate" = some none)
    (z_list : PySem.W.nsIn K mainGlobals "list" = some none)
    (z_all : PySem.W.nsIn K mainGlobals "all" = some none)
    (z_min : PySem.W.nsIn K mainGlobals "min" = some none)
    (aS : PySem.W.nsIn K mainGlobals "SlotError" = some (some (.ref S)))
    (iS : PySem.W.isClsIn K S = true)
    (hS : PySem.W.hasDictIn K S = true)
    (tS : PySem.W.typeIn K (.ref S) = some (.type "type"))
    (eS : PySem.W.subIn K (.ref S) (.type "BaseException") = some true)
    (spG : PySem.W.specialIn K (.builtin "object.__class__") "__get__" = some (some (.builtin "getset_descriptor.__get__")))
    (tkG : PySem.W.takesIn K (.builtin "object.__class__") = some true)
    (zVE : PySem.W.nsIn K mainGlobals "ValueError" = some none)
    (aE0 : PySem.W.nsIn K mainGlobals "NoJobs" = some (some (.ref E0)))
    (iE0 : PySem.W.isClsIn K E0 = true)
    (tE0 : PySem.W.typeIn K (.ref E0) = some (.type "type"))
    (aE1 : PySem.W.nsIn K mainGlobals "NoRule" = some (some (.ref E1)))
    (iE1 : PySem.W.isClsIn K E1 = true)
    (tE1 : PySem.W.typeIn K (.ref E1) = some (.type "type"))
    (aE2 : PySem.W.nsIn K mainGlobals "NoLengths" = some (some (.ref E2)))
    (iE2 : PySem.W.isClsIn K E2 = true)
    (tE2 : PySem.W.typeIn K (.ref E2) = some (.type "type"))
    (aE3 : PySem.W.nsIn K mainGlobals "NoLog" = some (some (.ref E3)))
    (iE3 : PySem.W.isClsIn K E3 = true)
    (tE3 : PySem.W.typeIn K (.ref E3) = some (.type "type"))
    (aE4 : PySem.W.nsIn K mainGlobals "NoMarks" = some (some (.ref E4)))
    (iE4 : PySem.W.isClsIn K E4 = true)
    (tE4 : PySem.W.typeIn K (.ref E4) = some (.type "type"))
    (aE5 : PySem.W.nsIn K mainGlobals "NoNamed" = some (some (.ref E5)))
    (iE5 : PySem.W.isClsIn K E5 = true)
    (tE5 : PySem.W.typeIn K (.ref E5) = some (.type "type"))
    (aE6 : PySem.W.nsIn K mainGlobals "NoOrder" = some (some (.ref E6)))
    (iE6 : PySem.W.isClsIn K E6 = true)
    (tE6 : PySem.W.typeIn K (.ref E6) = some (.type "type"))
    (aE7 : PySem.W.nsIn K mainGlobals "NoText" = some (some (.ref E7)))
    (iE7 : PySem.W.isClsIn K E7 = true)
    (tE7 : PySem.W.typeIn K (.ref E7) = some (.type "type"))
    (aE8 : PySem.W.nsIn K mainGlobals "NoNumber" = some (some (.ref E8)))
    (iE8 : PySem.W.isClsIn K E8 = true)
    (tE8 : PySem.W.typeIn K (.ref E8) = some (.type "type"))
    (aE9 : PySem.W.nsIn K mainGlobals "NoName" = some (some (.ref E9)))
    (iE9 : PySem.W.isClsIn K E9 = true)
    (tE9 : PySem.W.typeIn K (.ref E9) = some (.type "type"))
    (aE10 : PySem.W.nsIn K mainGlobals "NoUndo" = some (some (.ref E10)))
    (iE10 : PySem.W.isClsIn K E10 = true)
    (tE10 : PySem.W.typeIn K (.ref E10) = some (.type "type"))
    (aE11 : PySem.W.nsIn K mainGlobals "NoLine" = some (some (.ref E11)))
    (iE11 : PySem.W.isClsIn K E11 = true)
    (tE11 : PySem.W.typeIn K (.ref E11) = some (.type "type"))
    (x0_ : K.lookup E0 = some (excClassObj nm0 q0 E0 N0 bs0 [.ref S, .type "ValueError", .type "Exception", .type "BaseException", .type "object"] true sn0 sb0 ab0 col0 dd0 m00 m10 m20 m30 m50 "ValueError.__new__"))
    (sa0 : PySem.W.findIn K (.ref E0) "__setattr__" = some (some (.builtin "object.__setattr__")))
    (ga0 : PySem.W.findIn K (.ref E0) "__getattribute__" = some (some (.builtin "BaseException.__getattribute__")))
    (gg0 : PySem.W.findIn K (.ref E0) "__getattr__" = some none)
    (np0 : PySem.W.findIn K (.ref E0) "place" = some none)
    (in0 : PySem.W.findIn K (.ref E0) "__init__" = some (some (.ref fI0)))
    (ti0 : PySem.W.typeIn K (.ref fI0) = some (.type "function"))
    (li0 : K.lookup fI0 = some ⟨ocI0, odI0, .func (PySem.W.fnOf "__init__" "NoJobs.__init__" (defArgs sJobsInit) (defBody sJobsInit) (defScope sJobsInit) .none kVI0 dcI0 pmI0 anI0 cdI0 ctI0), slI0⟩)
    (ci0 : PySem.W.codeIn K cdI0 "NoJobs.__init__" = true)
    (ki0 : PySem.W.keepIn K (.ref fI0) = true)
    (kc0 : PySem.W.keepIn K (.ref E0) = true)
    (ec0 : PySem.W.subIn K (.ref E0) (.type "BaseException") = some true)
    (hc0 : PySem.W.hasDictIn K E0 = true)
    (cc0 : PySem.W.findIn K (.ref E0) "__class__" = some (some (.builtin "object.__class__")))
    (mc0 : PySem.W.mroIn K E0 (.type "object") = some true)
    (vc0 : PySem.W.subIn K (.ref E0) (.type "ValueError") = some true)
    (sc0 : PySem.W.subIn K (.ref E0) (.ref S) = some true)
    (s0_1 : PySem.W.subIn K (.ref E0) (.ref E1) = some false)
    (n0_1 : (Value.ref E0 == Value.ref E1) = false)
    (s0_2 : PySem.W.subIn K (.ref E0) (.ref E2) = some false)
    (n0_2 : (Value.ref E0 == Value.ref E2) = false)
    (s0_3 : PySem.W.subIn K (.ref E0) (.ref E3) = some false)
    (n0_3 : (Value.ref E0 == Value.ref E3) = false)
    (s0_4 : PySem.W.subIn K (.ref E0) (.ref E4) = some false)
    (n0_4 : (Value.ref E0 == Value.ref E4) = false)
    (s0_5 : PySem.W.subIn K (.ref E0) (.ref E5) = some false)
    (n0_5 : (Value.ref E0 == Value.ref E5) = false)
    (s0_6 : PySem.W.subIn K (.ref E0) (.ref E6) = some false)
    (n0_6 : (Value.ref E0 == Value.ref E6) = false)
    (s0_7 : PySem.W.subIn K (.ref E0) (.ref E7) = some false)
    (n0_7 : (Value.ref E0 == Value.ref E7) = false)
    (s0_8 : PySem.W.subIn K (.ref E0) (.ref E8) = some false)
    (n0_8 : (Value.ref E0 == Value.ref E8) = false)
    (s0_9 : PySem.W.subIn K (.ref E0) (.ref E9) = some false)
    (n0_9 : (Value.ref E0 == Value.ref E9) = false)
    (s0_10 : PySem.W.subIn K (.ref E0) (.ref E10) = some false)
    (n0_10 : (Value.ref E0 == Value.ref E10) = false)
    (s0_11 : PySem.W.subIn K (.ref E0) (.ref E11) = some false)
    (n0_11 : (Value.ref E0 == Value.ref E11) = false)
    (x1_ : K.lookup E1 = some (excClassObj nm1 q1 E1 N1 bs1 [.ref S, .type "ValueError", .type "Exception", .type "BaseException", .type "object"] true sn1 sb1 ab1 col1 dd1 m01 m11 m21 m31 m51 "ValueError.__new__"))
    (sa1 : PySem.W.findIn K (.ref E1) "__setattr__" = some (some (.builtin "object.__setattr__")))
    (ga1 : PySem.W.findIn K (.ref E1) "__getattribute__" = some (some (.builtin "BaseException.__getattribute__")))
    (gg1 : PySem.W.findIn K (.ref E1) "__getattr__" = some none)
    (np1 : PySem.W.findIn K (.ref E1) "place" = some none)
    (in1 : PySem.W.findIn K (.ref E1) "__init__" = some (some (.ref fI1)))
    (ti1 : PySem.W.typeIn K (.ref fI1) = some (.type "function"))
    (li1 : K.lookup fI1 = some ⟨ocI1, odI1, .func (PySem.W.fnOf "__init__" "NoRule.__init__" (defArgs sRuleInit) (defBody sRuleInit) (defScope sRuleInit) .none kVI1 dcI1 pmI1 anI1 cdI1 ctI1), slI1⟩)
    (ci1 : PySem.W.codeIn K cdI1 "NoRule.__init__" = true)
    (ki1 : PySem.W.keepIn K (.ref fI1) = true)
    (kc1 : PySem.W.keepIn K (.ref E1) = true)
    (ec1 : PySem.W.subIn K (.ref E1) (.type "BaseException") = some true)
    (hc1 : PySem.W.hasDictIn K E1 = true)
    (cc1 : PySem.W.findIn K (.ref E1) "__class__" = some (some (.builtin "object.__class__")))
    (mc1 : PySem.W.mroIn K E1 (.type "object") = some true)
    (vc1 : PySem.W.subIn K (.ref E1) (.type "ValueError") = some true)
    (sc1 : PySem.W.subIn K (.ref E1) (.ref S) = some true)
    (s1_0 : PySem.W.subIn K (.ref E1) (.ref E0) = some false)
    (n1_0 : (Value.ref E1 == Value.ref E0) = false)
    (s1_2 : PySem.W.subIn K (.ref E1) (.ref E2) = some false)
    (n1_2 : (Value.ref E1 == Value.ref E2) = false)
    (s1_3 : PySem.W.subIn K (.ref E1) (.ref E3) = some false)
    (n1_3 : (Value.ref E1 == Value.ref E3) = false)
    (s1_4 : PySem.W.subIn K (.ref E1) (.ref E4) = some false)
    (n1_4 : (Value.ref E1 == Value.ref E4) = false)
    (s1_5 : PySem.W.subIn K (.ref E1) (.ref E5) = some false)
    (n1_5 : (Value.ref E1 == Value.ref E5) = false)
    (s1_6 : PySem.W.subIn K (.ref E1) (.ref E6) = some false)
    (n1_6 : (Value.ref E1 == Value.ref E6) = false)
    (s1_7 : PySem.W.subIn K (.ref E1) (.ref E7) = some false)
    (n1_7 : (Value.ref E1 == Value.ref E7) = false)
    (s1_8 : PySem.W.subIn K (.ref E1) (.ref E8) = some false)
    (n1_8 : (Value.ref E1 == Value.ref E8) = false)
    (s1_9 : PySem.W.subIn K (.ref E1) (.ref E9) = some false)
    (n1_9 : (Value.ref E1 == Value.ref E9) = false)
    (s1_10 : PySem.W.subIn K (.ref E1) (.ref E10) = some false)
    (n1_10 : (Value.ref E1 == Value.ref E10) = false)
    (s1_11 : PySem.W.subIn K (.ref E1) (.ref E11) = some false)
    (n1_11 : (Value.ref E1 == Value.ref E11) = false)
    (x3_ : K.lookup E3 = some (excClassObj nm3 q3 E3 N3 bs3 [.ref S, .type "ValueError", .type "Exception", .type "BaseException", .type "object"] true sn3 sb3 ab3 col3 dd3 m03 m13 m23 m33 m53 "ValueError.__new__"))
    (sa3 : PySem.W.findIn K (.ref E3) "__setattr__" = some (some (.builtin "object.__setattr__")))
    (ga3 : PySem.W.findIn K (.ref E3) "__getattribute__" = some (some (.builtin "BaseException.__getattribute__")))
    (gg3 : PySem.W.findIn K (.ref E3) "__getattr__" = some none)
    (np3 : PySem.W.findIn K (.ref E3) "place" = some none)
    (in3 : PySem.W.findIn K (.ref E3) "__init__" = some (some (.ref fI3)))
    (ti3 : PySem.W.typeIn K (.ref fI3) = some (.type "function"))
    (li3 : K.lookup fI3 = some ⟨ocI3, odI3, .func (PySem.W.fnOf "__init__" "NoLog.__init__" (defArgs sLogInit) (defBody sLogInit) (defScope sLogInit) .none kVI3 dcI3 pmI3 anI3 cdI3 ctI3), slI3⟩)
    (ci3 : PySem.W.codeIn K cdI3 "NoLog.__init__" = true)
    (ki3 : PySem.W.keepIn K (.ref fI3) = true)
    (kc3 : PySem.W.keepIn K (.ref E3) = true)
    (ec3 : PySem.W.subIn K (.ref E3) (.type "BaseException") = some true)
    (hc3 : PySem.W.hasDictIn K E3 = true)
    (cc3 : PySem.W.findIn K (.ref E3) "__class__" = some (some (.builtin "object.__class__")))
    (mc3 : PySem.W.mroIn K E3 (.type "object") = some true)
    (vc3 : PySem.W.subIn K (.ref E3) (.type "ValueError") = some true)
    (sc3 : PySem.W.subIn K (.ref E3) (.ref S) = some true)
    (s3_0 : PySem.W.subIn K (.ref E3) (.ref E0) = some false)
    (n3_0 : (Value.ref E3 == Value.ref E0) = false)
    (s3_1 : PySem.W.subIn K (.ref E3) (.ref E1) = some false)
    (n3_1 : (Value.ref E3 == Value.ref E1) = false)
    (s3_2 : PySem.W.subIn K (.ref E3) (.ref E2) = some false)
    (n3_2 : (Value.ref E3 == Value.ref E2) = false)
    (s3_4 : PySem.W.subIn K (.ref E3) (.ref E4) = some false)
    (n3_4 : (Value.ref E3 == Value.ref E4) = false)
    (s3_5 : PySem.W.subIn K (.ref E3) (.ref E5) = some false)
    (n3_5 : (Value.ref E3 == Value.ref E5) = false)
    (s3_6 : PySem.W.subIn K (.ref E3) (.ref E6) = some false)
    (n3_6 : (Value.ref E3 == Value.ref E6) = false)
    (s3_7 : PySem.W.subIn K (.ref E3) (.ref E7) = some false)
    (n3_7 : (Value.ref E3 == Value.ref E7) = false)
    (s3_8 : PySem.W.subIn K (.ref E3) (.ref E8) = some false)
    (n3_8 : (Value.ref E3 == Value.ref E8) = false)
    (s3_9 : PySem.W.subIn K (.ref E3) (.ref E9) = some false)
    (n3_9 : (Value.ref E3 == Value.ref E9) = false)
    (s3_10 : PySem.W.subIn K (.ref E3) (.ref E10) = some false)
    (n3_10 : (Value.ref E3 == Value.ref E10) = false)
    (s3_11 : PySem.W.subIn K (.ref E3) (.ref E11) = some false)
    (n3_11 : (Value.ref E3 == Value.ref E11) = false)
    (x4_ : K.lookup E4 = some (excClassObj nm4 q4 E4 N4 bs4 [.ref S, .type "ValueError", .type "Exception", .type "BaseException", .type "object"] true sn4 sb4 ab4 col4 dd4 m04 m14 m24 m34 m54 "ValueError.__new__"))
    (sa4 : PySem.W.findIn K (.ref E4) "__setattr__" = some (some (.builtin "object.__setattr__")))
    (ga4 : PySem.W.findIn K (.ref E4) "__getattribute__" = some (some (.builtin "BaseException.__getattribute__")))
    (gg4 : PySem.W.findIn K (.ref E4) "__getattr__" = some none)
    (np4 : PySem.W.findIn K (.ref E4) "place" = some none)
    (in4 : PySem.W.findIn K (.ref E4) "__init__" = some (some (.ref fI4)))
    (ti4 : PySem.W.typeIn K (.ref fI4) = some (.type "function"))
    (li4 : K.lookup fI4 = some ⟨ocI4, odI4, .func (PySem.W.fnOf "__init__" "NoMarks.__init__" (defArgs sMarksInit) (defBody sMarksInit) (defScope sMarksInit) .none kVI4 dcI4 pmI4 anI4 cdI4 ctI4), slI4⟩)
    (ci4 : PySem.W.codeIn K cdI4 "NoMarks.__init__" = true)
    (ki4 : PySem.W.keepIn K (.ref fI4) = true)
    (kc4 : PySem.W.keepIn K (.ref E4) = true)
    (ec4 : PySem.W.subIn K (.ref E4) (.type "BaseException") = some true)
    (hc4 : PySem.W.hasDictIn K E4 = true)
    (cc4 : PySem.W.findIn K (.ref E4) "__class__" = some (some (.builtin "object.__class__")))
    (mc4 : PySem.W.mroIn K E4 (.type "object") = some true)
    (vc4 : PySem.W.subIn K (.ref E4) (.type "ValueError") = some true)
    (sc4 : PySem.W.subIn K (.ref E4) (.ref S) = some true)
    (s4_0 : PySem.W.subIn K (.ref E4) (.ref E0) = some false)
    (n4_0 : (Value.ref E4 == Value.ref E0) = false)
    (s4_1 : PySem.W.subIn K (.ref E4) (.ref E1) = some false)
    (n4_1 : (Value.ref E4 == Value.ref E1) = false)
    (s4_2 : PySem.W.subIn K (.ref E4) (.ref E2) = some false)
    (n4_2 : (Value.ref E4 == Value.ref E2) = false)
    (s4_3 : PySem.W.subIn K (.ref E4) (.ref E3) = some false)
    (n4_3 : (Value.ref E4 == Value.ref E3) = false)
    (s4_5 : PySem.W.subIn K (.ref E4) (.ref E5) = some false)
    (n4_5 : (Value.ref E4 == Value.ref E5) = false)
    (s4_6 : PySem.W.subIn K (.ref E4) (.ref E6) = some false)
    (n4_6 : (Value.ref E4 == Value.ref E6) = false)
    (s4_7 : PySem.W.subIn K (.ref E4) (.ref E7) = some false)
    (n4_7 : (Value.ref E4 == Value.ref E7) = false)
    (s4_8 : PySem.W.subIn K (.ref E4) (.ref E8) = some false)
    (n4_8 : (Value.ref E4 == Value.ref E8) = false)
    (s4_9 : PySem.W.subIn K (.ref E4) (.ref E9) = some false)
    (n4_9 : (Value.ref E4 == Value.ref E9) = false)
    (s4_10 : PySem.W.subIn K (.ref E4) (.ref E10) = some false)
    (n4_10 : (Value.ref E4 == Value.ref E10) = false)
    (s4_11 : PySem.W.subIn K (.ref E4) (.ref E11) = some false)
    (n4_11 : (Value.ref E4 == Value.ref E11) = false)
    (x5_ : K.lookup E5 = some (excClassObj nm5 q5 E5 N5 bs5 [.ref S, .type "ValueError", .type "Exception", .type "BaseException", .type "object"] true sn5 sb5 ab5 col5 dd5 m05 m15 m25 m35 m55 "ValueError.__new__"))
    (sa5 : PySem.W.findIn K (.ref E5) "__setattr__" = some (some (.builtin "object.__setattr__")))
    (ga5 : PySem.W.findIn K (.ref E5) "__getattribute__" = some (some (.builtin "BaseException.__getattribute__")))
    (gg5 : PySem.W.findIn K (.ref E5) "__getattr__" = some none)
    (np5 : PySem.W.findIn K (.ref E5) "place" = some none)
    (in5 : PySem.W.findIn K (.ref E5) "__init__" = some (some (.ref fI5)))
    (ti5 : PySem.W.typeIn K (.ref fI5) = some (.type "function"))
    (li5 : K.lookup fI5 = some ⟨ocI5, odI5, .func (PySem.W.fnOf "__init__" "NoNamed.__init__" (defArgs sNamedInit) (defBody sNamedInit) (defScope sNamedInit) .none kVI5 dcI5 pmI5 anI5 cdI5 ctI5), slI5⟩)
    (ci5 : PySem.W.codeIn K cdI5 "NoNamed.__init__" = true)
    (ki5 : PySem.W.keepIn K (.ref fI5) = true)
    (kc5 : PySem.W.keepIn K (.ref E5) = true)
    (ec5 : PySem.W.subIn K (.ref E5) (.type "BaseException") = some true)
    (hc5 : PySem.W.hasDictIn K E5 = true)
    (cc5 : PySem.W.findIn K (.ref E5) "__class__" = some (some (.builtin "object.__class__")))
    (mc5 : PySem.W.mroIn K E5 (.type "object") = some true)
    (vc5 : PySem.W.subIn K (.ref E5) (.type "ValueError") = some true)
    (sc5 : PySem.W.subIn K (.ref E5) (.ref S) = some true)
    (s5_0 : PySem.W.subIn K (.ref E5) (.ref E0) = some false)
    (n5_0 : (Value.ref E5 == Value.ref E0) = false)
    (s5_1 : PySem.W.subIn K (.ref E5) (.ref E1) = some false)
    (n5_1 : (Value.ref E5 == Value.ref E1) = false)
    (s5_2 : PySem.W.subIn K (.ref E5) (.ref E2) = some false)
    (n5_2 : (Value.ref E5 == Value.ref E2) = false)
    (s5_3 : PySem.W.subIn K (.ref E5) (.ref E3) = some false)
    (n5_3 : (Value.ref E5 == Value.ref E3) = false)
    (s5_4 : PySem.W.subIn K (.ref E5) (.ref E4) = some false)
    (n5_4 : (Value.ref E5 == Value.ref E4) = false)
    (s5_6 : PySem.W.subIn K (.ref E5) (.ref E6) = some false)
    (n5_6 : (Value.ref E5 == Value.ref E6) = false)
    (s5_7 : PySem.W.subIn K (.ref E5) (.ref E7) = some false)
    (n5_7 : (Value.ref E5 == Value.ref E7) = false)
    (s5_8 : PySem.W.subIn K (.ref E5) (.ref E8) = some false)
    (n5_8 : (Value.ref E5 == Value.ref E8) = false)
    (s5_9 : PySem.W.subIn K (.ref E5) (.ref E9) = some false)
    (n5_9 : (Value.ref E5 == Value.ref E9) = false)
    (s5_10 : PySem.W.subIn K (.ref E5) (.ref E10) = some false)
    (n5_10 : (Value.ref E5 == Value.ref E10) = false)
    (s5_11 : PySem.W.subIn K (.ref E5) (.ref E11) = some false)
    (n5_11 : (Value.ref E5 == Value.ref E11) = false)
    (x8_ : K.lookup E8 = some (excClassObj nm8 q8 E8 N8 bs8 [.ref S, .type "ValueError", .type "Exception", .type "BaseException", .type "object"] true sn8 sb8 ab8 col8 dd8 m08 m18 m28 m38 m58 "ValueError.__new__"))
    (sa8 : PySem.W.findIn K (.ref E8) "__setattr__" = some (some (.builtin "object.__setattr__")))
    (ga8 : PySem.W.findIn K (.ref E8) "__getattribute__" = some (some (.builtin "BaseException.__getattribute__")))
    (gg8 : PySem.W.findIn K (.ref E8) "__getattr__" = some none)
    (np8 : PySem.W.findIn K (.ref E8) "number" = some none)
    (npp8 : PySem.W.findIn K (.ref E8) "place" = some none)
    (in8 : PySem.W.findIn K (.ref E8) "__init__" = some (some (.ref fI8)))
    (ti8 : PySem.W.typeIn K (.ref fI8) = some (.type "function"))
    (li8 : K.lookup fI8 = some ⟨ocI8, odI8, .func (PySem.W.fnOf "__init__" "NoNumber.__init__" (defArgs sNumberInit) (defBody sNumberInit) (defScope sNumberInit) .none kVI8 dcI8 pmI8 anI8 cdI8 ctI8), slI8⟩)
    (ci8 : PySem.W.codeIn K cdI8 "NoNumber.__init__" = true)
    (ki8 : PySem.W.keepIn K (.ref fI8) = true)
    (kc8 : PySem.W.keepIn K (.ref E8) = true)
    (ec8 : PySem.W.subIn K (.ref E8) (.type "BaseException") = some true)
    (hc8 : PySem.W.hasDictIn K E8 = true)
    (cc8 : PySem.W.findIn K (.ref E8) "__class__" = some (some (.builtin "object.__class__")))
    (mc8 : PySem.W.mroIn K E8 (.type "object") = some true)
    (vc8 : PySem.W.subIn K (.ref E8) (.type "ValueError") = some true)
    (sc8 : PySem.W.subIn K (.ref E8) (.ref S) = some true)
    (s8_0 : PySem.W.subIn K (.ref E8) (.ref E0) = some false)
    (n8_0 : (Value.ref E8 == Value.ref E0) = false)
    (s8_1 : PySem.W.subIn K (.ref E8) (.ref E1) = some false)
    (n8_1 : (Value.ref E8 == Value.ref E1) = false)
    (s8_2 : PySem.W.subIn K (.ref E8) (.ref E2) = some false)
    (n8_2 : (Value.ref E8 == Value.ref E2) = false)
    (s8_3 : PySem.W.subIn K (.ref E8) (.ref E3) = some false)
    (n8_3 : (Value.ref E8 == Value.ref E3) = false)
    (s8_4 : PySem.W.subIn K (.ref E8) (.ref E4) = some false)
    (n8_4 : (Value.ref E8 == Value.ref E4) = false)
    (s8_5 : PySem.W.subIn K (.ref E8) (.ref E5) = some false)
    (n8_5 : (Value.ref E8 == Value.ref E5) = false)
    (s8_6 : PySem.W.subIn K (.ref E8) (.ref E6) = some false)
    (n8_6 : (Value.ref E8 == Value.ref E6) = false)
    (s8_7 : PySem.W.subIn K (.ref E8) (.ref E7) = some false)
    (n8_7 : (Value.ref E8 == Value.ref E7) = false)
    (s8_9 : PySem.W.subIn K (.ref E8) (.ref E9) = some false)
    (n8_9 : (Value.ref E8 == Value.ref E9) = false)
    (s8_10 : PySem.W.subIn K (.ref E8) (.ref E10) = some false)
    (n8_10 : (Value.ref E8 == Value.ref E10) = false)
    (s8_11 : PySem.W.subIn K (.ref E8) (.ref E11) = some false)
    (n8_11 : (Value.ref E8 == Value.ref E11) = false)
    (aF : PySem.W.nsIn K mainGlobals "first_fault" = some (some (.ref fF)))
    (lF : K.lookup fF = some ⟨ocF, odF, .func (PySem.W.fnOf "first_fault" "first_fault" (defArgs sFirst) (defBody sFirst) (defScope sFirst) .none (.ref DF) dcF pmF anF cdF ctF), slF⟩)
    (cF : PySem.W.codeIn K cdF "first_fault" = true)
    (kF : PySem.W.keepIn K (.ref fF) = true)
    (nF : PySem.W.nsIn K DF "processors" = some (some (.int 1 tF)))
    (aW : PySem.W.nsIn K mainGlobals "ways" = some (some (.ref fW)))
    (lW : K.lookup fW = some ⟨ocW, odW, .func (PySem.W.fnOf "ways" "ways" (defArgs sWays) (defBody sWays) (defScope sWays) .none (.ref DW) dcW pmW anW cdW ctW), slW⟩)
    (cW : PySem.W.codeIn K cdW "ways" = true)
    (kW : PySem.W.keepIn K (.ref fW) = true)
    (nW : PySem.W.nsIn K DW "processors" = some (some (.int 1 tW)))
    (aH : PySem.W.nsIn K mainGlobals "nth_lengths" = some (some (.ref fH)))
    (lH : K.lookup fH = some ⟨ocH, odH, .func (PySem.W.fnOf "nth_lengths" "nth_lengths" (defArgs sNth) (defBody sNth) (defScope sNth) .none (.ref DH) dcH pmH anH cdH ctH), slH⟩)
    (cH : PySem.W.codeIn K cdH "nth_lengths" = true)
    (kH : PySem.W.keepIn K (.ref fH) = true)
    (nH : PySem.W.nsIn K DH "processors" = some (some (.int 1 tH)))
    (aO : PySem.W.nsIn K mainGlobals "lengths_of" = some (some (.ref fO)))
    (lO : K.lookup fO = some ⟨ocO, odO, .func (PySem.W.fnOf "lengths_of" "lengths_of" (defArgs sLengthsOf) (defBody sLengthsOf) (defScope sLengthsOf) .none (.ref DO) dcO pmO anO cdO ctO), slO⟩)
    (cO : PySem.W.codeIn K cdO "lengths_of" = true)
    (kO : PySem.W.keepIn K (.ref fO) = true)
    (nO : PySem.W.nsIn K DO "processors" = some (some (.int 1 tO)))
    (aM : PySem.W.nsIn K mainGlobals "lengths_from_names" = some (some (.ref fM)))
    (lM : K.lookup fM = some ⟨ocM, odM, .func (PySem.W.fnOf "lengths_from_names" "lengths_from_names" (defArgs sFromNames) (defBody sFromNames) (defScope sFromNames) .none (.ref DM) dcM pmM anM cdM ctM), slM⟩)
    (cM : PySem.W.codeIn K cdM "lengths_from_names" = true)
    (kM : PySem.W.keepIn K (.ref fM) = true)
    (nM : PySem.W.nsIn K DM "processors" = some (some (.int 1 tM)))
    (aT : PySem.W.nsIn K mainGlobals "parting" = some (some (.ref fT)))
    (lT : K.lookup fT = some ⟨ocT, odT, .func (PySem.W.fnOf "parting" "parting" (defArgs sParting) (defBody sParting) (defScope sParting) .none (.ref DT) dcT pmT anT cdT ctT), slT⟩)
    (cT : PySem.W.codeIn K cdT "parting" = true)
    (kT : PySem.W.keepIn K (.ref fT) = true)
    (nT : PySem.W.nsIn K DT "processors" = some (some (.int 1 tT)))
    (aML : PySem.W.nsIn K mainGlobals "MOST_LEVELS" = some (some (.int 6 tML)))
    (aN : PySem.W.nsIn K mainGlobals "is_name" = some (some (.ref fN)))
    (lN : K.lookup fN = some ⟨ocN, odN, .func (PySem.W.fnOf "is_name" "is_name" (defArgs sName) (defBody sName) (defScope sName) .none kVN dcN pmN anN (.ref cN) ctN), slN⟩)
    (cNf : PySem.W.codeIn K (.ref cN) "is_name" = true)
    (kNf : PySem.W.keepIn K (.ref fN) = true)
    (hcN : K.lookup cN = some ⟨eN, ddN, .fields vsN, scN⟩)
    (hvN : (vsN[11]? : Option Value) = some (.ref PN))
    (nPN : K.lookup PN = none)
    : LawTab l w K mg fa := by
  have D0 : Df K mg "is_integer" sInteger ["value", "least"] := by
    have F := fun_mk (st := sInteger) l0 c0 k0
    exact ⟨_, _, PySem.W.mg_of X G a0, F, F.binds (ps := ["value", "least"]) fun _ _ _ _ _ _ us hl => match us, hl with | [_, _], _ => rfl⟩
  have D1 : Df K mg "is_tuple_of" sTupleOf ["value", "many"] := by
    have F := fun_mk (st := sTupleOf) l1 c1 k1
    exact ⟨_, _, PySem.W.mg_of X G a1, F, F.binds (ps := ["value", "many"]) fun _ _ _ _ _ _ us hl => match us, hl with | [_, _], _ => rfl⟩
  have D2 : Df K mg "check_jobs" sCheck ["jobs"] := by
    have F := fun_mk (st := sCheck) l2 c2 k2
    exact ⟨_, _, PySem.W.mg_of X G a2, F, F.binds (ps := ["jobs"]) fun _ _ _ _ _ _ us hl => match us, hl with | [_], _ => rfl⟩
  have D3 : Df K mg "check_each_job" sEach ["jobs"] := by
    have F := fun_mk (st := sEach) l3 c3 k3
    exact ⟨_, _, PySem.W.mg_of X G a3, F, F.binds (ps := ["jobs"]) fun _ _ _ _ _ _ us hl => match us, hl with | [_], _ => rfl⟩
  have D4 : Df K mg "is_job" sIsJob ["job"] := by
    have F := fun_mk (st := sIsJob) l4 c4 k4
    exact ⟨_, _, PySem.W.mg_of X G a4, F, F.binds (ps := ["job"]) fun _ _ _ _ _ _ us hl => match us, hl with | [_], _ => rfl⟩
  have D5 : Df K mg "is_arrival" sArrival ["arrival"] := by
    have F := fun_mk (st := sArrival) l5 c5 k5
    exact ⟨_, _, PySem.W.mg_of X G a5, F, F.binds (ps := ["arrival"]) fun _ _ _ _ _ _ us hl => match us, hl with | [_], _ => rfl⟩
  have D6 : Df K mg "waits_forever" sWaits ["job", "jobs"] := by
    have F := fun_mk (st := sWaits) l6 c6 k6
    exact ⟨_, _, PySem.W.mg_of X G a6, F, F.binds (ps := ["job", "jobs"]) fun _ _ _ _ _ _ us hl => match us, hl with | [_, _], _ => rfl⟩
  have D7 : Df K mg "check_rule" sCheckR ["rule"] := by
    have F := fun_mk (st := sCheckR) l7 c7 k7
    exact ⟨_, _, PySem.W.mg_of X G a7, F, F.binds (ps := ["rule"]) fun _ _ _ _ _ _ us hl => match us, hl with | [_], _ => rfl⟩
  have D8 : Df K mg "is_level" sLevel ["level"] := by
    have F := fun_mk (st := sLevel) l8 c8 k8
    exact ⟨_, _, PySem.W.mg_of X G a8, F, F.binds (ps := ["level"]) fun _ _ _ _ _ _ us hl => match us, hl with | [_], _ => rfl⟩
  have D9 : Df K mg "is_count" sIsCnt ["value"] := by
    have F := fun_mk (st := sIsCnt) l9 c9 k9
    exact ⟨_, _, PySem.W.mg_of X G a9, F, F.binds (ps := ["value"]) fun _ _ _ _ _ _ us hl => match us, hl with | [_], _ => rfl⟩
  have D10 : Df K mg "lengths_in" sLenIn ["jobs", "course"] := by
    have F := fun_mk (st := sLenIn) l10 c10 k10
    exact ⟨_, _, PySem.W.mg_of X G a10, F, F.binds (ps := ["jobs", "course"]) fun _ _ _ _ _ _ us hl => match us, hl with | [_, _], _ => rfl⟩
  have D11 : Df K mg "presence" sPresence ["jobs", "log"] := by
    have F := fun_mk (st := sPresence) l11 c11 k11
    exact ⟨_, _, PySem.W.mg_of X G a11, F, F.binds (ps := ["jobs", "log"]) fun _ _ _ _ _ _ us hl => match us, hl with | [_, _], _ => rfl⟩
  have D12 : Df K mg "check_log" sCheckLog ["log"] := by
    have F := fun_mk (st := sCheckLog) l12 c12 k12
    exact ⟨_, _, PySem.W.mg_of X G a12, F, F.binds (ps := ["log"]) fun _ _ _ _ _ _ us hl => match us, hl with | [_], _ => rfl⟩
  have D13 : Df K mg "check_marks" sCheckMarks ["jobs", "marks", "processors"] := by
    have F := fun_mk (st := sCheckMarks) l13 c13 k13
    exact ⟨_, _, PySem.W.mg_of X G a13, F, F.binds (ps := ["jobs", "marks", "processors"]) fun _ _ _ _ _ _ us hl => match us, hl with | [_, _, _], _ => rfl⟩
  have D14 : Df K mg "course_by_names" sByNames ["jobs", "named", "rule", "processors"] := by
    have F := fun_mk (st := sByNames) l14 c14 k14
    exact ⟨_, _, PySem.W.mg_of X G a14, F, F.binds (ps := ["jobs", "named", "rule", "processors"]) fun _ _ _ _ _ _ us hl => match us, hl with | [_, _, _, _], _ => rfl⟩
  have D15 : Df K mg "_law_mix" sMix ["number", "turn"] := by
    have F := fun_mk (st := sMix) l15 c15 k15
    exact ⟨_, _, PySem.W.mg_of X G a15, F, F.binds (ps := ["number", "turn"]) fun _ _ _ _ _ _ us hl => match us, hl with | [_, _], _ => rfl⟩
  have D16 : Df K mg "_law_store" sStore ["script"] := by
    have F := fun_mk (st := sStore) l16 c16 k16
    exact ⟨_, _, PySem.W.mg_of X G a16, F, F.binds (ps := ["script"]) fun _ _ _ _ _ _ us hl => match us, hl with | [_], _ => rfl⟩
  have D17 : Df K mg "_law_pick" sPick ["store", "count"] := by
    have F := fun_mk (st := sPick) l17 c17 k17
    exact ⟨_, _, PySem.W.mg_of X G a17, F, F.binds (ps := ["store", "count"]) fun _ _ _ _ _ _ us hl => match us, hl with | [_, _], _ => rfl⟩
  have D18 : Df K mg "_law_names" sNames ["store", "count"] := by
    have F := fun_mk (st := sNames) l18 c18 k18
    exact ⟨_, _, PySem.W.mg_of X G a18, F, F.binds (ps := ["store", "count"]) fun _ _ _ _ _ _ us hl => match us, hl with | [_, _], _ => rfl⟩
  have D19 : Df K mg "_law_before" sBefore ["arrival", "finishes"] := by
    have F := fun_mk (st := sBefore) l19 c19 k19
    exact ⟨_, _, PySem.W.mg_of X G a19, F, F.binds (ps := ["arrival", "finishes"]) fun _ _ _ _ _ _ us hl => match us, hl with | [_, _], _ => rfl⟩
  have D20 : Df K mg "_law_jobs" sJobs ["store", "most", "late"] := by
    have F := fun_mk (st := sJobs) l20 c20 k20
    exact ⟨_, _, PySem.W.mg_of X G a20, F, F.binds (ps := ["store", "most", "late"]) fun _ _ _ _ _ _ us hl => match us, hl with | [_, _, _], _ => rfl⟩
  have D21 : Df K mg "_law_is_int" sInt ["value", "least"] := by
    have F := fun_mk (st := sInt) l21 c21 k21
    exact ⟨_, _, PySem.W.mg_of X G a21, F, F.binds (ps := ["value", "least"]) fun _ _ _ _ _ _ us hl => match us, hl with | [_, _], _ => rfl⟩
  have D22 : Df K mg "_law_is_job" sIsJobL ["job"] := by
    have F := fun_mk (st := sIsJobL) l22 c22 k22
    exact ⟨_, _, PySem.W.mg_of X G a22, F, F.binds (ps := ["job"]) fun _ _ _ _ _ _ us hl => match us, hl with | [_], _ => rfl⟩
  have D23 : Df K mg "_law_fault" sFault ["jobs"] := by
    have F := fun_mk (st := sFault) l23 c23 k23
    exact ⟨_, _, PySem.W.mg_of X G a23, F, F.binds (ps := ["jobs"]) fun _ _ _ _ _ _ us hl => match us, hl with | [_], _ => rfl⟩
  have D24 : Df K mg "_law_spoilt" sSpoilt ["store", "jobs"] := by
    have F := fun_mk (st := sSpoilt) l24 c24 k24
    exact ⟨_, _, PySem.W.mg_of X G a24, F, F.binds (ps := ["store", "jobs"]) fun _ _ _ _ _ _ us hl => match us, hl with | [_, _], _ => rfl⟩
  have D25 : Df K mg "_law_rule" sRule ["store"] := by
    have F := fun_mk (st := sRule) l25 c25 k25
    exact ⟨_, _, PySem.W.mg_of X G a25, F, F.binds (ps := ["store"]) fun _ _ _ _ _ _ us hl => match us, hl with | [_], _ => rfl⟩
  have D26 : Df K mg "_law_fault_rule" sFaultR ["value"] := by
    have F := fun_mk (st := sFaultR) l26 c26 k26
    exact ⟨_, _, PySem.W.mg_of X G a26, F, F.binds (ps := ["value"]) fun _ _ _ _ _ _ us hl => match us, hl with | [_], _ => rfl⟩
  have D27 : Df K mg "_law_bad_rule" sBadRule ["store", "policy"] := by
    have F := fun_mk (st := sBadRule) l27 c27 k27
    exact ⟨_, _, PySem.W.mg_of X G a27, F, F.binds (ps := ["store", "policy"]) fun _ _ _ _ _ _ us hl => match us, hl with | [_, _], _ => rfl⟩
  have D28 : Df K mg "_law_kind" sKind ["caught"] := by
    have F := fun_mk (st := sKind) l28 c28 k28
    exact ⟨_, _, PySem.W.mg_of X G a28, F, F.binds (ps := ["caught"]) fun _ _ _ _ _ _ us hl => match us, hl with | [_], _ => rfl⟩
  have D29 : Df K mg "_law_present" sPresentL ["jobs", "unit", "finished"] := by
    have F := fun_mk (st := sPresentL) l29 c29 k29
    exact ⟨_, _, PySem.W.mg_of X G a29, F, F.binds (ps := ["jobs", "unit", "finished"]) fun _ _ _ _ _ _ us hl => match us, hl with | [_, _, _], _ => rfl⟩
  have D30 : Df K mg "_law_log" sLog ["store", "jobs", "cores", "wide"] := by
    have F := fun_mk (st := sLog) l30 c30 k30
    exact ⟨_, _, PySem.W.mg_of X G a30, F, F.binds (ps := ["store", "jobs", "cores", "wide"]) fun _ _ _ _ _ _ us hl => match us, hl with | [_, _, _, _], _ => rfl⟩
  have D31 : Df K mg "_law_log_fault" sLogFault ["log"] := by
    have F := fun_mk (st := sLogFault) l31 c31 k31
    exact ⟨_, _, PySem.W.mg_of X G a31, F, F.binds (ps := ["log"]) fun _ _ _ _ _ _ us hl => match us, hl with | [_], _ => rfl⟩
  have D32 : Df K mg "_law_bad_log" sBadLog ["store", "log"] := by
    have F := fun_mk (st := sBadLog) l32 c32 k32
    exact ⟨_, _, PySem.W.mg_of X G a32, F, F.binds (ps := ["store", "log"]) fun _ _ _ _ _ _ us hl => match us, hl with | [_, _], _ => rfl⟩
  have D33 : Df K mg "_law_call" sCall ["way", "jobs", "log", "policy", "second"] := by
    have F := fun_mk (st := sCall) l33 c33 k33
    exact ⟨_, _, PySem.W.mg_of X G a33, F, F.binds (ps := ["way", "jobs", "log", "policy", "second"]) fun _ _ _ _ _ _ us hl => match us, hl with | [_, _, _, _, _], _ => rfl⟩
  have D34 : Df K mg "_law_due" sDue ["way", "jobs", "log", "policies"] := by
    have F := fun_mk (st := sDue) l34 c34 k34
    exact ⟨_, _, PySem.W.mg_of X G a34, F, F.binds (ps := ["way", "jobs", "log", "policies"]) fun _ _ _ _ _ _ us hl => match us, hl with | [_, _, _, _], _ => rfl⟩
  have D35 : Df K mg "_law_right" sRight ["way", "jobs", "log", "policies"] := by
    have F := fun_mk (st := sRight) l35 c35 k35
    exact ⟨_, _, PySem.W.mg_of X G a35, F, F.binds (ps := ["way", "jobs", "log", "policies"]) fun _ _ _ _ _ _ us hl => match us, hl with | [_, _, _, _], _ => rfl⟩
  have D36 : Df K mg "law" sLaw ["script"] := by
    have F := fun_mk (st := sLaw) l36 c36 k36
    exact ⟨_, _, PySem.W.mg_of X G a36, F, F.binds (ps := ["script"]) fun _ _ _ _ _ _ us hl => match us, hl with | [_], _ => rfl⟩
  have oex0 : OexC K E0 := ⟨⟨_, _, _, _, _, _, _, _, _, _, _, _, _, _, _, x0_, rfl⟩, sa0, ec0, tE0, kc0⟩
  have exc0 : ExcC K E0 := ⟨ga0, gg0, ec0, hc0, cc0, spG, tkG, mc0⟩
  have xfc0 : XfC K E0 := ⟨ga0, gg0, ec0, hc0⟩
  have nit0 : Nit K "NoJobs" "NoJobs.__init__" "place" sJobsInit E0 := by
    have F : Fun K "__init__" "NoJobs.__init__" sJobsInit fI0 _ := fun_mk (st := sJobsInit) li0 ci0 ki0
    exact ⟨_, _, in0, ti0, F, F.binds (ps := ["self", "place"]) fun _ _ _ _ _ _ us hl => match us, hl with | [_, _], _ => rfl⟩
  have kn0 : Kn K mg E0 0 := ⟨exc0, xfc0, np0, PySem.W.mg_none_of X G zVE, kit_ve vc0, ⟨S, PySem.W.mg_of X G aS, kit_sub iS tS sc0, PySem.W.exm_ref eS hS tS sc0⟩,
    ⟨_, PySem.W.mg_of X G aE0, by rw [kit_same]; rfl⟩,
    ⟨_, PySem.W.mg_of X G aE1, by rw [kit_ref n0_1 iE1 tE1 s0_1]; rfl⟩,
    ⟨_, PySem.W.mg_of X G aE2, by rw [kit_ref n0_2 iE2 tE2 s0_2]; rfl⟩,
    ⟨_, PySem.W.mg_of X G aE3, by rw [kit_ref n0_3 iE3 tE3 s0_3]; rfl⟩,
    ⟨_, PySem.W.mg_of X G aE4, by rw [kit_ref n0_4 iE4 tE4 s0_4]; rfl⟩,
    ⟨_, PySem.W.mg_of X G aE5, by rw [kit_ref n0_5 iE5 tE5 s0_5]; rfl⟩,
    ⟨_, PySem.W.mg_of X G aE6, by rw [kit_ref n0_6 iE6 tE6 s0_6]; rfl⟩,
    ⟨_, PySem.W.mg_of X G aE7, by rw [kit_ref n0_7 iE7 tE7 s0_7]; rfl⟩,
    ⟨_, PySem.W.mg_of X G aE8, by rw [kit_ref n0_8 iE8 tE8 s0_8]; rfl⟩,
    ⟨_, PySem.W.mg_of X G aE9, by rw [kit_ref n0_9 iE9 tE9 s0_9]; rfl⟩,
    ⟨_, PySem.W.mg_of X G aE10, by rw [kit_ref n0_10 iE10 tE10 s0_10]; rfl⟩,
    ⟨_, PySem.W.mg_of X G aE11, by rw [kit_ref n0_11 iE11 tE11 s0_11]; rfl⟩⟩
  have oex1 : OexC K E1 := ⟨⟨_, _, _, _, _, _, _, _, _, _, _, _, _, _, _, x1_, rfl⟩, sa1, ec1, tE1, kc1⟩
  have exc1 : ExcC K E1 := ⟨ga1, gg1, ec1, hc1, cc1, spG, tkG, mc1⟩
  have xfc1 : XfC K E1 := ⟨ga1, gg1, ec1, hc1⟩
  have nit1 : Nit K "NoRule" "NoRule.__init__" "place" sRuleInit E1 := by
    have F : Fun K "__init__" "NoRule.__init__" sRuleInit fI1 _ := fun_mk (st := sRuleInit) li1 ci1 ki1
    exact ⟨_, _, in1, ti1, F, F.binds (ps := ["self", "place"]) fun _ _ _ _ _ _ us hl => match us, hl with | [_, _], _ => rfl⟩
  have kn1 : Kn K mg E1 1 := ⟨exc1, xfc1, np1, PySem.W.mg_none_of X G zVE, kit_ve vc1, ⟨S, PySem.W.mg_of X G aS, kit_sub iS tS sc1, PySem.W.exm_ref eS hS tS sc1⟩,
    ⟨_, PySem.W.mg_of X G aE0, by rw [kit_ref n1_0 iE0 tE0 s1_0]; rfl⟩,
    ⟨_, PySem.W.mg_of X G aE1, by rw [kit_same]; rfl⟩,
    ⟨_, PySem.W.mg_of X G aE2, by rw [kit_ref n1_2 iE2 tE2 s1_2]; rfl⟩,
    ⟨_, PySem.W.mg_of X G aE3, by rw [kit_ref n1_3 iE3 tE3 s1_3]; rfl⟩,
    ⟨_, PySem.W.mg_of X G aE4, by rw [kit_ref n1_4 iE4 tE4 s1_4]; rfl⟩,
    ⟨_, PySem.W.mg_of X G aE5, by rw [kit_ref n1_5 iE5 tE5 s1_5]; rfl⟩,
    ⟨_, PySem.W.mg_of X G aE6, by rw [kit_ref n1_6 iE6 tE6 s1_6]; rfl⟩,
    ⟨_, PySem.W.mg_of X G aE7, by rw [kit_ref n1_7 iE7 tE7 s1_7]; rfl⟩,
    ⟨_, PySem.W.mg_of X G aE8, by rw [kit_ref n1_8 iE8 tE8 s1_8]; rfl⟩,
    ⟨_, PySem.W.mg_of X G aE9, by rw [kit_ref n1_9 iE9 tE9 s1_9]; rfl⟩,
    ⟨_, PySem.W.mg_of X G aE10, by rw [kit_ref n1_10 iE10 tE10 s1_10]; rfl⟩,
    ⟨_, PySem.W.mg_of X G aE11, by rw [kit_ref n1_11 iE11 tE11 s1_11]; rfl⟩⟩
  have oex3 : OexC K E3 := ⟨⟨_, _, _, _, _, _, _, _, _, _, _, _, _, _, _, x3_, rfl⟩, sa3, ec3, tE3, kc3⟩
  have exc3 : ExcC K E3 := ⟨ga3, gg3, ec3, hc3, cc3, spG, tkG, mc3⟩
  have xfc3 : XfC K E3 := ⟨ga3, gg3, ec3, hc3⟩
  have nit3 : Nit K "NoLog" "NoLog.__init__" "place" sLogInit E3 := by
    have F : Fun K "__init__" "NoLog.__init__" sLogInit fI3 _ := fun_mk (st := sLogInit) li3 ci3 ki3
    exact ⟨_, _, in3, ti3, F, F.binds (ps := ["self", "place"]) fun _ _ _ _ _ _ us hl => match us, hl with | [_, _], _ => rfl⟩
  have kn3 : Kn K mg E3 3 := ⟨exc3, xfc3, np3, PySem.W.mg_none_of X G zVE, kit_ve vc3, ⟨S, PySem.W.mg_of X G aS, kit_sub iS tS sc3, PySem.W.exm_ref eS hS tS sc3⟩,
    ⟨_, PySem.W.mg_of X G aE0, by rw [kit_ref n3_0 iE0 tE0 s3_0]; rfl⟩,
    ⟨_, PySem.W.mg_of X G aE1, by rw [kit_ref n3_1 iE1 tE1 s3_1]; rfl⟩,
    ⟨_, PySem.W.mg_of X G aE2, by rw [kit_ref n3_2 iE2 tE2 s3_2]; rfl⟩,
    ⟨_, PySem.W.mg_of X G aE3, by rw [kit_same]; rfl⟩,
    ⟨_, PySem.W.mg_of X G aE4, by rw [kit_ref n3_4 iE4 tE4 s3_4]; rfl⟩,
    ⟨_, PySem.W.mg_of X G aE5, by rw [kit_ref n3_5 iE5 tE5 s3_5]; rfl⟩,
    ⟨_, PySem.W.mg_of X G aE6, by rw [kit_ref n3_6 iE6 tE6 s3_6]; rfl⟩,
    ⟨_, PySem.W.mg_of X G aE7, by rw [kit_ref n3_7 iE7 tE7 s3_7]; rfl⟩,
    ⟨_, PySem.W.mg_of X G aE8, by rw [kit_ref n3_8 iE8 tE8 s3_8]; rfl⟩,
    ⟨_, PySem.W.mg_of X G aE9, by rw [kit_ref n3_9 iE9 tE9 s3_9]; rfl⟩,
    ⟨_, PySem.W.mg_of X G aE10, by rw [kit_ref n3_10 iE10 tE10 s3_10]; rfl⟩,
    ⟨_, PySem.W.mg_of X G aE11, by rw [kit_ref n3_11 iE11 tE11 s3_11]; rfl⟩⟩
  have oex4 : OexC K E4 := ⟨⟨_, _, _, _, _, _, _, _, _, _, _, _, _, _, _, x4_, rfl⟩, sa4, ec4, tE4, kc4⟩
  have exc4 : ExcC K E4 := ⟨ga4, gg4, ec4, hc4, cc4, spG, tkG, mc4⟩
  have xfc4 : XfC K E4 := ⟨ga4, gg4, ec4, hc4⟩
  have nit4 : Nit K "NoMarks" "NoMarks.__init__" "place" sMarksInit E4 := by
    have F : Fun K "__init__" "NoMarks.__init__" sMarksInit fI4 _ := fun_mk (st := sMarksInit) li4 ci4 ki4
    exact ⟨_, _, in4, ti4, F, F.binds (ps := ["self", "place"]) fun _ _ _ _ _ _ us hl => match us, hl with | [_, _], _ => rfl⟩
  have kn4 : Kn K mg E4 4 := ⟨exc4, xfc4, np4, PySem.W.mg_none_of X G zVE, kit_ve vc4, ⟨S, PySem.W.mg_of X G aS, kit_sub iS tS sc4, PySem.W.exm_ref eS hS tS sc4⟩,
    ⟨_, PySem.W.mg_of X G aE0, by rw [kit_ref n4_0 iE0 tE0 s4_0]; rfl⟩,
    ⟨_, PySem.W.mg_of X G aE1, by rw [kit_ref n4_1 iE1 tE1 s4_1]; rfl⟩,
    ⟨_, PySem.W.mg_of X G aE2, by rw [kit_ref n4_2 iE2 tE2 s4_2]; rfl⟩,
    ⟨_, PySem.W.mg_of X G aE3, by rw [kit_ref n4_3 iE3 tE3 s4_3]; rfl⟩,
    ⟨_, PySem.W.mg_of X G aE4, by rw [kit_same]; rfl⟩,
    ⟨_, PySem.W.mg_of X G aE5, by rw [kit_ref n4_5 iE5 tE5 s4_5]; rfl⟩,
    ⟨_, PySem.W.mg_of X G aE6, by rw [kit_ref n4_6 iE6 tE6 s4_6]; rfl⟩,
    ⟨_, PySem.W.mg_of X G aE7, by rw [kit_ref n4_7 iE7 tE7 s4_7]; rfl⟩,
    ⟨_, PySem.W.mg_of X G aE8, by rw [kit_ref n4_8 iE8 tE8 s4_8]; rfl⟩,
    ⟨_, PySem.W.mg_of X G aE9, by rw [kit_ref n4_9 iE9 tE9 s4_9]; rfl⟩,
    ⟨_, PySem.W.mg_of X G aE10, by rw [kit_ref n4_10 iE10 tE10 s4_10]; rfl⟩,
    ⟨_, PySem.W.mg_of X G aE11, by rw [kit_ref n4_11 iE11 tE11 s4_11]; rfl⟩⟩
  have oex5 : OexC K E5 := ⟨⟨_, _, _, _, _, _, _, _, _, _, _, _, _, _, _, x5_, rfl⟩, sa5, ec5, tE5, kc5⟩
  have exc5 : ExcC K E5 := ⟨ga5, gg5, ec5, hc5, cc5, spG, tkG, mc5⟩
  have xfc5 : XfC K E5 := ⟨ga5, gg5, ec5, hc5⟩
  have nit5 : Nit K "NoNamed" "NoNamed.__init__" "place" sNamedInit E5 := by
    have F : Fun K "__init__" "NoNamed.__init__" sNamedInit fI5 _ := fun_mk (st := sNamedInit) li5 ci5 ki5
    exact ⟨_, _, in5, ti5, F, F.binds (ps := ["self", "place"]) fun _ _ _ _ _ _ us hl => match us, hl with | [_, _], _ => rfl⟩
  have kn5 : Kn K mg E5 5 := ⟨exc5, xfc5, np5, PySem.W.mg_none_of X G zVE, kit_ve vc5, ⟨S, PySem.W.mg_of X G aS, kit_sub iS tS sc5, PySem.W.exm_ref eS hS tS sc5⟩,
    ⟨_, PySem.W.mg_of X G aE0, by rw [kit_ref n5_0 iE0 tE0 s5_0]; rfl⟩,
    ⟨_, PySem.W.mg_of X G aE1, by rw [kit_ref n5_1 iE1 tE1 s5_1]; rfl⟩,
    ⟨_, PySem.W.mg_of X G aE2, by rw [kit_ref n5_2 iE2 tE2 s5_2]; rfl⟩,
    ⟨_, PySem.W.mg_of X G aE3, by rw [kit_ref n5_3 iE3 tE3 s5_3]; rfl⟩,
    ⟨_, PySem.W.mg_of X G aE4, by rw [kit_ref n5_4 iE4 tE4 s5_4]; rfl⟩,
    ⟨_, PySem.W.mg_of X G aE5, by rw [kit_same]; rfl⟩,
    ⟨_, PySem.W.mg_of X G aE6, by rw [kit_ref n5_6 iE6 tE6 s5_6]; rfl⟩,
    ⟨_, PySem.W.mg_of X G aE7, by rw [kit_ref n5_7 iE7 tE7 s5_7]; rfl⟩,
    ⟨_, PySem.W.mg_of X G aE8, by rw [kit_ref n5_8 iE8 tE8 s5_8]; rfl⟩,
    ⟨_, PySem.W.mg_of X G aE9, by rw [kit_ref n5_9 iE9 tE9 s5_9]; rfl⟩,
    ⟨_, PySem.W.mg_of X G aE10, by rw [kit_ref n5_10 iE10 tE10 s5_10]; rfl⟩,
    ⟨_, PySem.W.mg_of X G aE11, by rw [kit_ref n5_11 iE11 tE11 s5_11]; rfl⟩⟩
  have oex8 : OexC K E8 := ⟨⟨_, _, _, _, _, _, _, _, _, _, _, _, _, _, _, x8_, rfl⟩, sa8, ec8, tE8, kc8⟩
  have exc8 : ExcC K E8 := ⟨ga8, gg8, ec8, hc8, cc8, spG, tkG, mc8⟩
  have xfc8 : XfC K E8 := ⟨ga8, gg8, ec8, hc8⟩
  have nit8 : Nit K "NoNumber" "NoNumber.__init__" "number" sNumberInit E8 := by
    have F : Fun K "__init__" "NoNumber.__init__" sNumberInit fI8 _ := fun_mk (st := sNumberInit) li8 ci8 ki8
    exact ⟨_, _, in8, ti8, F, F.binds (ps := ["self", "number"]) fun _ _ _ _ _ _ us hl => match us, hl with | [_, _], _ => rfl⟩
  have kn8 : Kn K mg E8 8 := ⟨exc8, xfc8, npp8, PySem.W.mg_none_of X G zVE, kit_ve vc8, ⟨S, PySem.W.mg_of X G aS, kit_sub iS tS sc8, PySem.W.exm_ref eS hS tS sc8⟩,
    ⟨_, PySem.W.mg_of X G aE0, by rw [kit_ref n8_0 iE0 tE0 s8_0]; rfl⟩,
    ⟨_, PySem.W.mg_of X G aE1, by rw [kit_ref n8_1 iE1 tE1 s8_1]; rfl⟩,
    ⟨_, PySem.W.mg_of X G aE2, by rw [kit_ref n8_2 iE2 tE2 s8_2]; rfl⟩,
    ⟨_, PySem.W.mg_of X G aE3, by rw [kit_ref n8_3 iE3 tE3 s8_3]; rfl⟩,
    ⟨_, PySem.W.mg_of X G aE4, by rw [kit_ref n8_4 iE4 tE4 s8_4]; rfl⟩,
    ⟨_, PySem.W.mg_of X G aE5, by rw [kit_ref n8_5 iE5 tE5 s8_5]; rfl⟩,
    ⟨_, PySem.W.mg_of X G aE6, by rw [kit_ref n8_6 iE6 tE6 s8_6]; rfl⟩,
    ⟨_, PySem.W.mg_of X G aE7, by rw [kit_ref n8_7 iE7 tE7 s8_7]; rfl⟩,
    ⟨_, PySem.W.mg_of X G aE8, by rw [kit_same]; rfl⟩,
    ⟨_, PySem.W.mg_of X G aE9, by rw [kit_ref n8_9 iE9 tE9 s8_9]; rfl⟩,
    ⟨_, PySem.W.mg_of X G aE10, by rw [kit_ref n8_10 iE10 tE10 s8_10]; rfl⟩,
    ⟨_, PySem.W.mg_of X G aE11, by rw [kit_ref n8_11 iE11 tE11 s8_11]; rfl⟩⟩
  have DKF : DfK K mg "first_fault" sFirst ["jobs", "log"] "processors" (.int 1) := dfk_mk (PySem.W.mg_of X G aF) lF cF kF nF (show RelV (.int 1) (.int 1 tF) from ⟨tF, rfl⟩) (fun _ _ _ _ _ _ _ _ => rfl) (fun _ _ _ _ _ _ _ _ => ⟨_, _, _, _, _, _, rfl, rfl, rfl⟩)
  have DKW : DfK K mg "ways" sWays ["jobs", "log"] "processors" (.int 1) := dfk_mk (PySem.W.mg_of X G aW) lW cW kW nW (show RelV (.int 1) (.int 1 tW) from ⟨tW, rfl⟩) (fun _ _ _ _ _ _ _ _ => rfl) (fun _ _ _ _ _ _ _ _ => ⟨_, _, _, _, _, _, rfl, rfl, rfl⟩)
  have DMH : DfM K mg "nth_lengths" sNth ["jobs", "log", "number", "rule", "processors"] 3 ["rule"] (fun vs zs => vs ++ zs ++ [.int 1]) := dfm_mk (PySem.W.mg_of X G aH) lH cH kH nH fun _ _ _ _ _ us ws z h1 h2 => match us, ws, h1, h2 with | [_, _, _], [_], _, _ => ⟨_, _, _, _, _, _, rfl, rfl, rfl⟩
  have DMO : DfM K mg "lengths_of" sLengthsOf ["jobs", "marks", "rule", "processors"] 2 ["rule"] (fun vs zs => vs ++ zs ++ [.int 1]) := dfm_mk (PySem.W.mg_of X G aO) lO cO kO nO fun _ _ _ _ _ us ws z h1 h2 => match us, ws, h1, h2 with | [_, _], [_], _, _ => ⟨_, _, _, _, _, _, rfl, rfl, rfl⟩
  have DMM : DfM K mg "lengths_from_names" sFromNames ["jobs", "named", "rule", "processors"] 2 ["rule", "processors"] (fun vs zs => vs ++ zs) := dfm_all (PySem.W.mg_of X G aM) lM cM kM fun _ _ _ _ _ us ws h1 h2 => match us, ws, h1, h2 with | [_, _], [_, _], _, _ => rfl
  have DMT : DfM K mg "parting" sParting ["jobs", "marks", "rule", "other", "processors"] 2 ["rule", "other"] (fun vs zs => vs ++ zs ++ [.int 1]) := dfm_mk (PySem.W.mg_of X G aT) lT cT kT nT fun _ _ _ _ _ us ws z h1 h2 => match us, ws, h1, h2 with | [_, _], [_, _], _, _ => ⟨_, _, _, _, _, _, rfl, rfl, rfl⟩
  have DN : DfC K mg "is_name" sName ["value"] cN := by
    have F : Fun K "is_name" "is_name" sName fN _ := fun_mk (st := sName) lN cNf kNf
    exact ⟨fN, ocN, odN, kVN, dcN, pmN, anN, ctN, slN, PySem.W.mg_of X G aN, lN, cNf, kNf, F.binds (ps := ["value"]) fun _ _ _ _ _ _ us hl => match us, hl with | [_], _ => rfl⟩
  have tN : PySem.W.tabIn K "is_name" = some (cN, PN) := by
    unfold PySem.W.tabIn
    rw [aN]
    dsimp only
    rw [lN]
    dsimp only [PySem.W.fnOf]
    rw [hcN]
    dsimp only
    rw [hvN]
  have B : Blt mg := ⟨PySem.W.mg_none_of X G z_len, PySem.W.mg_none_of X G z_isinstance, PySem.W.mg_none_of X G z_int, PySem.W.mg_none_of X G z_bool, PySem.W.mg_none_of X G z_tuple, PySem.W.mg_none_of X G z_str, PySem.W.mg_none_of X G z_range, PySem.W.mg_none_of X G z_enumerate, PySem.W.mg_none_of X G z_list⟩
  have F := fun_mk (st := sLaw) l36 c36 k36
  have e := hfa.symm.trans (PySem.W.mg_of X G a36)
  cases e
  refine ⟨PySem.W.fnOf "law" "law" (defArgs sLaw) (defBody sLaw) (defScope sLaw) .none kV36 dc36 pm36 an36 cd36 ct36, cN, PN, tN, nPN, fun s v => .of_eq rfl, fun base _ _ TB => ?_⟩
  have cI := ok_integer (P := l.prog) (w := w) (base := base) D0 B
  have cT := ok_tupleOf (P := l.prog) (w := w) (base := base) D1 B
  have cA := ok_arrival (P := l.prog) (w := w) (base := base) D5 cT cI
  have cN' := ok_name (P := l.prog) (w := w) (base := base) DN TB B (PySem.W.mg_none_of X G z_all)
  have cJ := ok_isJob (P := l.prog) (w := w) (base := base) D4 cT cI cN' cA
  have cW := ok_waits (P := l.prog) (w := w) (base := base) D6 B
  have er := erc_jobs (P := l.prog) (w := w) (base := base) (PySem.W.mg_of X G aE0) oex0 np0 nit0
  have cE := ok_each (P := l.prog) (w := w) (base := base) D3 B er cJ
  have cK := ok_check (P := l.prog) (w := w) (base := base) D2 B er cE cW
  have erL := erc_log (P := l.prog) (w := w) (base := base) (PySem.W.mg_of X G aE3) oex3 np3 nit3
  have cCL := ok_checkLog (P := l.prog) (w := w) (base := base) D12 B erL cT cI
  have cCn := ok_isCnt (P := l.prog) (w := w) (base := base) D9 cI
  have cLv := ok_level (P := l.prog) (w := w) (base := base) D8 cT cCn
  have erR := erc_rule (P := l.prog) (w := w) (base := base) (PySem.W.mg_of X G aE1) oex1 np1 nit1
  have ml : ∃ u, mg "MOST_LEVELS" = some u ∧ RelV (.int 6) u := ⟨_, PySem.W.mg_of X G aML, ⟨tML, rfl⟩⟩
  have cCR := ok_checkR (P := l.prog) (w := w) (base := base) D7 B ml erR cT cLv cCn
  have erM := erc_marks (P := l.prog) (w := w) (base := base) (PySem.W.mg_of X G aE4) oex4 np4 nit4
  have erN := erc_named (P := l.prog) (w := w) (base := base) (PySem.W.mg_of X G aE5) oex5 np5 nit5
  have erU := erc_number (P := l.prog) (w := w) (base := base) (PySem.W.mg_of X G aE8) oex8 np8 nit8
  have NN : ∀ i, OkI i → Kn K mg (clsOf E0 E1 E3 E4 E5 E8 i) i := by
    rintro i (rfl | rfl | rfl | rfl | rfl | rfl)
    · exact kn0
    · exact kn1
    · exact kn3
    · exact kn4
    · exact kn5
    · exact kn8
  have q0 := ok_pr (P := l.prog) (w := w) (base := base) (cl := clsOf E0 E1 E3 E4 E5 E8) D11 cK cCL
  have q1 := ok_ff (P := l.prog) (w := w) (base := base) (cl := clsOf E0 E1 E3 E4 E5 E8) DKF cK cCL
  have q2 := ok_ways (P := l.prog) (w := w) (base := base) (cl := clsOf E0 E1 E3 E4 E5 E8) DKW q1
  have qM := ok_cm (P := l.prog) (w := w) (base := base) (cl := clsOf E0 E1 E3 E4 E5 E8) D13 B erM
  have qN := ok_bn (P := l.prog) (w := w) (base := base) (cl := clsOf E0 E1 E3 E4 E5 E8) D14 B erN
  have q3 := ok_nth (P := l.prog) (w := w) (base := base) (cl := clsOf E0 E1 E3 E4 E5 E8) DMH cK cCL cCR erU cI
  have q4 := ok_lo (P := l.prog) (w := w) (base := base) (cl := clsOf E0 E1 E3 E4 E5 E8) DMO cK cCR qM
  have qI := cl_dead (CX := CX0) (k := 1) (P := l.prog) (w := w) (base := base) D10
  have q5 := ok_ln (P := l.prog) (w := w) (base := base) (cl := clsOf E0 E1 E3 E4 E5 E8) DMM cK cCR qN qI
  have q6 := ok_pt (P := l.prog) (w := w) (base := base) (cl := clsOf E0 E1 E3 E4 E5 E8) DMT cK cCR qM
  have zmin := PySem.W.mg_none_of X G z_min
  have cM := ok_mix (P := l.prog) (w := w) (base := base) D15
  have cS := ok_store (P := l.prog) (w := w) (base := base) D16 B.len
  have cP := ok_pick (P := l.prog) (w := w) (base := base) D17 cM B.len
  have cNm := ok_names (P := l.prog) (w := w) (base := base) D18 B cP
  have cB := ok_before (P := l.prog) (w := w) (base := base) D19
  have cG := ok_jobs (P := l.prog) (w := w) (base := base) D20 B cP cNm cB
  have cL := ok_int (P := l.prog) (w := w) (base := base) D21 B
  have cJL := ok_isJobL (P := l.prog) (w := w) (base := base) D22 B cL
  have cFa := ok_fault (P := l.prog) (w := w) (base := base) D23 B cJL cB
  have cSp := ok_spoilt (P := l.prog) (w := w) (base := base) D24 B cP
  have cRu := ok_rule (P := l.prog) (w := w) (base := base) D25 B cP
  have cFR := ok_faultR (P := l.prog) (w := w) (base := base) D26 B cL
  have cBR := ok_badRule (P := l.prog) (w := w) (base := base) D27 B cP
  have cKi := ok_kindA (P := l.prog) (w := w) (base := base) (cl := clsOf E0 E1 E3 E4 E5 E8) D28 B NN np8
  have cPL := ok_presL (P := l.prog) (w := w) (base := base) D29 B
  have cLg := ok_log (P := l.prog) (w := w) (base := base) D30 B zmin cP cPL
  have cLF := ok_logFault (P := l.prog) (w := w) (base := base) D31 B cL
  have cBL := ok_badLog (P := l.prog) (w := w) (base := base) D32 B cP
  have cCa := ok_call (P := l.prog) (w := w) (base := base) (cl := clsOf E0 E1 E3 E4 E5 E8) D33 q0 q1 q2 q3 q4 q5 q6
  have cDu := ok_due (P := l.prog) (w := w) (base := base) D34 B cFa cFR cLF
  have cR := ok_right (P := l.prog) (w := w) (base := base) D35 B NN cDu cCa cKi
  exact ok_law F B cS cP cG cLg cRu cSp cBL cBR cR
end Vk
set_option maxHeartbeats 0
namespace Vk
open PySem PySem.Spec PyProof.Rows L2
def nmV0 : List PySem.Str := ["_wall", "Board", "SlotError", "NoJobs", "NoRule", "NoLengths", "NoLog", "NoMarks", "NoNamed", "NoOrder", "NoText", "NoNumber", "NoName", "NoUndo", "NoLine", "is_integer", "is_tuple_of", "check_jobs", "count_arrived", "has_arrived", "check_each_job", "is_job", "is_arrival", "waits_forever", "FIRST_COME", "MOST_LEVELS", "check_rule", "is_level", "is_count", "joined"]
def nmV1 : List PySem.Str := ["first_difference", "Course", "course_by_marks", "lengths_in", "presence", "first_fault", "ways", "choices", "check_log", "check_present", "present_by", "count_present", "count_running", "lengths_of", "nth_lengths", "parting", "marks_to_lengths", "all_places", "check_marks", "is_mark", "are_ascending", "lengths_from_names", "course_by_names", "is_named", "are_different_strings", "are_left", "are_among", "_law_mix", "_law_store", "_law_pick"]
def nmV2 : List PySem.Str := ["_law_names", "_law_before", "_law_jobs", "_law_is_int", "_law_is_job", "_law_fault", "_law_spoilt", "_law_rule", "_law_fault_rule", "_law_bad_rule", "_law_kind", "_law_present", "_law_log", "_law_log_fault", "_law_bad_log", "_law_call", "_law_due", "_law_right"]
def nmV : List PySem.Str := nmV0 ++ nmV1 ++ nmV2
def fsV0 : List (PySem.W.Frag → Bool) := [bD "is_integer",
  bD "is_tuple_of",
  bD "check_jobs",
  bD "check_each_job",
  bD "is_job",
  bD "is_arrival",
  bD "waits_forever",
  bD "check_rule",
  bD "is_level",
  bD "is_count",
  bD "lengths_in",
  bD "presence",
  bD "check_log",
  bD "check_marks",
  bD "course_by_names",
  bD "_law_mix",
  bD "_law_store",
  bD "_law_pick",
  bD "_law_names",
  bD "_law_before",
  bD "_law_jobs",
  bD "_law_is_int",
  bD "_law_is_job",
  bD "_law_fault",
  bD "_law_spoilt",
  bD "_law_rule",
  bD "_law_fault_rule",
  bD "_law_bad_rule",
  bD "_law_kind",
  bD "_law_present"]
def fsV1 : List (PySem.W.Frag → Bool) := [bD "_law_log",
  bD "_law_log_fault",
  bD "_law_bad_log",
  bD "_law_call",
  bD "_law_due",
  bD "_law_right",
  bD "law",
  fun K => decide ((PySem.W.nsIn K mainGlobals "len" = some none) ∧ (PySem.W.nsIn K mainGlobals "isinstance" = some none) ∧ (PySem.W.nsIn K mainGlobals "int" = some none) ∧ (PySem.W.nsIn K mainGlobals "bool" = some none) ∧ (PySem.W.nsIn K mainGlobals "tuple" = some none) ∧ (PySem.W.nsIn K mainGlobals "str" = some none) ∧ (PySem.W.nsIn K mainGlobals "range" = some none) ∧ (PySem.W.nsIn K mainGlobals "enumerate" = some none) ∧ (PySem.W.nsIn K mainGlobals "list" = some none) ∧ (PySem.W.nsIn K mainGlobals "all" = some none) ∧ (PySem.W.nsIn K mainGlobals "min" = some none) ∧ (PySem.W.nsIn K mainGlobals "SlotError" = some (some (.ref (He.ga K "SlotError")))) ∧ (PySem.W.isClsIn K (He.ga K "SlotError") = true) ∧ (PySem.W.hasDictIn K (He.ga K "SlotError") = true) ∧ (PySem.W.typeIn K (.ref (He.ga K "SlotError")) = some (.type "type")) ∧ (PySem.W.subIn K (.ref (He.ga K "SlotError")) (.type "BaseException") = some true) ∧ (PySem.W.specialIn K (.builtin "object.__class__") "__get__" = some (some (.builtin "getset_descriptor.__get__"))) ∧ (PySem.W.takesIn K (.builtin "object.__class__") = some true) ∧ (PySem.W.nsIn K mainGlobals "ValueError" = some none) ∧ (PySem.W.nsIn K mainGlobals "NoJobs" = some (some (.ref (He.ga K "NoJobs"))))),
  fun K => decide ((PySem.W.isClsIn K (He.ga K "NoJobs") = true) ∧ (PySem.W.typeIn K (.ref (He.ga K "NoJobs")) = some (.type "type")) ∧ (PySem.W.nsIn K mainGlobals "NoRule" = some (some (.ref (He.ga K "NoRule")))) ∧ (PySem.W.isClsIn K (He.ga K "NoRule") = true) ∧ (PySem.W.typeIn K (.ref (He.ga K "NoRule")) = some (.type "type")) ∧ (PySem.W.nsIn K mainGlobals "NoLengths" = some (some (.ref (He.ga K "NoLengths")))) ∧ (PySem.W.isClsIn K (He.ga K "NoLengths") = true) ∧ (PySem.W.typeIn K (.ref (He.ga K "NoLengths")) = some (.type "type")) ∧ (PySem.W.nsIn K mainGlobals "NoLog" = some (some (.ref (He.ga K "NoLog")))) ∧ (PySem.W.isClsIn K (He.ga K "NoLog") = true) ∧ (PySem.W.typeIn K (.ref (He.ga K "NoLog")) = some (.type "type")) ∧ (PySem.W.nsIn K mainGlobals "NoMarks" = some (some (.ref (He.ga K "NoMarks")))) ∧ (PySem.W.isClsIn K (He.ga K "NoMarks") = true) ∧ (PySem.W.typeIn K (.ref (He.ga K "NoMarks")) = some (.type "type")) ∧ (PySem.W.nsIn K mainGlobals "NoNamed" = some (some (.ref (He.ga K "NoNamed")))) ∧ (PySem.W.isClsIn K (He.ga K "NoNamed") = true) ∧ (PySem.W.typeIn K (.ref (He.ga K "NoNamed")) = some (.type "type")) ∧ (PySem.W.nsIn K mainGlobals "NoOrder" = some (some (.ref (He.ga K "NoOrder")))) ∧ (PySem.W.isClsIn K (He.ga K "NoOrder") = true) ∧ (PySem.W.typeIn K (.ref (He.ga K "NoOrder")) = some (.type "type"))),
  fun K => bX (He.ga K "SlotError") (He.ga K "NoJobs") K,
  fun K => decide ((PySem.W.nsIn K mainGlobals "NoText" = some (some (.ref (He.ga K "NoText")))) ∧ (PySem.W.isClsIn K (He.ga K "NoText") = true) ∧ (PySem.W.typeIn K (.ref (He.ga K "NoText")) = some (.type "type")) ∧ (PySem.W.nsIn K mainGlobals "NoNumber" = some (some (.ref (He.ga K "NoNumber")))) ∧ (PySem.W.isClsIn K (He.ga K "NoNumber") = true) ∧ (PySem.W.typeIn K (.ref (He.ga K "NoNumber")) = some (.type "type")) ∧ (PySem.W.nsIn K mainGlobals "NoName" = some (some (.ref (He.ga K "NoName")))) ∧ (PySem.W.isClsIn K (He.ga K "NoName") = true) ∧ (PySem.W.typeIn K (.ref (He.ga K "NoName")) = some (.type "type")) ∧ (PySem.W.nsIn K mainGlobals "NoUndo" = some (some (.ref (He.ga K "NoUndo")))) ∧ (PySem.W.isClsIn K (He.ga K "NoUndo") = true) ∧ (PySem.W.typeIn K (.ref (He.ga K "NoUndo")) = some (.type "type")) ∧ (PySem.W.nsIn K mainGlobals "NoLine" = some (some (.ref (He.ga K "NoLine")))) ∧ (PySem.W.isClsIn K (He.ga K "NoLine") = true) ∧ (PySem.W.typeIn K (.ref (He.ga K "NoLine")) = some (.type "type")) ∧ (PySem.W.findIn K (.ref (He.ga K "NoJobs")) "__setattr__" = some (some (.builtin "object.__setattr__"))) ∧ (PySem.W.findIn K (.ref (He.ga K "NoJobs")) "__getattribute__" = some (some (.builtin "BaseException.__getattribute__"))) ∧ (PySem.W.findIn K (.ref (He.ga K "NoJobs")) "__getattr__" = some none) ∧ (PySem.W.findIn K (.ref (He.ga K "NoJobs")) "place" = some none) ∧ (PySem.W.findIn K (.ref (He.ga K "NoJobs")) "__init__" = some (some (.ref (He.ma K (He.ga K "NoJobs") "__init__"))))),
  fun K => (He.Fa.code ("NoJobs", some "__init__") "NoJobs.__init__").ok K,
  fun K => decide ((PySem.W.typeIn K (.ref (He.ma K (He.ga K "NoJobs") "__init__")) = some (.type "function")) ∧ (PySem.W.keepIn K (.ref (He.ma K (He.ga K "NoJobs") "__init__")) = true) ∧ (PySem.W.keepIn K (.ref (He.ga K "NoJobs")) = true) ∧ (PySem.W.subIn K (.ref (He.ga K "NoJobs")) (.type "BaseException") = some true) ∧ (PySem.W.hasDictIn K (He.ga K "NoJobs") = true) ∧ (PySem.W.findIn K (.ref (He.ga K "NoJobs")) "__class__" = some (some (.builtin "object.__class__"))) ∧ (PySem.W.mroIn K (He.ga K "NoJobs") (.type "object") = some true) ∧ (PySem.W.subIn K (.ref (He.ga K "NoJobs")) (.type "ValueError") = some true) ∧ (PySem.W.subIn K (.ref (He.ga K "NoJobs")) (.ref (He.ga K "SlotError")) = some true) ∧ (PySem.W.subIn K (.ref (He.ga K "NoJobs")) (.ref (He.ga K "NoRule")) = some false) ∧ ((Value.ref (He.ga K "NoJobs") == Value.ref (He.ga K "NoRule")) = false) ∧ (PySem.W.subIn K (.ref (He.ga K "NoJobs")) (.ref (He.ga K "NoLengths")) = some false) ∧ ((Value.ref (He.ga K "NoJobs") == Value.ref (He.ga K "NoLengths")) = false) ∧ (PySem.W.subIn K (.ref (He.ga K "NoJobs")) (.ref (He.ga K "NoLog")) = some false) ∧ ((Value.ref (He.ga K "NoJobs") == Value.ref (He.ga K "NoLog")) = false) ∧ (PySem.W.subIn K (.ref (He.ga K "NoJobs")) (.ref (He.ga K "NoMarks")) = some false) ∧ ((Value.ref (He.ga K "NoJobs") == Value.ref (He.ga K "NoMarks")) = false) ∧ (PySem.W.subIn K (.ref (He.ga K "NoJobs")) (.ref (He.ga K "NoNamed")) = some false) ∧ ((Value.ref (He.ga K "NoJobs") == Value.ref (He.ga K "NoNamed")) = false) ∧ (PySem.W.subIn K (.ref (He.ga K "NoJobs")) (.ref (He.ga K "NoOrder")) = some false)),
  fun K => bX (He.ga K "SlotError") (He.ga K "NoRule") K,
  fun K => (He.Fa.code ("NoRule", some "__init__") "NoRule.__init__").ok K,
  fun K => decide (((Value.ref (He.ga K "NoJobs") == Value.ref (He.ga K "NoOrder")) = false) ∧ (PySem.W.subIn K (.ref (He.ga K "NoJobs")) (.ref (He.ga K "NoText")) = some false) ∧ ((Value.ref (He.ga K "NoJobs") == Value.ref (He.ga K "NoText")) = false) ∧ (PySem.W.subIn K (.ref (He.ga K "NoJobs")) (.ref (He.ga K "NoNumber")) = some false) ∧ ((Value.ref (He.ga K "NoJobs") == Value.ref (He.ga K "NoNumber")) = false) ∧ (PySem.W.subIn K (.ref (He.ga K "NoJobs")) (.ref (He.ga K "NoName")) = some false) ∧ ((Value.ref (He.ga K "NoJobs") == Value.ref (He.ga K "NoName")) = false) ∧ (PySem.W.subIn K (.ref (He.ga K "NoJobs")) (.ref (He.ga K "NoUndo")) = some false) ∧ ((Value.ref (He.ga K "NoJobs") == Value.ref (He.ga K "NoUndo")) = false) ∧ (PySem.W.subIn K (.ref (He.ga K "NoJobs")) (.ref (He.ga K "NoLine")) = some false) ∧ ((Value.ref (He.ga K "NoJobs") == Value.ref (He.ga K "NoLine")) = false) ∧ (PySem.W.findIn K (.ref (He.ga K "NoRule")) "__setattr__" = some (some (.builtin "object.__setattr__"))) ∧ (PySem.W.findIn K (.ref (He.ga K "NoRule")) "__getattribute__" = some (some (.builtin "BaseException.__getattribute__"))) ∧ (PySem.W.findIn K (.ref (He.ga K "NoRule")) "__getattr__" = some none) ∧ (PySem.W.findIn K (.ref (He.ga K "NoRule")) "place" = some none) ∧ (PySem.W.findIn K (.ref (He.ga K "NoRule")) "__init__" = some (some (.ref (He.ma K (He.ga K "NoRule") "__init__")))) ∧ (PySem.W.typeIn K (.ref (He.ma K (He.ga K "NoRule") "__init__")) = some (.type "function")) ∧ (PySem.W.keepIn K (.ref (He.ma K (He.ga K "NoRule") "__init__")) = true) ∧ (PySem.W.keepIn K (.ref (He.ga K "NoRule")) = true) ∧ (PySem.W.subIn K (.ref (He.ga K "NoRule")) (.type "BaseException") = some true)),
  fun K => decide ((PySem.W.hasDictIn K (He.ga K "NoRule") = true) ∧ (PySem.W.findIn K (.ref (He.ga K "NoRule")) "__class__" = some (some (.builtin "object.__class__"))) ∧ (PySem.W.mroIn K (He.ga K "NoRule") (.type "object") = some true) ∧ (PySem.W.subIn K (.ref (He.ga K "NoRule")) (.type "ValueError") = some true) ∧ (PySem.W.subIn K (.ref (He.ga K "NoRule")) (.ref (He.ga K "SlotError")) = some true) ∧ (PySem.W.subIn K (.ref (He.ga K "NoRule")) (.ref (He.ga K "NoJobs")) = some false) ∧ ((Value.ref (He.ga K "NoRule") == Value.ref (He.ga K "NoJobs")) = false) ∧ (PySem.W.subIn K (.ref (He.ga K "NoRule")) (.ref (He.ga K "NoLengths")) = some false) ∧ ((Value.ref (He.ga K "NoRule") == Value.ref (He.ga K "NoLengths")) = false) ∧ (PySem.W.subIn K (.ref (He.ga K "NoRule")) (.ref (He.ga K "NoLog")) = some false) ∧ ((Value.ref (He.ga K "NoRule") == Value.ref (He.ga K "NoLog")) = false) ∧ (PySem.W.subIn K (.ref (He.ga K "NoRule")) (.ref (He.ga K "NoMarks")) = some false) ∧ ((Value.ref (He.ga K "NoRule") == Value.ref (He.ga K "NoMarks")) = false) ∧ (PySem.W.subIn K (.ref (He.ga K "NoRule")) (.ref (He.ga K "NoNamed")) = some false) ∧ ((Value.ref (He.ga K "NoRule") == Value.ref (He.ga K "NoNamed")) = false) ∧ (PySem.W.subIn K (.ref (He.ga K "NoRule")) (.ref (He.ga K "NoOrder")) = some false) ∧ ((Value.ref (He.ga K "NoRule") == Value.ref (He.ga K "NoOrder")) = false) ∧ (PySem.W.subIn K (.ref (He.ga K "NoRule")) (.ref (He.ga K "NoText")) = some false) ∧ ((Value.ref (He.ga K "NoRule") == Value.ref (He.ga K "NoText")) = false) ∧ (PySem.W.subIn K (.ref (He.ga K "NoRule")) (.ref (He.ga K "NoNumber")) = some false)),
  fun K => bX (He.ga K "SlotError") (He.ga K "NoLog") K,
  fun K => (He.Fa.code ("NoLog", some "__init__") "NoLog.__init__").ok K,
  fun K => decide (((Value.ref (He.ga K "NoRule") == Value.ref (He.ga K "NoNumber")) = false) ∧ (PySem.W.subIn K (.ref (He.ga K "NoRule")) (.ref (He.ga K "NoName")) = some false) ∧ ((Value.ref (He.ga K "NoRule") == Value.ref (He.ga K "NoName")) = false) ∧ (PySem.W.subIn K (.ref (He.ga K "NoRule")) (.ref (He.ga K "NoUndo")) = some false) ∧ ((Value.ref (He.ga K "NoRule") == Value.ref (He.ga K "NoUndo")) = false) ∧ (PySem.W.subIn K (.ref (He.ga K "NoRule")) (.ref (He.ga K "NoLine")) = some false) ∧ ((Value.ref (He.ga K "NoRule") == Value.ref (He.ga K "NoLine")) = false) ∧ (PySem.W.findIn K (.ref (He.ga K "NoLog")) "__setattr__" = some (some (.builtin "object.__setattr__"))) ∧ (PySem.W.findIn K (.ref (He.ga K "NoLog")) "__getattribute__" = some (some (.builtin "BaseException.__getattribute__"))) ∧ (PySem.W.findIn K (.ref (He.ga K "NoLog")) "__getattr__" = some none) ∧ (PySem.W.findIn K (.ref (He.ga K "NoLog")) "place" = some none) ∧ (PySem.W.findIn K (.ref (He.ga K "NoLog")) "__init__" = some (some (.ref (He.ma K (He.ga K "NoLog") "__init__")))) ∧ (PySem.W.typeIn K (.ref (He.ma K (He.ga K "NoLog") "__init__")) = some (.type "function")) ∧ (PySem.W.keepIn K (.ref (He.ma K (He.ga K "NoLog") "__init__")) = true) ∧ (PySem.W.keepIn K (.ref (He.ga K "NoLog")) = true) ∧ (PySem.W.subIn K (.ref (He.ga K "NoLog")) (.type "BaseException") = some true) ∧ (PySem.W.hasDictIn K (He.ga K "NoLog") = true) ∧ (PySem.W.findIn K (.ref (He.ga K "NoLog")) "__class__" = some (some (.builtin "object.__class__"))) ∧ (PySem.W.mroIn K (He.ga K "NoLog") (.type "object") = some true) ∧ (PySem.W.subIn K (.ref (He.ga K "NoLog")) (.type "ValueError") = some true)),
  fun K => decide ((PySem.W.subIn K (.ref (He.ga K "NoLog")) (.ref (He.ga K "SlotError")) = some true) ∧ (PySem.W.subIn K (.ref (He.ga K "NoLog")) (.ref (He.ga K "NoJobs")) = some false) ∧ ((Value.ref (He.ga K "NoLog") == Value.ref (He.ga K "NoJobs")) = false) ∧ (PySem.W.subIn K (.ref (He.ga K "NoLog")) (.ref (He.ga K "NoRule")) = some false) ∧ ((Value.ref (He.ga K "NoLog") == Value.ref (He.ga K "NoRule")) = false) ∧ (PySem.W.subIn K (.ref (He.ga K "NoLog")) (.ref (He.ga K "NoLengths")) = some false) ∧ ((Value.ref (He.ga K "NoLog") == Value.ref (He.ga K "NoLengths")) = false) ∧ (PySem.W.subIn K (.ref (He.ga K "NoLog")) (.ref (He.ga K "NoMarks")) = some false) ∧ ((Value.ref (He.ga K "NoLog") == Value.ref (He.ga K "NoMarks")) = false) ∧ (PySem.W.subIn K (.ref (He.ga K "NoLog")) (.ref (He.ga K "NoNamed")) = some false) ∧ ((Value.ref (He.ga K "NoLog") == Value.ref (He.ga K "NoNamed")) = false) ∧ (PySem.W.subIn K (.ref (He.ga K "NoLog")) (.ref (He.ga K "NoOrder")) = some false) ∧ ((Value.ref (He.ga K "NoLog") == Value.ref (He.ga K "NoOrder")) = false) ∧ (PySem.W.subIn K (.ref (He.ga K "NoLog")) (.ref (He.ga K "NoText")) = some false) ∧ ((Value.ref (He.ga K "NoLog") == Value.ref (He.ga K "NoText")) = false) ∧ (PySem.W.subIn K (.ref (He.ga K "NoLog")) (.ref (He.ga K "NoNumber")) = some false) ∧ ((Value.ref (He.ga K "NoLog") == Value.ref (He.ga K "NoNumber")) = false) ∧ (PySem.W.subIn K (.ref (He.ga K "NoLog")) (.ref (He.ga K "NoName")) = some false) ∧ ((Value.ref (He.ga K "NoLog") == Value.ref (He.ga K "NoName")) = false) ∧ (PySem.W.subIn K (.ref (He.ga K "NoLog")) (.ref (He.ga K "NoUndo")) = some false)),
  fun K => bX (He.ga K "SlotError") (He.ga K "NoMarks") K,
  fun K => (He.Fa.code ("NoMarks", some "__init__") "NoMarks.__init__").ok K,
  fun K => decide (((Value.ref (He.ga K "NoLog") == Value.ref (He.ga K "NoUndo")) = false) ∧ (PySem.W.subIn K (.ref (He.ga K "NoLog")) (.ref (He.ga K "NoLine")) = some false) ∧ ((Value.ref (He.ga K "NoLog") == Value.ref (He.ga K "NoLine")) = false) ∧ (PySem.W.findIn K (.ref (He.ga K "NoMarks")) "__setattr__" = some (some (.builtin "object.__setattr__"))) ∧ (PySem.W.findIn K (.ref (He.ga K "NoMarks")) "__getattribute__" = some (some (.builtin "BaseException.__getattribute__"))) ∧ (PySem.W.findIn K (.ref (He.ga K "NoMarks")) "__getattr__" = some none) ∧ (PySem.W.findIn K (.ref (He.ga K "NoMarks")) "place" = some none) ∧ (PySem.W.findIn K (.ref (He.ga K "NoMarks")) "__init__" = some (some (.ref (He.ma K (He.ga K "NoMarks") "__init__")))) ∧ (PySem.W.typeIn K (.ref (He.ma K (He.ga K "NoMarks") "__init__")) = some (.type "function")) ∧ (PySem.W.keepIn K (.ref (He.ma K (He.ga K "NoMarks") "__init__")) = true) ∧ (PySem.W.keepIn K (.ref (He.ga K "NoMarks")) = true) ∧ (PySem.W.subIn K (.ref (He.ga K "NoMarks")) (.type "BaseException") = some true) ∧ (PySem.W.hasDictIn K (He.ga K "NoMarks") = true) ∧ (PySem.W.findIn K (.ref (He.ga K "NoMarks")) "__class__" = some (some (.builtin "object.__class__"))) ∧ (PySem.W.mroIn K (He.ga K "NoMarks") (.type "object") = some true) ∧ (PySem.W.subIn K (.ref (He.ga K "NoMarks")) (.type "ValueError") = some true) ∧ (PySem.W.subIn K (.ref (He.ga K "NoMarks")) (.ref (He.ga K "SlotError")) = some true) ∧ (PySem.W.subIn K (.ref (He.ga K "NoMarks")) (.ref (He.ga K "NoJobs")) = some false) ∧ ((Value.ref (He.ga K "NoMarks") == Value.ref (He.ga K "NoJobs")) = false) ∧ (PySem.W.subIn K (.ref (He.ga K "NoMarks")) (.ref (He.ga K "NoRule")) = some false)),
  fun K => bX (He.ga K "SlotError") (He.ga K "NoNamed") K,
  fun K => decide (((Value.ref (He.ga K "NoMarks") == Value.ref (He.ga K "NoRule")) = false) ∧ (PySem.W.subIn K (.ref (He.ga K "NoMarks")) (.ref (He.ga K "NoLengths")) = some false) ∧ ((Value.ref (He.ga K "NoMarks") == Value.ref (He.ga K "NoLengths")) = false) ∧ (PySem.W.subIn K (.ref (He.ga K "NoMarks")) (.ref (He.ga K "NoLog")) = some false) ∧ ((Value.ref (He.ga K "NoMarks") == Value.ref (He.ga K "NoLog")) = false) ∧ (PySem.W.subIn K (.ref (He.ga K "NoMarks")) (.ref (He.ga K "NoNamed")) = some false) ∧ ((Value.ref (He.ga K "NoMarks") == Value.ref (He.ga K "NoNamed")) = false) ∧ (PySem.W.subIn K (.ref (He.ga K "NoMarks")) (.ref (He.ga K "NoOrder")) = some false) ∧ ((Value.ref (He.ga K "NoMarks") == Value.ref (He.ga K "NoOrder")) = false) ∧ (PySem.W.subIn K (.ref (He.ga K "NoMarks")) (.ref (He.ga K "NoText")) = some false) ∧ ((Value.ref (He.ga K "NoMarks") == Value.ref (He.ga K "NoText")) = false) ∧ (PySem.W.subIn K (.ref (He.ga K "NoMarks")) (.ref (He.ga K "NoNumber")) = some false) ∧ ((Value.ref (He.ga K "NoMarks") == Value.ref (He.ga K "NoNumber")) = false) ∧ (PySem.W.subIn K (.ref (He.ga K "NoMarks")) (.ref (He.ga K "NoName")) = some false) ∧ ((Value.ref (He.ga K "NoMarks") == Value.ref (He.ga K "NoName")) = false) ∧ (PySem.W.subIn K (.ref (He.ga K "NoMarks")) (.ref (He.ga K "NoUndo")) = some false) ∧ ((Value.ref (He.ga K "NoMarks") == Value.ref (He.ga K "NoUndo")) = false) ∧ (PySem.W.subIn K (.ref (He.ga K "NoMarks")) (.ref (He.ga K "NoLine")) = some false) ∧ ((Value.ref (He.ga K "NoMarks") == Value.ref (He.ga K "NoLine")) = false) ∧ (PySem.W.findIn K (.ref (He.ga K "NoNamed")) "__setattr__" = some (some (.builtin "object.__setattr__")))),
  fun K => (He.Fa.code ("NoNamed", some "__init__") "NoNamed.__init__").ok K,
  fun K => decide ((PySem.W.findIn K (.ref (He.ga K "NoNamed")) "__getattribute__" = some (some (.builtin "BaseException.__getattribute__"))) ∧ (PySem.W.findIn K (.ref (He.ga K "NoNamed")) "__getattr__" = some none) ∧ (PySem.W.findIn K (.ref (He.ga K "NoNamed")) "place" = some none) ∧ (PySem.W.findIn K (.ref (He.ga K "NoNamed")) "__init__" = some (some (.ref (He.ma K (He.ga K "NoNamed") "__init__")))) ∧ (PySem.W.typeIn K (.ref (He.ma K (He.ga K "NoNamed") "__init__")) = some (.type "function")) ∧ (PySem.W.keepIn K (.ref (He.ma K (He.ga K "NoNamed") "__init__")) = true) ∧ (PySem.W.keepIn K (.ref (He.ga K "NoNamed")) = true) ∧ (PySem.W.subIn K (.ref (He.ga K "NoNamed")) (.type "BaseException") = some true) ∧ (PySem.W.hasDictIn K (He.ga K "NoNamed") = true) ∧ (PySem.W.findIn K (.ref (He.ga K "NoNamed")) "__class__" = some (some (.builtin "object.__class__"))) ∧ (PySem.W.mroIn K (He.ga K "NoNamed") (.type "object") = some true) ∧ (PySem.W.subIn K (.ref (He.ga K "NoNamed")) (.type "ValueError") = some true) ∧ (PySem.W.subIn K (.ref (He.ga K "NoNamed")) (.ref (He.ga K "SlotError")) = some true) ∧ (PySem.W.subIn K (.ref (He.ga K "NoNamed")) (.ref (He.ga K "NoJobs")) = some false) ∧ ((Value.ref (He.ga K "NoNamed") == Value.ref (He.ga K "NoJobs")) = false) ∧ (PySem.W.subIn K (.ref (He.ga K "NoNamed")) (.ref (He.ga K "NoRule")) = some false) ∧ ((Value.ref (He.ga K "NoNamed") == Value.ref (He.ga K "NoRule")) = false) ∧ (PySem.W.subIn K (.ref (He.ga K "NoNamed")) (.ref (He.ga K "NoLengths")) = some false) ∧ ((Value.ref (He.ga K "NoNamed") == Value.ref (He.ga K "NoLengths")) = false) ∧ (PySem.W.subIn K (.ref (He.ga K "NoNamed")) (.ref (He.ga K "NoLog")) = some false)),
  fun K => bX (He.ga K "SlotError") (He.ga K "NoNumber") K,
  fun K => decide (((Value.ref (He.ga K "NoNamed") == Value.ref (He.ga K "NoLog")) = false) ∧ (PySem.W.subIn K (.ref (He.ga K "NoNamed")) (.ref (He.ga K "NoMarks")) = some false) ∧ ((Value.ref (He.ga K "NoNamed") == Value.ref (He.ga K "NoMarks")) = false) ∧ (PySem.W.subIn K (.ref (He.ga K "NoNamed")) (.ref (He.ga K "NoOrder")) = some false) ∧ ((Value.ref (He.ga K "NoNamed") == Value.ref (He.ga K "NoOrder")) = false) ∧ (PySem.W.subIn K (.ref (He.ga K "NoNamed")) (.ref (He.ga K "NoText")) = some false) ∧ ((Value.ref (He.ga K "NoNamed") == Value.ref (He.ga K "NoText")) = false) ∧ (PySem.W.subIn K (.ref (He.ga K "NoNamed")) (.ref (He.ga K "NoNumber")) = some false) ∧ ((Value.ref (He.ga K "NoNamed") == Value.ref (He.ga K "NoNumber")) = false) ∧ (PySem.W.subIn K (.ref (He.ga K "NoNamed")) (.ref (He.ga K "NoName")) = some false) ∧ ((Value.ref (He.ga K "NoNamed") == Value.ref (He.ga K "NoName")) = false) ∧ (PySem.W.subIn K (.ref (He.ga K "NoNamed")) (.ref (He.ga K "NoUndo")) = some false) ∧ ((Value.ref (He.ga K "NoNamed") == Value.ref (He.ga K "NoUndo")) = false) ∧ (PySem.W.subIn K (.ref (He.ga K "NoNamed")) (.ref (He.ga K "NoLine")) = some false) ∧ ((Value.ref (He.ga K "NoNamed") == Value.ref (He.ga K "NoLine")) = false) ∧ (PySem.W.findIn K (.ref (He.ga K "NoNumber")) "__setattr__" = some (some (.builtin "object.__setattr__"))) ∧ (PySem.W.findIn K (.ref (He.ga K "NoNumber")) "__getattribute__" = some (some (.builtin "BaseException.__getattribute__"))) ∧ (PySem.W.findIn K (.ref (He.ga K "NoNumber")) "__getattr__" = some none) ∧ (PySem.W.findIn K (.ref (He.ga K "NoNumber")) "number" = some none) ∧ (PySem.W.findIn K (.ref (He.ga K "NoNumber")) "place" = some none))]
def fsV2 : List (PySem.W.Frag → Bool) := [fun K => (He.Fa.code ("NoNumber", some "__init__") "NoNumber.__init__").ok K,
  fun K => decide ((PySem.W.findIn K (.ref (He.ga K "NoNumber")) "__init__" = some (some (.ref (He.ma K (He.ga K "NoNumber") "__init__")))) ∧ (PySem.W.typeIn K (.ref (He.ma K (He.ga K "NoNumber") "__init__")) = some (.type "function")) ∧ (PySem.W.keepIn K (.ref (He.ma K (He.ga K "NoNumber") "__init__")) = true) ∧ (PySem.W.keepIn K (.ref (He.ga K "NoNumber")) = true) ∧ (PySem.W.subIn K (.ref (He.ga K "NoNumber")) (.type "BaseException") = some true) ∧ (PySem.W.hasDictIn K (He.ga K "NoNumber") = true) ∧ (PySem.W.findIn K (.ref (He.ga K "NoNumber")) "__class__" = some (some (.builtin "object.__class__"))) ∧ (PySem.W.mroIn K (He.ga K "NoNumber") (.type "object") = some true) ∧ (PySem.W.subIn K (.ref (He.ga K "NoNumber")) (.type "ValueError") = some true) ∧ (PySem.W.subIn K (.ref (He.ga K "NoNumber")) (.ref (He.ga K "SlotError")) = some true) ∧ (PySem.W.subIn K (.ref (He.ga K "NoNumber")) (.ref (He.ga K "NoJobs")) = some false) ∧ ((Value.ref (He.ga K "NoNumber") == Value.ref (He.ga K "NoJobs")) = false) ∧ (PySem.W.subIn K (.ref (He.ga K "NoNumber")) (.ref (He.ga K "NoRule")) = some false) ∧ ((Value.ref (He.ga K "NoNumber") == Value.ref (He.ga K "NoRule")) = false) ∧ (PySem.W.subIn K (.ref (He.ga K "NoNumber")) (.ref (He.ga K "NoLengths")) = some false) ∧ ((Value.ref (He.ga K "NoNumber") == Value.ref (He.ga K "NoLengths")) = false) ∧ (PySem.W.subIn K (.ref (He.ga K "NoNumber")) (.ref (He.ga K "NoLog")) = some false) ∧ ((Value.ref (He.ga K "NoNumber") == Value.ref (He.ga K "NoLog")) = false) ∧ (PySem.W.subIn K (.ref (He.ga K "NoNumber")) (.ref (He.ga K "NoMarks")) = some false) ∧ ((Value.ref (He.ga K "NoNumber") == Value.ref (He.ga K "NoMarks")) = false)),
  bK "first_fault" "processors",
  bK "ways" "processors",
  bK "nth_lengths" "processors",
  bK "lengths_of" "processors",
  bK "lengths_from_names" "processors",
  bK "parting" "processors",
  bI "MOST_LEVELS" 6,
  bN "is_name",
  fun K => decide ((PySem.W.subIn K (.ref (He.ga K "NoNumber")) (.ref (He.ga K "NoNamed")) = some false) ∧ ((Value.ref (He.ga K "NoNumber") == Value.ref (He.ga K "NoNamed")) = false) ∧ (PySem.W.subIn K (.ref (He.ga K "NoNumber")) (.ref (He.ga K "NoOrder")) = some false) ∧ ((Value.ref (He.ga K "NoNumber") == Value.ref (He.ga K "NoOrder")) = false) ∧ (PySem.W.subIn K (.ref (He.ga K "NoNumber")) (.ref (He.ga K "NoText")) = some false) ∧ ((Value.ref (He.ga K "NoNumber") == Value.ref (He.ga K "NoText")) = false) ∧ (PySem.W.subIn K (.ref (He.ga K "NoNumber")) (.ref (He.ga K "NoName")) = some false) ∧ ((Value.ref (He.ga K "NoNumber") == Value.ref (He.ga K "NoName")) = false) ∧ (PySem.W.subIn K (.ref (He.ga K "NoNumber")) (.ref (He.ga K "NoUndo")) = some false) ∧ ((Value.ref (He.ga K "NoNumber") == Value.ref (He.ga K "NoUndo")) = false) ∧ (PySem.W.subIn K (.ref (He.ga K "NoNumber")) (.ref (He.ga K "NoLine")) = some false) ∧ ((Value.ref (He.ga K "NoNumber") == Value.ref (He.ga K "NoLine")) = false))]
def fsV : List (PySem.W.Frag → Bool) := fsV0 ++ fsV1 ++ fsV2
def fnV0 : List He.FnD := [dD "is_integer" sInteger,
  dD "is_tuple_of" sTupleOf,
  dD "check_jobs" sCheck,
  dD "check_each_job" sEach,
  dD "is_job" sIsJob,
  dD "is_arrival" sArrival,
  dD "waits_forever" sWaits,
  dD "check_rule" sCheckR,
  dD "is_level" sLevel,
  dD "is_count" sIsCnt,
  dD "lengths_in" sLenIn,
  dD "presence" sPresence,
  dD "check_log" sCheckLog,
  dD "check_marks" sCheckMarks,
  dD "course_by_names" sByNames,
  dD "_law_mix" sMix,
  dD "_law_store" sStore,
  dD "_law_pick" sPick,
  dD "_law_names" sNames,
  dD "_law_before" sBefore,
  dD "_law_jobs" sJobs,
  dD "_law_is_int" sInt,
  dD "_law_is_job" sIsJobL,
  dD "_law_fault" sFault,
  dD "_law_spoilt" sSpoilt,
  dD "_law_rule" sRule,
  dD "_law_fault_rule" sFaultR,
  dD "_law_bad_rule" sBadRule,
  dD "_law_kind" sKind,
  dD "_law_present" sPresentL]
def fnV1 : List He.FnD := [dD "_law_log" sLog,
  dD "_law_log_fault" sLogFault,
  dD "_law_bad_log" sBadLog,
  dD "_law_call" sCall,
  dD "_law_due" sDue,
  dD "_law_right" sRight,
  dD "law" sLaw,
  dM "NoJobs" "__init__" "NoJobs.__init__" sJobsInit,
  dM "NoRule" "__init__" "NoRule.__init__" sRuleInit,
  dM "NoLog" "__init__" "NoLog.__init__" sLogInit,
  dM "NoMarks" "__init__" "NoMarks.__init__" sMarksInit,
  dM "NoNamed" "__init__" "NoNamed.__init__" sNamedInit,
  dM "NoNumber" "__init__" "NoNumber.__init__" sNumberInit,
  dD "first_fault" sFirst,
  dD "ways" sWays,
  dD "nth_lengths" sNth,
  dD "lengths_of" sLengthsOf,
  dD "lengths_from_names" sFromNames,
  dD "parting" sParting,
  dD "is_name" sName]
def fnV : List He.FnD := fnV0 ++ fnV1
abbrev RV : PySem.W.OpenRow := PySem.W.OpenLaw.row PySem.Challenge.rw_blindslots_k47_errors_of_every_other_fun
abbrev qV : Program := PySem.W.view RV.prog [0, 1, 22, 92]
abbrev hV : PySem.W.Hook := hookV 4 fsV fnV
def obV (s : PySem.W.SharedT) : SeeV := seeV fsV fnV (partV 4 (HandSHeadRun.getT s))
theorem obV_eq (s : PySem.W.SharedT) : obV s = hV.obs s.abs := seeV_eq (HandSHeadRun.getT_eq s)
theorem runVa (w : World) : (HandSHeadRun.wholeF (fun p => HandSHeadRun.stepQ (HandSHeadRun.denQ HandSHeadRun.tabQ) p w) HandSHeadRun.fenceQ 30000 RV.prog).map (fun x => HandSHeadRun.looksF RV.prog x.1.heap x.2.abs) = some true := by
  kernel_rfl
theorem runVb (w : World) : (HandSHeadRun.wholeF (fun p => HandSHeadRun.stepQ (HandSHeadRun.denQ HandSHeadRun.tabQ) p w) HandSHeadRun.fenceQ 30000 RV.prog).map (fun x => HandSHeadRun.seenQ qV nmV (importedModules RV.prog.main.body) (fun s => PySem.W.xlAt qV [] s && PySem.W.recOk RV.toRowW.records s) x.2.abs) = some (PySem.W.openGood qV nmV) := by
  kernel_rfl
theorem runVc (w : World) : (HandSHeadRun.wholeF (fun p => HandSHeadRun.stepQ (HandSHeadRun.denQ HandSHeadRun.tabQ) p w) HandSHeadRun.fenceQ 30000 RV.prog).map (fun x => obV x.2) = some (dueV fnV) := by
  kernel_rfl
theorem runV (w : World) : HandSHeadRun.RunEqI RV qV hV obV 30000 nmV w := join3 (runVa w) (runVb w) (runVc w)
end Vk
set_option maxHeartbeats 0
namespace Vk
open PySem PySem.Spec PyProof.Rows L2
theorem factsV {w : World} {K : PySem.W.Frag} {h : Heap} {mg : Str → Option Value} {fa : Addr} (X : K.In h) (G : h.Ns mainGlobals mg) (hfa : mg ("law" : Str) = some (.ref fa)) (c : seeV fsV fnV K = dueV fnV) : LawTab PySem.Challenge.rw_blindslots_k47_errors_of_every_other_fun w K mg fa := by
  obtain ⟨oc0, od0, sl0, kV0, dc0, pm0, an0, cd0, ct0, a0, l0, c0, k0⟩ := okD (x := "is_integer") (st := sInteger) (defV c 0 rfl) (facV c 0 rfl)
  obtain ⟨oc1, od1, sl1, kV1, dc1, pm1, an1, cd1, ct1, a1, l1, c1, k1⟩ := okD (x := "is_tuple_of") (st := sTupleOf) (defV c 1 rfl) (facV c 1 rfl)
  obtain ⟨oc2, od2, sl2, kV2, dc2, pm2, an2, cd2, ct2, a2, l2, c2, k2⟩ := okD (x := "check_jobs") (st := sCheck) (defV c 2 rfl) (facV c 2 rfl)
  obtain ⟨oc3, od3, sl3, kV3, dc3, pm3, an3, cd3, ct3, a3, l3, c3, k3⟩ := okD (x := "check_each_job") (st := sEach) (defV c 3 rfl) (facV c 3 rfl)
  obtain ⟨oc4, od4, sl4, kV4, dc4, pm4, an4, cd4, ct4, a4, l4, c4, k4⟩ := okD (x := "is_job") (st := sIsJob) (defV c 4 rfl) (facV c 4 rfl)
  obtain ⟨oc5, od5, sl5, kV5, dc5, pm5, an5, cd5, ct5, a5, l5, c5, k5⟩ := okD (x := "is_arrival") (st := sArrival) (defV c 5 rfl) (facV c 5 rfl)
  obtain ⟨oc6, od6, sl6, kV6, dc6, pm6, an6, cd6, ct6, a6, l6, c6, k6⟩ := okD (x := "waits_forever") (st := sWaits) (defV c 6 rfl) (facV c 6 rfl)
  obtain ⟨oc7, od7, sl7, kV7, dc7, pm7, an7, cd7, ct7, a7, l7, c7, k7⟩ := okD (x := "check_rule") (st := sCheckR) (defV c 7 rfl) (facV c 7 rfl)
  obtain ⟨oc8, od8, sl8, kV8, dc8, pm8, an8, cd8, ct8, a8, l8, c8, k8⟩ := okD (x := "is_level") (st := sLevel) (defV c 8 rfl) (facV c 8 rfl)
  obtain ⟨oc9, od9, sl9, kV9, dc9, pm9, an9, cd9, ct9, a9, l9, c9, k9⟩ := okD (x := "is_count") (st := sIsCnt) (defV c 9 rfl) (facV c 9 rfl)
  obtain ⟨oc10, od10, sl10, kV10, dc10, pm10, an10, cd10, ct10, a10, l10, c10, k10⟩ := okD (x := "lengths_in") (st := sLenIn) (defV c 10 rfl) (facV c 10 rfl)
  obtain ⟨oc11, od11, sl11, kV11, dc11, pm11, an11, cd11, ct11, a11, l11, c11, k11⟩ := okD (x := "presence") (st := sPresence) (defV c 11 rfl) (facV c 11 rfl)
  obtain ⟨oc12, od12, sl12, kV12, dc12, pm12, an12, cd12, ct12, a12, l12, c12, k12⟩ := okD (x := "check_log") (st := sCheckLog) (defV c 12 rfl) (facV c 12 rfl)
  obtain ⟨oc13, od13, sl13, kV13, dc13, pm13, an13, cd13, ct13, a13, l13, c13, k13⟩ := okD (x := "check_marks") (st := sCheckMarks) (defV c 13 rfl) (facV c 13 rfl)
  obtain ⟨oc14, od14, sl14, kV14, dc14, pm14, an14, cd14, ct14, a14, l14, c14, k14⟩ := okD (x := "course_by_names") (st := sByNames) (defV c 14 rfl) (facV c 14 rfl)
  obtain ⟨oc15, od15, sl15, kV15, dc15, pm15, an15, cd15, ct15, a15, l15, c15, k15⟩ := okD (x := "_law_mix") (st := sMix) (defV c 15 rfl) (facV c 15 rfl)
  obtain ⟨oc16, od16, sl16, kV16, dc16, pm16, an16, cd16, ct16, a16, l16, c16, k16⟩ := okD (x := "_law_store") (st := sStore) (defV c 16 rfl) (facV c 16 rfl)
  obtain ⟨oc17, od17, sl17, kV17, dc17, pm17, an17, cd17, ct17, a17, l17, c17, k17⟩ := okD (x := "_law_pick") (st := sPick) (defV c 17 rfl) (facV c 17 rfl)
  obtain ⟨oc18, od18, sl18, kV18, dc18, pm18, an18, cd18, ct18, a18, l18, c18, k18⟩ := okD (x := "_law_names") (st := sNames) (defV c 18 rfl) (facV c 18 rfl)
  obtain ⟨oc19, od19, sl19, kV19, dc19, pm19, an19, cd19, ct19, a19, l19, c19, k19⟩ := okD (x := "_law_before") (st := sBefore) (defV c 19 rfl) (facV c 19 rfl)
  obtain ⟨oc20, od20, sl20, kV20, dc20, pm20, an20, cd20, ct20, a20, l20, c20, k20⟩ := okD (x := "_law_jobs") (st := sJobs) (defV c 20 rfl) (facV c 20 rfl)
  obtain ⟨oc21, od21, sl21, kV21, dc21, pm21, an21, cd21, ct21, a21, l21, c21, k21⟩ := okD (x := "_law_is_int") (st := sInt) (defV c 21 rfl) (facV c 21 rfl)
  obtain ⟨oc22, od22, sl22, kV22, dc22, pm22, an22, cd22, ct22, a22, l22, c22, k22⟩ := okD (x := "_law_is_job") (st := sIsJobL) (defV c 22 rfl) (facV c 22 rfl)
  obtain ⟨oc23, od23, sl23, kV23, dc23, pm23, an23, cd23, ct23, a23, l23, c23, k23⟩ := okD (x := "_law_fault") (st := sFault) (defV c 23 rfl) (facV c 23 rfl)
  obtain ⟨oc24, od24, sl24, kV24, dc24, pm24, an24, cd24, ct24, a24, l24, c24, k24⟩ := okD (x := "_law_spoilt") (st := sSpoilt) (defV c 24 rfl) (facV c 24 rfl)
  obtain ⟨oc25, od25, sl25, kV25, dc25, pm25, an25, cd25, ct25, a25, l25, c25, k25⟩ := okD (x := "_law_rule") (st := sRule) (defV c 25 rfl) (facV c 25 rfl)
  obtain ⟨oc26, od26, sl26, kV26, dc26, pm26, an26, cd26, ct26, a26, l26, c26, k26⟩ := okD (x := "_law_fault_rule") (st := sFaultR) (defV c 26 rfl) (facV c 26 rfl)
  obtain ⟨oc27, od27, sl27, kV27, dc27, pm27, an27, cd27, ct27, a27, l27, c27, k27⟩ := okD (x := "_law_bad_rule") (st := sBadRule) (defV c 27 rfl) (facV c 27 rfl)
  obtain ⟨oc28, od28, sl28, kV28, dc28, pm28, an28, cd28, ct28, a28, l28, c28, k28⟩ := okD (x := "_law_kind") (st := sKind) (defV c 28 rfl) (facV c 28 rfl)
  obtain ⟨oc29, od29, sl29, kV29, dc29, pm29, an29, cd29, ct29, a29, l29, c29, k29⟩ := okD (x := "_law_present") (st := sPresentL) (defV c 29 rfl) (facV c 29 rfl)
  obtain ⟨oc30, od30, sl30, kV30, dc30, pm30, an30, cd30, ct30, a30, l30, c30, k30⟩ := okD (x := "_law_log") (st := sLog) (defV c 30 rfl) (facV c 30 rfl)
  obtain ⟨oc31, od31, sl31, kV31, dc31, pm31, an31, cd31, ct31, a31, l31, c31, k31⟩ := okD (x := "_law_log_fault") (st := sLogFault) (defV c 31 rfl) (facV c 31 rfl)
  obtain ⟨oc32, od32, sl32, kV32, dc32, pm32, an32, cd32, ct32, a32, l32, c32, k32⟩ := okD (x := "_law_bad_log") (st := sBadLog) (defV c 32 rfl) (facV c 32 rfl)
  obtain ⟨oc33, od33, sl33, kV33, dc33, pm33, an33, cd33, ct33, a33, l33, c33, k33⟩ := okD (x := "_law_call") (st := sCall) (defV c 33 rfl) (facV c 33 rfl)
  obtain ⟨oc34, od34, sl34, kV34, dc34, pm34, an34, cd34, ct34, a34, l34, c34, k34⟩ := okD (x := "_law_due") (st := sDue) (defV c 34 rfl) (facV c 34 rfl)
  obtain ⟨oc35, od35, sl35, kV35, dc35, pm35, an35, cd35, ct35, a35, l35, c35, k35⟩ := okD (x := "_law_right") (st := sRight) (defV c 35 rfl) (facV c 35 rfl)
  obtain ⟨oc36, od36, sl36, kV36, dc36, pm36, an36, cd36, ct36, a36, l36, c36, k36⟩ := okD (x := "law") (st := sLaw) (defV c 36 rfl) (facV c 36 rfl)
  obtain ⟨z_len, z_isinstance, z_int, z_bool, z_tuple, z_str, z_range, z_enumerate, z_list, z_all, z_min, aS, iS, hS, tS, eS, spG, tkG, zVE, aE0⟩ : (PySem.W.nsIn K mainGlobals "len" = some none) ∧ (PySem.W.nsIn K mainGlobals "isinstance" = some none) ∧ (PySem.W.nsIn K mainGlobals "int" = some none) ∧ (PySem.W.nsIn K mainGlobals "bool" = some none) ∧ (PySem.W.nsIn K mainGlobals "tuple" = some none) ∧ (PySem.W.nsIn K mainGlobals "str" = some none) ∧ (PySem.W.nsIn K mainGlobals "range" = some none) ∧ (PySem.W.nsIn K mainGlobals "enumerate" = some none) ∧ (PySem.W.nsIn K mainGlobals "list" = some none) ∧ (PySem.W.nsIn K mainGlobals "all" = some none) ∧ (PySem.W.nsIn K mainGlobals "min" = some none) ∧ (PySem.W.nsIn K mainGlobals "SlotError" = some (some (.ref (He.ga K "SlotError")))) ∧ (PySem.W.isClsIn K (He.ga K "SlotError") = true) ∧ (PySem.W.hasDictIn K (He.ga K "SlotError") = true) ∧ (PySem.W.typeIn K (.ref (He.ga K "SlotError")) = some (.type "type")) ∧ (PySem.W.subIn K (.ref (He.ga K "SlotError")) (.type "BaseException") = some true) ∧ (PySem.W.specialIn K (.builtin "object.__class__") "__get__" = some (some (.builtin "getset_descriptor.__get__"))) ∧ (PySem.W.takesIn K (.builtin "object.__class__") = some true) ∧ (PySem.W.nsIn K mainGlobals "ValueError" = some none) ∧ (PySem.W.nsIn K mainGlobals "NoJobs" = some (some (.ref (He.ga K "NoJobs")))) := of_decide_eq_true (facV c 37 rfl)
  obtain ⟨iE0, tE0, aE1, iE1, tE1, aE2, iE2, tE2, aE3, iE3, tE3, aE4, iE4, tE4, aE5, iE5, tE5, aE6, iE6, tE6⟩ : (PySem.W.isClsIn K (He.ga K "NoJobs") = true) ∧ (PySem.W.typeIn K (.ref (He.ga K "NoJobs")) = some (.type "type")) ∧ (PySem.W.nsIn K mainGlobals "NoRule" = some (some (.ref (He.ga K "NoRule")))) ∧ (PySem.W.isClsIn K (He.ga K "NoRule") = true) ∧ (PySem.W.typeIn K (.ref (He.ga K "NoRule")) = some (.type "type")) ∧ (PySem.W.nsIn K mainGlobals "NoLengths" = some (some (.ref (He.ga K "NoLengths")))) ∧ (PySem.W.isClsIn K (He.ga K "NoLengths") = true) ∧ (PySem.W.typeIn K (.ref (He.ga K "NoLengths")) = some (.type "type")) ∧ (PySem.W.nsIn K mainGlobals "NoLog" = some (some (.ref (He.ga K "NoLog")))) ∧ (PySem.W.isClsIn K (He.ga K "NoLog") = true) ∧ (PySem.W.typeIn K (.ref (He.ga K "NoLog")) = some (.type "type")) ∧ (PySem.W.nsIn K mainGlobals "NoMarks" = some (some (.ref (He.ga K "NoMarks")))) ∧ (PySem.W.isClsIn K (He.ga K "NoMarks") = true) ∧ (PySem.W.typeIn K (.ref (He.ga K "NoMarks")) = some (.type "type")) ∧ (PySem.W.nsIn K mainGlobals "NoNamed" = some (some (.ref (He.ga K "NoNamed")))) ∧ (PySem.W.isClsIn K (He.ga K "NoNamed") = true) ∧ (PySem.W.typeIn K (.ref (He.ga K "NoNamed")) = some (.type "type")) ∧ (PySem.W.nsIn K mainGlobals "NoOrder" = some (some (.ref (He.ga K "NoOrder")))) ∧ (PySem.W.isClsIn K (He.ga K "NoOrder") = true) ∧ (PySem.W.typeIn K (.ref (He.ga K "NoOrder")) = some (.type "type")) := of_decide_eq_true (facV c 38 rfl)
  obtain ⟨nmx0_, qx0_, Nx0_, bsx0_, snx0_, sbx0_, abx0_, colx0_, ddx0_, m0x0_, m1x0_, m2x0_, m3x0_, m5x0_, x0_⟩ := okX (S := He.ga K "SlotError") (C := He.ga K "NoJobs") (facV c 39 (f := fun K => bX (He.ga K "SlotError") (He.ga K "NoJobs") K) rfl)
  obtain ⟨aE7, iE7, tE7, aE8, iE8, tE8, aE9, iE9, tE9, aE10, iE10, tE10, aE11, iE11, tE11, sa0, ga0, gg0, np0, in0⟩ : (PySem.W.nsIn K mainGlobals "NoText" = some (some (.ref (He.ga K "NoText")))) ∧ (PySem.W.isClsIn K (He.ga K "NoText") = true) ∧ (PySem.W.typeIn K (.ref (He.ga K "NoText")) = some (.type "type")) ∧ (PySem.W.nsIn K mainGlobals "NoNumber" = some (some (.ref (He.ga K "NoNumber")))) ∧ (PySem.W.isClsIn K (He.ga K "NoNumber") = true) ∧ (PySem.W.typeIn K (.ref (He.ga K "NoNumber")) = some (.type "type")) ∧ (PySem.W.nsIn K mainGlobals "NoName" = some (some (.ref (He.ga K "NoName")))) ∧ (PySem.W.isClsIn K (He.ga K "NoName") = true) ∧ (PySem.W.typeIn K (.ref (He.ga K "NoName")) = some (.type "type")) ∧ (PySem.W.nsIn K mainGlobals "NoUndo" = some (some (.ref (He.ga K "NoUndo")))) ∧ (PySem.W.isClsIn K (He.ga K "NoUndo") = true) ∧ (PySem.W.typeIn K (.ref (He.ga K "NoUndo")) = some (.type "type")) ∧ (PySem.W.nsIn K mainGlobals "NoLine" = some (some (.ref (He.ga K "NoLine")))) ∧ (PySem.W.isClsIn K (He.ga K "NoLine") = true) ∧ (PySem.W.typeIn K (.ref (He.ga K "NoLine")) = some (.type "type")) ∧ (PySem.W.findIn K (.ref (He.ga K "NoJobs")) "__setattr__" = some (some (.builtin "object.__setattr__"))) ∧ (PySem.W.findIn K (.ref (He.ga K "NoJobs")) "__getattribute__" = some (some (.builtin "BaseException.__getattribute__"))) ∧ (PySem.W.findIn K (.ref (He.ga K "NoJobs")) "__getattr__" = some none) ∧ (PySem.W.findIn K (.ref (He.ga K "NoJobs")) "place" = some none) ∧ (PySem.W.findIn K (.ref (He.ga K "NoJobs")) "__init__" = some (some (.ref (He.ma K (He.ga K "NoJobs") "__init__")))) := of_decide_eq_true (facV c 40 rfl)
  obtain ⟨ocI0, odI0, slI0, kVI0, dcI0, pmI0, anI0, cdI0, ctI0, li0, ci0⟩ := okM (x := "NoJobs") (m := "__init__") (qn := "NoJobs.__init__") (st := sJobsInit) (defV c 37 rfl) (facV c 41 rfl)
  obtain ⟨ti0, ki0, kc0, ec0, hc0, cc0, mc0, vc0, sc0, s0_1, n0_1, s0_2, n0_2, s0_3, n0_3, s0_4, n0_4, s0_5, n0_5, s0_6⟩ : (PySem.W.typeIn K (.ref (He.ma K (He.ga K "NoJobs") "__init__")) = some (.type "function")) ∧ (PySem.W.keepIn K (.ref (He.ma K (He.ga K "NoJobs") "__init__")) = true) ∧ (PySem.W.keepIn K (.ref (He.ga K "NoJobs")) = true) ∧ (PySem.W.subIn K (.ref (He.ga K "NoJobs")) (.type "BaseException") = some true) ∧ (PySem.W.hasDictIn K (He.ga K "NoJobs") = true) ∧ (PySem.W.findIn K (.ref (He.ga K "NoJobs")) "__class__" = some (some (.builtin "object.__class__"))) ∧ (PySem.W.mroIn K (He.ga K "NoJobs") (.type "object") = some true) ∧ (PySem.W.subIn K (.ref (He.ga K "NoJobs")) (.type "ValueError") = some true) ∧ (PySem.W.subIn K (.ref (He.ga K "NoJobs")) (.ref (He.ga K "SlotError")) = some true) ∧ (PySem.W.subIn K (.ref (He.ga K "NoJobs")) (.ref (He.ga K "NoRule")) = some false) ∧ ((Value.ref (He.ga K "NoJobs") == Value.ref (He.ga K "NoRule")) = false) ∧ (PySem.W.subIn K (.ref (He.ga K "NoJobs")) (.ref (He.ga K "NoLengths")) = some false) ∧ ((Value.ref (He.ga K "NoJobs") == Value.ref (He.ga K "NoLengths")) = false) ∧ (PySem.W.subIn K (.ref (He.ga K "NoJobs")) (.ref (He.ga K "NoLog")) = some false) ∧ ((Value.ref (He.ga K "NoJobs") == Value.ref (He.ga K "NoLog")) = false) ∧ (PySem.W.subIn K (.ref (He.ga K "NoJobs")) (.ref (He.ga K "NoMarks")) = some false) ∧ ((Value.ref (He.ga K "NoJobs") == Value.ref (He.ga K "NoMarks")) = false) ∧ (PySem.W.subIn K (.ref (He.ga K "NoJobs")) (.ref (He.ga K "NoNamed")) = some false) ∧ ((Value.ref (He.ga K "NoJobs") == Value.ref (He.ga K "NoNamed")) = false) ∧ (PySem.W.subIn K (.ref (He.ga K "NoJobs")) (.ref (He.ga K "NoOrder")) = some false) := of_decide_eq_true (facV c 42 rfl)
  obtain ⟨nmx1_, qx1_, Nx1_, bsx1_, snx1_, sbx1_, abx1_, colx1_, ddx1_, m0x1_, m1x1_, m2x1_, m3x1_, m5x1_, x1_⟩ := okX (S := He.ga K "SlotError") (C := He.ga K "NoRule") (facV c 43 (f := fun K => bX (He.ga K "SlotError") (He.ga K "NoRule") K) rfl)
  obtain ⟨ocI1, odI1, slI1, kVI1, dcI1, pmI1, anI1, cdI1, ctI1, li1, ci1⟩ := okM (x := "NoRule") (m := "__init__") (qn := "NoRule.__init__") (st := sRuleInit) (defV c 38 rfl) (facV c 44 rfl)
  obtain ⟨n0_6, s0_7, n0_7, s0_8, n0_8, s0_9, n0_9, s0_10, n0_10, s0_11, n0_11, sa1, ga1, gg1, np1, in1, ti1, ki1, kc1, ec1⟩ : ((Value.ref (He.ga K "NoJobs") == Value.ref (He.ga K "NoOrder")) = false) ∧ (PySem.W.subIn K (.ref (He.ga K "NoJobs")) (.ref (He.ga K "NoText")) = some false) ∧ ((Value.ref (He.ga K "NoJobs") == Value.ref (He.ga K "NoText")) = false) ∧ (PySem.W.subIn K (.ref (He.ga K "NoJobs")) (.ref (He.ga K "NoNumber")) = some false) ∧ ((Value.ref (He.ga K "NoJobs") == Value.ref (He.ga K "NoNumber")) = false) ∧ (PySem.W.subIn K (.ref (He.ga K "NoJobs")) (.ref (He.ga K "NoName")) = some false) ∧ ((Value.ref (He.ga K "NoJobs") == Value.ref (He.ga K "NoName")) = false) ∧ (PySem.W.subIn K (.ref (He.ga K "NoJobs")) (.ref (He.ga K "NoUndo")) = some false) ∧ ((Value.ref (He.ga K "NoJobs") == Value.ref (He.ga K "NoUndo")) = false) ∧ (PySem.W.subIn K (.ref (He.ga K "NoJobs")) (.ref (He.ga K "NoLine")) = some false) ∧ ((Value.ref (He.ga K "NoJobs") == Value.ref (He.ga K "NoLine")) = false) ∧ (PySem.W.findIn K (.ref (He.ga K "NoRule")) "__setattr__" = some (some (.builtin "object.__setattr__"))) ∧ (PySem.W.findIn K (.ref (He.ga K "NoRule")) "__getattribute__" = some (some (.builtin "BaseException.__getattribute__"))) ∧ (PySem.W.findIn K (.ref (He.ga K "NoRule")) "__getattr__" = some none) ∧ (PySem.W.findIn K (.ref (He.ga K "NoRule")) "place" = some none) ∧ (PySem.W.findIn K (.ref (He.ga K "NoRule")) "__init__" = some (some (.ref (He.ma K (He.ga K "NoRule") "__init__")))) ∧ (PySem.W.typeIn K (.ref (He.ma K (He.ga K "NoRule") "__init__")) = some (.type "function")) ∧ (PySem.W.keepIn K (.ref (He.ma K (He.ga K "NoRule") "__init__")) = true) ∧ (PySem.W.keepIn K (.ref (He.ga K "NoRule")) = true) ∧ (PySem.W.subIn K (.ref (He.ga K "NoRule")) (.type "BaseException") = some true) := of_decide_eq_true (facV c 45 rfl)
  obtain ⟨hc1, cc1, mc1, vc1, sc1, s1_0, n1_0, s1_2, n1_2, s1_3, n1_3, s1_4, n1_4, s1_5, n1_5, s1_6, n1_6, s1_7, n1_7, s1_8⟩ : (PySem.W.hasDictIn K (He.ga K "NoRule") = true) ∧ (PySem.W.findIn K (.ref (He.ga K "NoRule")) "__class__" = some (some (.builtin "object.__class__"))) ∧ (PySem.W.mroIn K (He.ga K "NoRule") (.type "object") = some true) ∧ (PySem.W.subIn K (.ref (He.ga K "NoRule")) (.type "ValueError") = some true) ∧ (PySem.W.subIn K (.ref (He.ga K "NoRule")) (.ref (He.ga K "SlotError")) = some true) ∧ (PySem.W.subIn K (.ref (He.ga K "NoRule")) (.ref (He.ga K "NoJobs")) = some false) ∧ ((Value.ref (He.ga K "NoRule") == Value.ref (He.ga K "NoJobs")) = false) ∧ (PySem.W.subIn K (.ref (He.ga K "NoRule")) (.ref (He.ga K "NoLengths")) = some false) ∧ ((Value.ref (He.ga K "NoRule") == Value.ref (He.ga K "NoLengths")) = false) ∧ (PySem.W.subIn K (.ref (He.ga K "NoRule")) (.ref (He.ga K "NoLog")) = some false) ∧ ((Value.ref (He.ga K "NoRule") == Value.ref (He.ga K "NoLog")) = false) ∧ (PySem.W.subIn K (.ref (He.ga K "NoRule")) (.ref (He.ga K "NoMarks")) = some false) ∧ ((Value.ref (He.ga K "NoRule") == Value.ref (He.ga K "NoMarks")) = false) ∧ (PySem.W.subIn K (.ref (He.ga K "NoRule")) (.ref (He.ga K "NoNamed")) = some false) ∧ ((Value.ref (He.ga K "NoRule") == Value.ref (He.ga K "NoNamed")) = false) ∧ (PySem.W.subIn K (.ref (He.ga K "NoRule")) (.ref (He.ga K "NoOrder")) = some false) ∧ ((Value.ref (He.ga K "NoRule") == Value.ref (He.ga K "NoOrder")) = false) ∧ (PySem.W.subIn K (.ref (He.ga K "NoRule")) (.ref (He.ga K "NoText")) = some false) ∧ ((Value.ref (He.ga K "NoRule") == Value.ref (He.ga K "NoText")) = false) ∧ (PySem.W.subIn K (.ref (He.ga K "NoRule")) (.ref (He.ga K "NoNumber")) = some false) := of_decide_eq_true (facV c 46 rfl)
  obtain ⟨nmx3_, qx3_, Nx3_, bsx3_, snx3_, sbx3_, abx3_, colx3_, ddx3_, m0x3_, m1x3_, m2x3_, m3x3_, m5x3_, x3_⟩ := okX (S := He.ga K "SlotError") (C := He.ga K "NoLog") (facV c 47 (f := fun K => bX (He.ga K "SlotError") (He.ga K "NoLog") K) rfl)
  obtain ⟨ocI3, odI3, slI3, kVI3, dcI3, pmI3, anI3, cdI3, ctI3, li3, ci3⟩ := okM (x := "NoLog") (m := "__init__") (qn := "NoLog.__init__") (st := sLogInit) (defV c 39 rfl) (facV c 48 rfl)
  obtain ⟨n1_8, s1_9, n1_9, s1_10, n1_10, s1_11, n1_11, sa3, ga3, gg3, np3, in3, ti3, ki3, kc3, ec3, hc3, cc3, mc3, vc3⟩ : ((Value.ref (He.ga K "NoRule") == Value.ref (He.ga K "NoNumber")) = false) ∧ (PySem.W.subIn K (.ref (He.ga K "NoRule")) (.ref (He.ga K "NoName")) = some false) ∧ ((Value.ref (He.ga K "NoRule") == Value.ref (He.ga K "NoName")) = false) ∧ (PySem.W.subIn K (.ref (He.ga K "NoRule")) (.ref (He.ga K "NoUndo")) = some false) ∧ ((Value.ref (He.ga K "NoRule") == Value.ref (He.ga K "NoUndo")) = false) ∧ (PySem.W.subIn K (.ref (He.ga K "NoRule")) (.ref (He.ga K "NoLine")) = some false) ∧ ((Value.ref (He.ga K "NoRule") == Value.ref (He.ga K "NoLine")) = false) ∧ (PySem.W.findIn K (.ref (He.ga K "NoLog")) "__setattr__" = some (some (.builtin "object.__setattr__"))) ∧ (PySem.W.findIn K (.ref (He.ga K "NoLog")) "__getattribute__" = some (some (.builtin "BaseException.__getattribute__"))) ∧ (PySem.W.findIn K (.ref (He.ga K "NoLog")) "__getattr__" = some none) ∧ (PySem.W.findIn K (.ref (He.ga K "NoLog")) "place" = some none) ∧ (PySem.W.findIn K (.ref (He.ga K "NoLog")) "__init__" = some (some (.ref (He.ma K (He.ga K "NoLog") "__init__")))) ∧ (PySem.W.typeIn K (.ref (He.ma K (He.ga K "NoLog") "__init__")) = some (.type "function")) ∧ (PySem.W.keepIn K (.ref (He.ma K (He.ga K "NoLog") "__init__")) = true) ∧ (PySem.W.keepIn K (.ref (He.ga K "NoLog")) = true) ∧ (PySem.W.subIn K (.ref (He.ga K "NoLog")) (.type "BaseException") = some true) ∧ (PySem.W.hasDictIn K (He.ga K "NoLog") = true) ∧ (PySem.W.findIn K (.ref (He.ga K "NoLog")) "__class__" = some (some (.builtin "object.__class__"))) ∧ (PySem.W.mroIn K (He.ga K "NoLog") (.type "object") = some true) ∧ (PySem.W.subIn K (.ref (He.ga K "NoLog")) (.type "ValueError") = some true) := of_decide_eq_true (facV c 49 rfl)
  obtain ⟨sc3, s3_0, n3_0, s3_1, n3_1, s3_2, n3_2, s3_4, n3_4, s3_5, n3_5, s3_6, n3_6, s3_7, n3_7, s3_8, n3_8, s3_9, n3_9, s3_10⟩ : (PySem.W.subIn K (.ref (He.ga K "NoLog")) (.ref (He.ga K "SlotError")) = some true) ∧ (PySem.W.subIn K (.ref (He.ga K "NoLog")) (.ref (He.ga K "NoJobs")) = some false) ∧ ((Value.ref (He.ga K "NoLog") == Value.ref (He.ga K "NoJobs")) = false) ∧ (PySem.W.subIn K (.ref (He.ga K "NoLog")) (.ref (He.ga K "NoRule")) = some false) ∧ ((Value.ref (He.ga K "NoLog") == Value.ref (He.ga K "NoRule")) = false) ∧ (PySem.W.subIn K (.ref (He.ga K "NoLog")) (.ref (He.ga K "NoLengths")) = some false) ∧ ((Value.ref (He.ga K "NoLog") == Value.ref (He.ga K "NoLengths")) = false) ∧ (PySem.W.subIn K (.ref (He.ga K "NoLog")) (.ref (He.ga K "NoMarks")) = some false) ∧ ((Value.ref (He.ga K "NoLog") == Value.ref (He.ga K "NoMarks")) = false) ∧ (PySem.W.subIn K (.ref (He.ga K "NoLog")) (.ref (He.ga K "NoNamed")) = some false) ∧ ((Value.ref (He.ga K "NoLog") == Value.ref (He.ga K "NoNamed")) = false) ∧ (PySem.W.subIn K (.ref (He.ga K "NoLog")) (.ref (He.ga K "NoOrder")) = some false) ∧ ((Value.ref (He.ga K "NoLog") == Value.ref (He.ga K "NoOrder")) = false) ∧ (PySem.W.subIn K (.ref (He.ga K "NoLog")) (.ref (He.ga K "NoText")) = some false) ∧ ((Value.ref (He.ga K "NoLog") == Value.ref (He.ga K "NoText")) = false) ∧ (PySem.W.subIn K (.ref (He.ga K "NoLog")) (.ref (He.ga K "NoNumber")) = some false) ∧ ((Value.ref (He.ga K "NoLog") == Value.ref (He.ga K "NoNumber")) = false) ∧ (PySem.W.subIn K (.ref (He.ga K "NoLog")) (.ref (He.ga K "NoName")) = some false) ∧ ((Value.ref (He.ga K "NoLog") == Value.ref (He.ga K "NoName")) = false) ∧ (PySem.W.subIn K (.ref (He.ga K "NoLog")) (.ref (He.ga K "NoUndo")) = some false) := of_decide_eq_true (facV c 50 rfl)
  obtain ⟨nmx4_, qx4_, Nx4_, bsx4_, snx4_, sbx4_, abx4_, colx4_, ddx4_, m0x4_, m1x4_, m2x4_, m3x4_, m5x4_, x4_⟩ := okX (S := He.ga K "SlotError") (C := He.ga K "NoMarks") (facV c 51 (f := fun K => bX (He.ga K "SlotError") (He.ga K "NoMarks") K) rfl)
  obtain ⟨ocI4, odI4, slI4, kVI4, dcI4, pmI4, anI4, cdI4, ctI4, li4, ci4⟩ := okM (x := "NoMarks") (m := "__init__") (qn := "NoMarks.__init__") (st := sMarksInit) (defV c 40 rfl) (facV c 52 rfl)
  obtain ⟨n3_10, s3_11, n3_11, sa4, ga4, gg4, np4, in4, ti4, ki4, kc4, ec4, hc4, cc4, mc4, vc4, sc4, s4_0, n4_0, s4_1⟩ : ((Value.ref (He.ga K "NoLog") == Value.ref (He.ga K "NoUndo")) = false) ∧ (PySem.W.subIn K (.ref (He.ga K "NoLog")) (.ref (He.ga K "NoLine")) = some false) ∧ ((Value.ref (He.ga K "NoLog") == Value.ref (He.ga K "NoLine")) = false) ∧ (PySem.W.findIn K (.ref (He.ga K "NoMarks")) "__setattr__" = some (some (.builtin "object.__setattr__"))) ∧ (PySem.W.findIn K (.ref (He.ga K "NoMarks")) "__getattribute__" = some (some (.builtin "BaseException.__getattribute__"))) ∧ (PySem.W.findIn K (.ref (He.ga K "NoMarks")) "__getattr__" = some none) ∧ (PySem.W.findIn K (.ref (He.ga K "NoMarks")) "place" = some none) ∧ (PySem.W.findIn K (.ref (He.ga K "NoMarks")) "__init__" = some (some (.ref (He.ma K (He.ga K "NoMarks") "__init__")))) ∧ (PySem.W.typeIn K (.ref (He.ma K (He.ga K "NoMarks") "__init__")) = some (.type "function")) ∧ (PySem.W.keepIn K (.ref (He.ma K (He.ga K "NoMarks") "__init__")) = true) ∧ (PySem.W.keepIn K (.ref (He.ga K "NoMarks")) = true) ∧ (PySem.W.subIn K (.ref (He.ga K "NoMarks")) (.type "BaseException") = some true) ∧ (PySem.W.hasDictIn K (He.ga K "NoMarks") = true) ∧ (PySem.W.findIn K (.ref (He.ga K "NoMarks")) "__class__" = some (some (.builtin "object.__class__"))) ∧ (PySem.W.mroIn K (He.ga K "NoMarks") (.type "object") = some true) ∧ (PySem.W.subIn K (.ref (He.ga K "NoMarks")) (.type "ValueError") = some true) ∧ (PySem.W.subIn K (.ref (He.ga K "NoMarks")) (.ref (He.ga K "SlotError")) = some true) ∧ (PySem.W.subIn K (.ref (He.ga K "NoMarks")) (.ref (He.ga K "NoJobs")) = some false) ∧ ((Value.ref (He.ga K "NoMarks") == Value.ref (He.ga K "NoJobs")) = false) ∧ (PySem.W.subIn K (.ref (He.ga K "NoMarks")) (.ref (He.ga K "NoRule")) = some false) := of_decide_eq_true (facV c 53 rfl)
  obtain ⟨nmx5_, qx5_, Nx5_, bsx5_, snx5_, sbx5_, abx5_, colx5_, ddx5_, m0x5_, m1x5_, m2x5_, m3x5_, m5x5_, x5_⟩ := okX (S := He.ga K "SlotError") (C := He.ga K "NoNamed") (facV c 54 (f := fun K => bX (He.ga K "SlotError") (He.ga K "NoNamed") K) rfl)
  obtain ⟨n4_1, s4_2, n4_2, s4_3, n4_3, s4_5, n4_5, s4_6, n4_6, s4_7, n4_7, s4_8, n4_8, s4_9, n4_9, s4_10, n4_10, s4_11, n4_11, sa5⟩ : ((Value.ref (He.ga K "NoMarks") == Value.ref (He.ga K "NoRule")) = false) ∧ (PySem.W.subIn K (.ref (He.ga K "NoMarks")) (.ref (He.ga K "NoLengths")) = some false) ∧ ((Value.ref (He.ga K "NoMarks") == Value.ref (He.ga K "NoLengths")) = false) ∧ (PySem.W.subIn K (.ref (He.ga K "NoMarks")) (.ref (He.ga K "NoLog")) = some false) ∧ ((Value.ref (He.ga K "NoMarks") == Value.ref (He.ga K "NoLog")) = false) ∧ (PySem.W.subIn K (.ref (He.ga K "NoMarks")) (.ref (He.ga K "NoNamed")) = some false) ∧ ((Value.ref (He.ga K "NoMarks") == Value.ref (He.ga K "NoNamed")) = false) ∧ (PySem.W.subIn K (.ref (He.ga K "NoMarks")) (.ref (He.ga K "NoOrder")) = some false) ∧ ((Value.ref (He.ga K "NoMarks") == Value.ref (He.ga K "NoOrder")) = false) ∧ (PySem.W.subIn K (.ref (He.ga K "NoMarks")) (.ref (He.ga K "NoText")) = some false) ∧ ((Value.ref (He.ga K "NoMarks") == Value.ref (He.ga K "NoText")) = false) ∧ (PySem.W.subIn K (.ref (He.ga K "NoMarks")) (.ref (He.ga K "NoNumber")) = some false) ∧ ((Value.ref (He.ga K "NoMarks") == Value.ref (He.ga K "NoNumber")) = false) ∧ (PySem.W.subIn K (.ref (He.ga K "NoMarks")) (.ref (He.ga K "NoName")) = some false) ∧ ((Value.ref (He.ga K "NoMarks") == Value.ref (He.ga K "NoName")) = false) ∧ (PySem.W.subIn K (.ref (He.ga K "NoMarks")) (.ref (He.ga K "NoUndo")) = some false) ∧ ((Value.ref (He.ga K "NoMarks") == Value.ref (He.ga K "NoUndo")) = false) ∧ (PySem.W.subIn K (.ref (He.ga K "NoMarks")) (.ref (He.ga K "NoLine")) = some false) ∧ ((Value.ref (He.ga K "NoMarks") == Value.ref (He.ga K "NoLine")) = false) ∧ (PySem.W.findIn K (.ref (He.ga K "NoNamed")) "__setattr__" = some (some (.builtin "object.__setattr__"))) := of_decide_eq_true (facV c 55 rfl)
  obtain ⟨ocI5, odI5, slI5, kVI5, dcI5, pmI5, anI5, cdI5, ctI5, li5, ci5⟩ := okM (x := "NoNamed") (m := "__init__") (qn := "NoNamed.__init__") (st := sNamedInit) (defV c 41 rfl) (facV c 56 rfl)
  obtain ⟨ga5, gg5, np5, in5, ti5, ki5, kc5, ec5, hc5, cc5, mc5, vc5, sc5, s5_0, n5_0, s5_1, n5_1, s5_2, n5_2, s5_3⟩ : (PySem.W.findIn K (.ref (He.ga K "NoNamed")) "__getattribute__" = some (some (.builtin "BaseException.__getattribute__"))) ∧ (PySem.W.findIn K (.ref (He.ga K "NoNamed")) "__getattr__" = some none) ∧ (PySem.W.findIn K (.ref (He.ga K "NoNamed")) "place" = some none) ∧ (PySem.W.findIn K (.ref (He.ga K "NoNamed")) "__init__" = some (some (.ref (He.ma K (He.ga K "NoNamed") "__init__")))) ∧ (PySem.W.typeIn K (.ref (He.ma K (He.ga K "NoNamed") "__init__")) = some (.type "function")) ∧ (PySem.W.keepIn K (.ref (He.ma K (He.ga K "NoNamed") "__init__")) = true) ∧ (PySem.W.keepIn K (.ref (He.ga K "NoNamed")) = true) ∧ (PySem.W.subIn K (.ref (He.ga K "NoNamed")) (.type "BaseException") = some true) ∧ (PySem.W.hasDictIn K (He.ga K "NoNamed") = true) ∧ (PySem.W.findIn K (.ref (He.ga K "NoNamed")) "__class__" = some (some (.builtin "object.__class__"))) ∧ (PySem.W.mroIn K (He.ga K "NoNamed") (.type "object") = some true) ∧ (PySem.W.subIn K (.ref (He.ga K "NoNamed")) (.type "ValueError") = some true) ∧ (PySem.W.subIn K (.ref (He.ga K "NoNamed")) (.ref (He.ga K "SlotError")) = some true) ∧ (PySem.W.subIn K (.ref (He.ga K "NoNamed")) (.ref (He.ga K "NoJobs")) = some false) ∧ ((Value.ref (He.ga K "NoNamed") == Value.ref (He.ga K "NoJobs")) = false) ∧ (PySem.W.subIn K (.ref (He.ga K "NoNamed")) (.ref (He.ga K "NoRule")) = some false) ∧ ((Value.ref (He.ga K "NoNamed") == Value.ref (He.ga K "NoRule")) = false) ∧ (PySem.W.subIn K (.ref (He.ga K "NoNamed")) (.ref (He.ga K "NoLengths")) = some false) ∧ ((Value.ref (He.ga K "NoNamed") == Value.ref (He.ga K "NoLengths")) = false) ∧ (PySem.W.subIn K (.ref (He.ga K "NoNamed")) (.ref (He.ga K "NoLog")) = some false) := of_decide_eq_true (facV c 57 rfl)
  obtain ⟨nmx8_, qx8_, Nx8_, bsx8_, snx8_, sbx8_, abx8_, colx8_, ddx8_, m0x8_, m1x8_, m2x8_, m3x8_, m5x8_, x8_⟩ := okX (S := He.ga K "SlotError") (C := He.ga K "NoNumber") (facV c 58 (f := fun K => bX (He.ga K "SlotError") (He.ga K "NoNumber") K) rfl)
  obtain ⟨n5_3, s5_4, n5_4, s5_6, n5_6, s5_7, n5_7, s5_8, n5_8, s5_9, n5_9, s5_10, n5_10, s5_11, n5_11, sa8, ga8, gg8, np8, npp8⟩ : ((Value.ref (He.ga K "NoNamed") == Value.ref (He.ga K "NoLog")) = false) ∧ (PySem.W.subIn K (.ref (He.ga K "NoNamed")) (.ref (He.ga K "NoMarks")) = some false) ∧ ((Value.ref (He.ga K "NoNamed") == Value.ref (He.ga K "NoMarks")) = false) ∧ (PySem.W.subIn K (.ref (He.ga K "NoNamed")) (.ref (He.ga K "NoOrder")) = some false) ∧ ((Value.ref (He.ga K "NoNamed") == Value.ref (He.ga K "NoOrder")) = false) ∧ (PySem.W.subIn K (.ref (He.ga K "NoNamed")) (.ref (He.ga K "NoText")) = some false) ∧ ((Value.ref (He.ga K "NoNamed") == Value.ref (He.ga K "NoText")) = false) ∧ (PySem.W.subIn K (.ref (He.ga K "NoNamed")) (.ref (He.ga K "NoNumber")) = some false) ∧ ((Value.ref (He.ga K "NoNamed") == Value.ref (He.ga K "NoNumber")) = false) ∧ (PySem.W.subIn K (.ref (He.ga K "NoNamed")) (.ref (He.ga K "NoName")) = some false) ∧ ((Value.ref (He.ga K "NoNamed") == Value.ref (He.ga K "NoName")) = false) ∧ (PySem.W.subIn K (.ref (He.ga K "NoNamed")) (.ref (He.ga K "NoUndo")) = some false) ∧ ((Value.ref (He.ga K "NoNamed") == Value.ref (He.ga K "NoUndo")) = false) ∧ (PySem.W.subIn K (.ref (He.ga K "NoNamed")) (.ref (He.ga K "NoLine")) = some false) ∧ ((Value.ref (He.ga K "NoNamed") == Value.ref (He.ga K "NoLine")) = false) ∧ (PySem.W.findIn K (.ref (He.ga K "NoNumber")) "__setattr__" = some (some (.builtin "object.__setattr__"))) ∧ (PySem.W.findIn K (.ref (He.ga K "NoNumber")) "__getattribute__" = some (some (.builtin "BaseException.__getattribute__"))) ∧ (PySem.W.findIn K (.ref (He.ga K "NoNumber")) "__getattr__" = some none) ∧ (PySem.W.findIn K (.ref (He.ga K "NoNumber")) "number" = some none) ∧ (PySem.W.findIn K (.ref (He.ga K "NoNumber")) "place" = some none) := of_decide_eq_true (facV c 59 rfl)
  obtain ⟨ocI8, odI8, slI8, kVI8, dcI8, pmI8, anI8, cdI8, ctI8, li8, ci8⟩ := okM (x := "NoNumber") (m := "__init__") (qn := "NoNumber.__init__") (st := sNumberInit) (defV c 42 rfl) (facV c 60 rfl)
  obtain ⟨in8, ti8, ki8, kc8, ec8, hc8, cc8, mc8, vc8, sc8, s8_0, n8_0, s8_1, n8_1, s8_2, n8_2, s8_3, n8_3, s8_4, n8_4⟩ : (PySem.W.findIn K (.ref (He.ga K "NoNumber")) "__init__" = some (some (.ref (He.ma K (He.ga K "NoNumber") "__init__")))) ∧ (PySem.W.typeIn K (.ref (He.ma K (He.ga K "NoNumber") "__init__")) = some (.type "function")) ∧ (PySem.W.keepIn K (.ref (He.ma K (He.ga K "NoNumber") "__init__")) = true) ∧ (PySem.W.keepIn K (.ref (He.ga K "NoNumber")) = true) ∧ (PySem.W.subIn K (.ref (He.ga K "NoNumber")) (.type "BaseException") = some true) ∧ (PySem.W.hasDictIn K (He.ga K "NoNumber") = true) ∧ (PySem.W.findIn K (.ref (He.ga K "NoNumber")) "__class__" = some (some (.builtin "object.__class__"))) ∧ (PySem.W.mroIn K (He.ga K "NoNumber") (.type "object") = some true) ∧ (PySem.W.subIn K (.ref (He.ga K "NoNumber")) (.type "ValueError") = some true) ∧ (PySem.W.subIn K (.ref (He.ga K "NoNumber")) (.ref (He.ga K "SlotError")) = some true) ∧ (PySem.W.subIn K (.ref (He.ga K "NoNumber")) (.ref (He.ga K "NoJobs")) = some false) ∧ ((Value.ref (He.ga K "NoNumber") == Value.ref (He.ga K "NoJobs")) = false) ∧ (PySem.W.subIn K (.ref (He.ga K "NoNumber")) (.ref (He.ga K "NoRule")) = some false) ∧ ((Value.ref (He.ga K "NoNumber") == Value.ref (He.ga K "NoRule")) = false) ∧ (PySem.W.subIn K (.ref (He.ga K "NoNumber")) (.ref (He.ga K "NoLengths")) = some false) ∧ ((Value.ref (He.ga K "NoNumber") == Value.ref (He.ga K "NoLengths")) = false) ∧ (PySem.W.subIn K (.ref (He.ga K "NoNumber")) (.ref (He.ga K "NoLog")) = some false) ∧ ((Value.ref (He.ga K "NoNumber") == Value.ref (He.ga K "NoLog")) = false) ∧ (PySem.W.subIn K (.ref (He.ga K "NoNumber")) (.ref (He.ga K "NoMarks")) = some false) ∧ ((Value.ref (He.ga K "NoNumber") == Value.ref (He.ga K "NoMarks")) = false) := of_decide_eq_true (facV c 61 rfl)
  obtain ⟨ocF, odF, slF, DF, dcF, pmF, anF, cdF, ctF, tF, aF, lF, cF, kF, nF⟩ := okK (x := "first_fault") (y := "processors") (st := sFirst) (defV c 43 rfl) (facV c 62 rfl)
  obtain ⟨ocW, odW, slW, DW, dcW, pmW, anW, cdW, ctW, tW, aW, lW, cW, kW, nW⟩ := okK (x := "ways") (y := "processors") (st := sWays) (defV c 44 rfl) (facV c 63 rfl)
  obtain ⟨ocH, odH, slH, DH, dcH, pmH, anH, cdH, ctH, tH, aH, lH, cH, kH, nH⟩ := okK (x := "nth_lengths") (y := "processors") (st := sNth) (defV c 45 rfl) (facV c 64 rfl)
  obtain ⟨ocO, odO, slO, DO, dcO, pmO, anO, cdO, ctO, tO, aO, lO, cO, kO, nO⟩ := okK (x := "lengths_of") (y := "processors") (st := sLengthsOf) (defV c 46 rfl) (facV c 65 rfl)
  obtain ⟨ocM, odM, slM, DM, dcM, pmM, anM, cdM, ctM, tM, aM, lM, cM, kM, nM⟩ := okK (x := "lengths_from_names") (y := "processors") (st := sFromNames) (defV c 47 rfl) (facV c 66 rfl)
  obtain ⟨ocT, odT, slT, DT, dcT, pmT, anT, cdT, ctT, tT, aT, lT, cT, kT, nT⟩ := okK (x := "parting") (y := "processors") (st := sParting) (defV c 48 rfl) (facV c 67 rfl)
  obtain ⟨taML, aML⟩ := okI (x := "MOST_LEVELS") (i := 6) (facV c 68 rfl)
  obtain ⟨ocN, odN, slN, kVN, dcN, pmN, anN, ctN, cN, PN, eN, ddN, vsN, scN, aN, lN, cNf, kNf, hcN, hvN, nPN⟩ := okN (x := "is_name") (st := sName) (defV c 49 rfl) (facV c 69 rfl)
  obtain ⟨s8_5, n8_5, s8_6, n8_6, s8_7, n8_7, s8_9, n8_9, s8_10, n8_10, s8_11, n8_11⟩ : (PySem.W.subIn K (.ref (He.ga K "NoNumber")) (.ref (He.ga K "NoNamed")) = some false) ∧ ((Value.ref (He.ga K "NoNumber") == Value.ref (He.ga K "NoNamed")) = false) ∧ (PySem.W.subIn K (.ref (He.ga K "NoNumber")) (.ref (He.ga K "NoOrder")) = some false) ∧ ((Value.ref (He.ga K "NoNumber") == Value.ref (He.ga K "NoOrder")) = false) ∧ (PySem.W.subIn K (.ref (He.ga K "NoNumber")) (.ref (He.ga K "NoText")) = some false) ∧ ((Value.ref (He.ga K "NoNumber") == Value.ref (He.ga K "NoText")) = false) ∧ (PySem.W.subIn K (.ref (He.ga K "NoNumber")) (.ref (He.ga K "NoName")) = some false) ∧ ((Value.ref (He.ga K "NoNumber") == Value.ref (He.ga K "NoName")) = false) ∧ (PySem.W.subIn K (.ref (He.ga K "NoNumber")) (.ref (He.ga K "NoUndo")) = some false) ∧ ((Value.ref (He.ga K "NoNumber") == Value.ref (He.ga K "NoUndo")) = false) ∧ (PySem.W.subIn K (.ref (He.ga K "NoNumber")) (.ref (He.ga K "NoLine")) = some false) ∧ ((Value.ref (He.ga K "NoNumber") == Value.ref (He.ga K "NoLine")) = false) := of_decide_eq_true (facV c 70 rfl)
  exact all_mk X G hfa a0 l0 c0 k0 a1 l1 c1 k1 a2 l2 c2 k2 a3 l3 c3 k3 a4 l4 c4 k4 a5 l5 c5 k5 a6 l6 c6 k6 a7 l7 c7 k7 a8 l8 c8 k8 a9 l9 c9 k9 a10 l10 c10 k10 a11 l11 c11 k11 a12 l12 c12 k12 a13 l13 c13 k13 a14 l14 c14 k14 a15 l15 c15 k15 a16 l16 c16 k16 a17 l17 c17 k17 a18 l18 c18 k18 a19 l19 c19 k19 a20 l20 c20 k20 a21 l21 c21 k21 a22 l22 c22 k22 a23 l23 c23 k23 a24 l24 c24 k24 a25 l25 c25 k25 a26 l26 c26 k26 a27 l27 c27 k27 a28 l28 c28 k28 a29 l29 c29 k29 a30 l30 c30 k30 a31 l31 c31 k31 a32 l32 c32 k32 a33 l33 c33 k33 a34 l34 c34 k34 a35 l35 c35 k35 a36 l36 c36 k36 z_len z_isinstance z_int z_bool z_tuple z_str z_range z_enumerate z_list z_all z_min aS iS hS tS eS spG tkG zVE aE0 iE0 tE0 aE1 iE1 tE1 aE2 iE2 tE2 aE3 iE3 tE3 aE4 iE4 tE4 aE5 iE5 tE5 aE6 iE6 tE6 aE7 iE7 tE7 aE8 iE8 tE8 aE9 iE9 tE9 aE10 iE10 tE10 aE11 iE11 tE11 x0_ sa0 ga0 gg0 np0 in0 ti0 li0 ci0 ki0 kc0 ec0 hc0 cc0 mc0 vc0 sc0 s0_1 n0_1 s0_2 n0_2 s0_3 n0_3 s0_4 n0_4 s0_5 n0_5 s0_6 n0_6 s0_7 n0_7 s0_8 n0_8 s0_9 n0_9 s0_10 n0_10 s0_11 n0_11 x1_ sa1 ga1 gg1 np1 in1 ti1 li1 ci1 ki1 kc1 ec1 hc1 cc1 mc1 vc1 sc1 s1_0 n1_0 s1_2 n1_2 s1_3 n1_3 s1_4 n1_4 s1_5 n1_5 s1_6 n1_6 s1_7 n1_7 s1_8 n1_8 s1_9 n1_9 s1_10 n1_10 s1_11 n1_11 x3_ sa3 ga3 gg3 np3 in3 ti3 li3 ci3 ki3 kc3 ec3 hc3 cc3 mc3 vc3 sc3 s3_0 n3_0 s3_1 n3_1 s3_2 n3_2 s3_4 n3_4 s3_5 n3_5 s3_6 n3_6 s3_7 n3_7 s3_8 n3_8 s3_9 n3_9 s3_10 n3_10 s3_11 n3_11 x4_ sa4 ga4 gg4 np4 in4 ti4 li4 ci4 ki4 kc4 ec4 hc4 cc4 mc4 vc4 sc4 s4_0 n4_0 s4_1 n4_1 s4_2 n4_2 s4_3 n4_3 s4_5 n4_5 s4_6 n4_6 s4_7 n4_7 s4_8 n4_8 s4_9 n4_9 s4_10 n4_10 s4_11 n4_11 x5_ sa5 ga5 gg5 np5 in5 ti5 li5 ci5 ki5 kc5 ec5 hc5 cc5 mc5 vc5 sc5 s5_0 n5_0 s5_1 n5_1 s5_2 n5_2 s5_3 n5_3 s5_4 n5_4 s5_6 n5_6 s5_7 n5_7 s5_8 n5_8 s5_9 n5_9 s5_10 n5_10 s5_11 n5_11 x8_ sa8 ga8 gg8 np8 npp8 in8 ti8 li8 ci8 ki8 kc8 ec8 hc8 cc8 mc8 vc8 sc8 s8_0 n8_0 s8_1 n8_1 s8_2 n8_2 s8_3 n8_3 s8_4 n8_4 s8_5 n8_5 s8_6 n8_6 s8_7 n8_7 s8_9 n8_9 s8_10 n8_10 s8_11 n8_11 aF lF cF kF nF aW lW cW kW nW aH lH cH kH nH aO lO cO kO nO aM lM cM kM nM aT lT cT kT nT aML aN lN cNf kNf hcN hvN nPN
theorem walkV {l : PySem.W.OpenLaw} {q : Program} {loose : List Str} {XP : (Str → Option Value) → Heap → Prop} {YP : World → Heap → Prop} {d dN : DefRec} (hn : l.most = some 63) (hdf : d.params.defaults = []) (hnm : d.name = ("law" : Str))
    (hrec : (recsOf q).find? (fun e => e.name == ("is_name" : Str)) = some dN)
    (F : ∀ (w : World) (mg : Str → Option Value) (fa : Addr) (h : Heap), YP w h → h.Ns mainGlobals mg → mg ("law" : Str) = some (.ref fa) → ∃ K : PySem.W.Frag, K.In h ∧ LawTab l w K mg fa) :
    PySem.W.WalkO q loose XP YP l.row.toRowW d [] (fun f vs => PySem.call f vs) := by
  refine Att.attach_callB hn hdf fun w s₀ s₁ mg mb fa o pm cd doc a vs ns G Y ho hd hcd hmg hobj hints hlen hbits hg => ?_
  rw [hnm] at hmg
  obtain ⟨K, KX, fd, c, P, ht, nl, hb, hF⟩ := F w mg fa _ Y G.T.g hmg
  obtain ⟨hC, hP⟩ := PySem.W.tab_of G.T KX hrec ht
  have one : ∀ {C : Addr × Addr → Prop}, C (c, P) → ∀ p ∈ [(c, P)], C p := fun h p hp => by
    rw [List.mem_singleton.mp hp]
    exact h
  exact LamX.law_callTs (k := 10) (cs := [(c, P)]) (sp := spLaw K P) (CX := CX0) KX G.T.g G.T.b G.T.builtins G.T.nolimit hg (one hP) (one nl) (one hC) G.T.bmain hobj hints (Nat.le_trans hlen (by decide)) ⟨rfl, by decide, by decide⟩
    (fun base i n t => let z := t (c, P) (List.mem_singleton.mpr rfl); hF base i n ⟨z.code, z.bm, z.gP⟩) hb (fun H hH hS => ⟨a, ns, rfl, hS, hlen, ⟨#[], hH (c, P) (List.mem_singleton.mpr rfl), by simp [TriplesOk]⟩, fun _ => rfl⟩) (fun _ _ _ z => z)
end Vk
open PySem PySem.W PyProof.Rows in
set_option maxRecDepth 100000 in
set_option maxHeartbeats 0 in
theorem PySem.Challenge.cw_blindslots_k47_errors_of_every_other_fun_holds : PySem.Challenge.rw_blindslots_k47_errors_of_every_other_fun.Holds := by
  w_on; o_law
  refine HandSHeadRun.head_imp (r := Vk.RV) (q := Vk.qV) (H := Vk.hV) (ob := Vk.obV) (M := 30000) (loose := Vk.nmV) (d := HandSHeadRun.topDef Vk.RV.prog 92) (kwd := []) Vk.obV_eq Vk.runV (by kernel_rfl) (by kernel_rfl) (by kernel_rfl) (by rfl) (by first | assumption | decide +kernel) (by decide +kernel) ⟨rfl, rfl, rfl, rfl, rfl, by decide +kernel⟩ ?hw ?hc
  case hw => w_witness2
  case hc =>
    refine Vk.walkV (l := PySem.Challenge.rw_blindslots_k47_errors_of_every_other_fun) rfl (by kernel_rfl) (by kernel_rfl) (dN := HandSHeadRun.topDef Vk.RV.prog 22) (by kernel_rfl)  ?_
    intro w mg fa h Y G hmg
    obtain ⟨K, KX, c⟩ := Y
    exact ⟨K, KX, Vk.factsV KX G hmg c⟩
