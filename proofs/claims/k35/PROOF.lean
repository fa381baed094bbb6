import PyProof.Rows.All
import Wide.All
import OpenK.AllK
import Wide.FinOn
import HandS.ForMost
import HandS.Exc
import HandS.TryOnly
import HandS.ExcOwn
import HandS.WordsExc
import HandS.Codes
import HandS.IsInst
import HandS.Walk
import HandS.AnyAll
import HandS.Head3
import HandS.HeadHook4
import KE.KExcIs
import HandS.ExcInit
import HandS.ExcField
import HandS.ExcIs
import HandS.SetFor
import KE.GoesEnum
import PyProof.EqAt
import PyProof.NeKinds
import HandS.TupAny
import HandS.TupMul
import HandS.Defaults
import KE.KMathGC
import HandS.Conv
import HandS.Iter
import HandS.Style
import KE.KDictPairs
import HandS.Flow
import KE.LtData
import HandS.Zip
import KE.KStateDown
import HandS.EndTab
import HandS.EndBits
import PySem.Challenge.RW_blindslots_k35_long_logs_numbered
set_option Elab.async false
set_option linter.all false
set_option maxRecDepth 100000
set_option maxHeartbeats 8000000
set_option maxHeartbeats 4000000
/-! what every text of ours needs: a def as it stands, its call, the drawing store -/
namespace Vk
open PySem PySem.Spec PyProof.Rows L2
/-- a def of the module's top -/
structure Df (K : PySem.W.Frag) (mg : Str → Option Value) (x : Str) (st : Stmt) (ps : List Str) : Prop where
  ex : ∃ f fd, mg x = some (.ref f) ∧ Fun K x x st f fd ∧ Binds K fd ps []
/-- its promise -/
structure Cl (P : Program) (w : World) (K : PySem.W.Frag) (mg : Str → Option Value) (base : Heap) (CX : CXT) (k : Nat) (x : Str) (ps : List Str) (sp : Sp) : Prop where
  ex : ∃ f fd, mg x = some (.ref f) ∧ PySem.W.keepIn K (.ref f) = true ∧ Binds K fd ps [] ∧ FnOk P w K mg base CX k f fd ps sp
section
variable {P : Program} {w : World} {K : PySem.W.Frag} {mg : Str → Option Value} {base : Heap}
theorem cl0 {x : Str} {st : Stmt} {N ps : List Str} {k : Nat} {sp : Sp} (D : Df K mg x st ps) (S : FnScope N ps (defScope st)) (len : ∀ vs H Q E, sp vs H Q E → vs.length = ps.length)
    (body : ∀ (f : Addr) (cdv : Value) (A : Around) (outer : List Env) (s : Shared) (H : Hp) (vs : List V) (Q : VK) (E : XK), Room k (A.deeper (envOfC x (defScope st) s.heap.objs.size f cdv)) → sp vs H Q E →
      ∃ t, PSs (cxOf CX0 P w K mg base N x (defScope st) f cdv A outer s H E).nox (defBody st) t ∧ t { nx := fun _ H' => Q .non H', rt := Q } (start N vs) H) : Cl P w K mg base CX0 (k + 1) x ps sp := by
  obtain ⟨f, fd, hm, F, b⟩ := D.ex
  exact ⟨f, fd, hm, F.kp, b, F.ok S len (body f)⟩
theorem clX {x : Str} {st : Stmt} {N ps : List Str} {k : Nat} {sp : Sp} (D : Df K mg x st ps) (S : FnScope N ps (defScope st)) (len : ∀ vs H Q E, sp vs H Q E → vs.length = ps.length)
    (body : ∀ (f : Addr) (cdv : Value) (A : Around) (outer : List Env) (s : Shared) (H : Hp) (vs : List V) (Q : VK) (E : XK), Room k (A.deeper (envOfC x (defScope st) s.heap.objs.size f cdv)) → sp vs H Q E →
      ∃ t, PSs (cxOf (L2.CX P w) P w K mg base N x (defScope st) f cdv A outer s H E) (defBody st) t ∧ t { nx := fun _ H' => Q .non H', rt := Q } (start N vs) H) : Cl P w K mg base (L2.CX P w) (k + 1) x ps sp := by
  obtain ⟨f, fd, hm, F, b⟩ := D.ex
  exact ⟨f, fd, hm, F.kp, b, F.okX S len (body f)⟩
end
def tCal (sp : Sp) (t : TA) : TE := fun σ H Q => t σ H fun vs H1 => sp (vs ++ []) H1 Q E0
section
variable {X : Cx}
theorem pc {x : Str} {ps : List Str} {sp : Sp} {j k : Nat} {e : Expr} {es : List Expr} {t : TA} {p pos : Pos} (c : Cl X.prog X.w X.K X.mg X.base CX0 k x ps sp) (hr : Room j X.A) (hk : k ≤ j) (ha : PA X (e :: es) t) (hg : Gl X x := by rfl)
    (hdb : (x == ("__debug__" : Str)) = false := by decide) (he : starEach (e :: es) X.env = (false, eval e X.env) :: starEach es X.env := by rfl) (hpl : (backTo pos (starEach es X.env)).any (·.1) = false := by rfl) :
    PE X (.Call (.Name x p) (e :: es) [] pos) (tCal sp t) := by
  obtain ⟨f, fd, hm, kp, b, F⟩ := c.ex
  exact pe_call F (hr.mono hk) hg hm kp b .nil pass0 ha hdb he hpl
end
/-! ### heaps -/
def NoTbl : HO → Prop
  | .tbl _ => False
  | _ => True
/-- all that was tracked is as it was, but that tables of code objects may have grown -/
structure Same (H H' : Hp) : Prop where
  at_ : ∀ b o, H b = some o → NoTbl o → H' b = some o
  has : ∀ b, H b ≠ none → H' b ≠ none
  tab : ∀ P, GxR.TabG H P → GxR.TabG H' P
theorem Same.at {H H' : Hp} {b : Addr} {o : HO} (s : Same H H') (h : H b = some o) (n : NoTbl o := by exact True.intro) : H' b = some o := s.at_ b o h n
theorem Same.refl (H : Hp) : Same H H := ⟨fun _ _ h _ => h, fun _ h => h, fun _ h => h⟩
theorem Same.trans {H H1 H2 : Hp} (a : Same H H1) (b : Same H1 H2) : Same H H2 := ⟨fun c o h n => b.at_ c o (a.at_ c o h n) n, fun c h => b.has c (a.has c h), fun P h => b.tab P (a.tab P h)⟩
theorem Same.of {H H' : Hp} (h : ∀ b o, H b = some o → H' b = some o) : Same H H' := by
  refine ⟨fun b o e _ => h b o e, fun b e => ?_, fun P ⟨ps, e, t⟩ => ⟨ps, h _ _ e, t⟩⟩
  cases q : H b with
  | none => exact absurd q e
  | some o =>
    rw [h b o q]
    exact fun z => nomatch z
theorem Same.free {H H' : Hp} (e : Same H H') {l : Addr} (h : H' l = none) : H l = none := by
  cases q : H l with
  | none => rfl
  | some o => exact absurd h (e.has l (by rw [q]; exact fun z => nomatch z))
theorem Same.seq {K : PySem.W.Frag} {H H' : Hp} {a : Addr} {xs : List V} (e : Same H H') (h : SqL K H a xs) : SqL K H' a xs := by
  rcases h with (h | ⟨o, h⟩) | h
  · exact .inl (.inl (e.at h))
  · exact .inl (.inr ⟨o, e.at h⟩)
  · exact .inr h
theorem ne_has {H : Hp} {a p : Addr} (h : H a ≠ none) (n : H p = none) : p ≠ a := fun z => h (z ▸ n)
theorem has_of {H : Hp} {a : Addr} {o : HO} (h : H a = some o) : H a ≠ none := by
  rw [h]
  exact fun z => nomatch z
/-- a table grows -/
theorem same_tabbed {P : Addr} {H H' : Hp} (h : GxR.Tabbed P H H') (h0 : GxR.TabG H P) : Same H H' := by
  obtain ⟨⟨ps', e', t'⟩, k⟩ := h
  obtain ⟨ps, e, t⟩ := h0
  refine ⟨fun b o q n => ?_, fun b q => ?_, fun Q hq => ?_⟩
  · by_cases z : b = P
    · rw [z, e] at q
      cases q
      exact False.elim n
    · rw [k b z]
      exact q
  · by_cases z : b = P
    · rw [z, e']
      exact fun z => nomatch z
    · rw [k b z]
      exact q
  · by_cases z : Q = P
    · rw [z]
      exact ⟨ps', e', t'⟩
    · obtain ⟨qs, f, u⟩ := hq
      exact ⟨qs, by rw [k Q z]; exact f, u⟩
/-- the heap without what stands at a -/
def Off (a : Addr) (H : Hp) : Hp := fun b => if b = a then none else H b
theorem off_ne {a b : Addr} {H : Hp} (h : b ≠ a) : Off a H b = H b := if_neg h
theorem off_same {a : Addr} {H : Hp} : Off a H a = none := if_pos rfl
theorem off_some {a b : Addr} {H : Hp} {o : HO} (e : Off a H b = some o) : b ≠ a ∧ H b = some o := by
  by_cases h : b = a
  · rw [h, off_same] at e; cases e
  · exact ⟨h, by rw [off_ne h] at e; exact e⟩
theorem off_sub (a : Addr) (H : Hp) : Same (Off a H) H := .of fun b o e => (off_some e).2
theorem off_mono {a : Addr} {H H' : Hp} (s : Same H H') : Same (Off a H) (Off a H') := by
  refine ⟨fun b o e n => ?_, fun b e => ?_, fun P ⟨ps, e, t⟩ => ?_⟩
  · obtain ⟨h1, h2⟩ := off_some e
    rw [off_ne h1]
    exact s.at_ b o h2 n
  · by_cases h : b = a
    · rw [h, off_same] at e
      exact absurd rfl e
    · rw [off_ne h] at e ⊢
      exact s.has b e
  · obtain ⟨h1, h2⟩ := off_some e
    obtain ⟨qs, f, u⟩ := s.tab P ⟨ps, h2, t⟩
    exact ⟨qs, by rw [off_ne h1]; exact f, u⟩
theorem off_upd {a : Addr} {H : Hp} {o : HO} : Off a (upd H a o) = Off a H := by
  funext b
  by_cases h : b = a
  · rw [h, off_same, off_same]
  · rw [off_ne h, off_ne h, upd_ne h]
theorem same_new {H : Hp} {p : Addr} {o : HO} (h : H p = none) : Same H (upd H p o) := .of fun b u e => by
  rw [upd_ne (ne_of_none e h)]; exact e
theorem same_seqT {K : PySem.W.Frag} {H H' : Hp} {a : Addr} {xs : List V} (e : Same H H') (h : SqT K H a xs) : SqT K H' a xs := by
  rcases h with (h | ⟨o, h⟩) | h
  · exact .inl (.inl (e.at h))
  · exact .inl (.inr ⟨o, e.at h⟩)
  · exact .inr h
mutual
theorem dp_same {K : PySem.W.Frag} {H H' : Hp} (e : Same H H') : ∀ {v : V} {d : PyData}, Dp K H v d → Dp K H' v d
  | _, _, .non => .non
  | _, _, .bl b => .bl b
  | _, _, .int i => .int i
  | _, _, .str x => .str x
  | _, _, .lst h r => .lst (e.seq h) (dps_same e r)
  | _, _, .tup h r => .tup (same_seqT e h) (dps_same e r)
theorem dps_same {K : PySem.W.Frag} {H H' : Hp} (e : Same H H') : ∀ {vs : List V} {ds : List PyData}, DpAll K H vs ds → DpAll K H' vs ds
  | _, _, .nil => .nil
  | _, _, .cons h r => .cons (dp_same e h) (dps_same e r)
end
/-! ### the law's store: cells, next index, digits, all mixed, draws so far (at most n) -/
structure Sto (sc a : Addr) (n : Int) (H : Hp) : Prop where
  ex : ∃ (cs : List Int) (i dg mx c : Int), H a = some (.lst [.ref sc, .int i, .int dg, .int mx, .int c]) ∧ sc ≠ a ∧ H sc = some (.lst (cs.map V.int)) ∧ cs.length ≤ 63 ∧ 0 ≤ i ∧ 0 ≤ dg ∧ 0 ≤ c ∧ c ≤ n
theorem Sto.more {sc a : Addr} {n m : Int} {H : Hp} (s : Sto sc a n H) (h : n ≤ m) : Sto sc a m H := by
  obtain ⟨x2, x3, x4, x5, x6, h1, h2, h3, h4, h5, h6, h7, h8⟩ := s.ex
  exact ⟨x2, x3, x4, x5, x6, h1, h2, h3, h4, h5, h6, h7, by omega⟩
/-- all else stands -/
def Kept (a : Addr) (H H' : Hp) : Prop := Same (Off a H) (Off a H')
theorem Kept.refl (a : Addr) (H : Hp) : Kept a H H := Same.refl _
theorem Kept.trans {a : Addr} {H H1 H2 : Hp} (x : Kept a H H1) (y : Kept a H1 H2) : Kept a H H2 := Same.trans x y
theorem kept_same {a : Addr} {H H' : Hp} (s : Same H H') : Kept a H H' := off_mono s
theorem Sto.same {sc a : Addr} {n : Int} {H H' : Hp} (s : Sto sc a n H) (e : Same H H') : Sto sc a n H' := by
  obtain ⟨x2, x3, x4, x5, x6, h1, h2, h3, h4⟩ := s.ex
  exact ⟨x2, x3, x4, x5, x6, e.at h1, h2, e.at h3, h4⟩
theorem Sto.put {sc a : Addr} {n : Int} {H : Hp} {cs : List Int} {i dg mx c : Int} (hs : sc ≠ a) (hq : H sc = some (.lst (cs.map V.int))) (hl : cs.length ≤ 63) (hi : 0 ≤ i) (hd : 0 ≤ dg) (hc : 0 ≤ c) (hn : c ≤ n) :
    Sto sc a n (upd H a (.lst [.ref sc, .int i, .int dg, .int mx, .int c])) :=
  ⟨cs, i, dg, mx, c, upd_same, hs, by rw [upd_ne hs]; exact hq, hl, hi, hd, hc, hn⟩
/-- another list changes -/
theorem Sto.other {sc a l : Addr} {n : Int} {H : Hp} {o : HO} (s : Sto sc a n H) (h1 : l ≠ a) (h2 : l ≠ sc) : Sto sc a n (upd H l o) := by
  obtain ⟨x2, x3, x4, x5, x6, g1, g2, g3, g4⟩ := s.ex
  exact ⟨x2, x3, x4, x5, x6, by rw [upd_ne h1.symm]; exact g1, g2, by rw [upd_ne h2.symm]; exact g3, g4⟩
theorem Sto.ne {sc a p : Addr} {n : Int} {H : Hp} (s : Sto sc a n H) (h : H p = none) : p ≠ a := by
  obtain ⟨_, _, _, _, _, h1, _⟩ := s.ex
  exact (ne_of_none h1 h).symm
theorem Sto.ne2 {sc a p : Addr} {n : Int} {H : Hp} (s : Sto sc a n H) (h : H p = none) : p ≠ sc := by
  obtain ⟨_, _, _, _, _, _, _, h1, _⟩ := s.ex
  exact (ne_of_none h1 h).symm
theorem kept_put {a : Addr} {H : Hp} {o : HO} : Kept a H (upd H a o) := by unfold Kept; rw [off_upd]; exact Same.refl _
theorem Sto.hasA {sc a : Addr} {n : Int} {H : Hp} (s : Sto sc a n H) : H a ≠ none := by
  obtain ⟨_, _, _, _, _, h1, _⟩ := s.ex
  exact has_of h1
theorem Sto.tab {sc a P : Addr} {n : Int} {H : Hp} (s : Sto sc a n H) (t : GxR.TabG H P) : GxR.TabG (Off a H) P := by
  obtain ⟨_, _, _, _, _, h1, _⟩ := s.ex
  obtain ⟨ps, e, u⟩ := t
  exact ⟨ps, by rw [off_ne (ne_of h1 e (fun z => nomatch z)).symm]; exact e, u⟩
theorem Kept.tab {sc a P : Addr} {n : Int} {H H' : Hp} (k : Kept a H H') (s : Sto sc a n H) (t : GxR.TabG H P) : GxR.TabG H' P := (off_sub a H').tab P (Same.tab k P (s.tab t))
end Vk
set_option maxHeartbeats 4000000
/-! the end of a law whose top is run by the kernel at once: what is looked at behind the top -/
namespace Vk
open PySem PySem.Spec PyProof.Rows L2
abbrev SeeV : Type := Bool × List He.FnV
def seeV (fs : List (PySem.W.Frag → Bool)) (fn : List He.FnD) (K : PySem.W.Frag) : SeeV := (fs.all fun f => f K, fn.map fun d => He.fnObs K d.at_)
def dueV (fn : List He.FnD) : SeeV := (true, fn.map He.FnD.val)
/-- what stands below the module's names: their objects; code, defaults, a class's names; what stands in these; its code -/
def valsV (g : Addr → Option Obj) (a : Addr) : List Addr := match g a with
  | some ⟨_, _, .dict es _, _⟩ => es.toList.flatMap fun e => He.refV e.val
  | some ⟨_, _, .seq its _, _⟩ => its.toList.flatMap He.refV
  | _ => []
def backV (g : Addr → Option Obj) (a : Addr) : List Addr := match g a with
  | some ⟨_, _, .func fd, _⟩ => He.refV fd.code ++ (He.refV fd.kwdefaults ++ He.refV fd.defaults)
  | some ⟨_, _, .cls cd, _⟩ => [cd.ns]
  | some ⟨_, _, .seq its _, _⟩ => its.toList.flatMap He.refV
  | _ => []
def asV (g : Addr → Option Obj) : List Addr :=
  let l1 := valsV g mainGlobals
  let l2 := l1.flatMap (backV g)
  let l3 := l2.flatMap (valsV g)
  mainGlobals :: (l1 ++ (l2 ++ (l3 ++ l3.flatMap (backV g))))
def partV (_ : Nat) (g : Addr → Option Obj) : PySem.W.Frag := He.frT g (asV g)
def hookV (n : Nat) (fs : List (PySem.W.Frag → Bool)) (fn : List He.FnD) : PySem.W.Hook where
  α := SeeV
  obs := fun s => seeV fs fn (partV n s.heap.get?)
  val := fun _ => dueV fn
  says := fun _ h => ∃ K : PySem.W.Frag, K.In h ∧ seeV fs fn K = dueV fn
  of := fun _ _ e => ⟨_, He.frT_in, e⟩
  keeps := fun _ _ _ ⟨K, hK, c⟩ k => ⟨K, PySem.W.Frag.In.keeps hK k, c⟩
theorem seeV_eq {n : Nat} {fs : List (PySem.W.Frag → Bool)} {fn : List He.FnD} {g : Addr → Option Obj} {s : Shared} (h : ∀ a, g a = s.heap.get? a) : seeV fs fn (partV n g) = (hookV n fs fn).obs s := by
  have e : g = s.heap.get? := funext h
  rw [e]
  rfl
section
variable {fs : List (PySem.W.Frag → Bool)} {fn : List He.FnD} {K : PySem.W.Frag}
theorem facV (c : seeV fs fn K = dueV fn) (i : Nat) {f : PySem.W.Frag → Bool} (h : fs[i]? = some f) : f K = true :=
  List.all_eq_true.mp (show (fs.all fun f => f K) = true from congrArg (fun z : SeeV => z.1) c) f (List.mem_of_getElem? h)
theorem defV (c : seeV fs fn K = dueV fn) (i : Nat) {d : He.FnD} (h : fn[i]? = some d) : He.fnObs K d.at_ = d.val := by
  have e : fn.map (fun d => He.fnObs K d.at_) = fn.map He.FnD.val := congrArg (fun z : SeeV => z.2) c
  have e2 : (fn.map fun d => He.fnObs K d.at_)[i]? = (fn.map He.FnD.val)[i]? := by rw [e]
  rw [List.getElem?_map, List.getElem?_map, h] at e2
  exact Option.some.inj e2
end
theorem join3 {α β γ δ : Type} {o : Option α} {f : α → β} {g : α → γ} {k : α → δ} {a : β} {b : γ} {c : δ} (h1 : o.map f = some a) (h2 : o.map g = some b) (h3 : o.map k = some c) : o.map (fun x => (f x, g x, k x)) = some (a, b, c) := by
  cases o with
  | none => cases h1
  | some x =>
    cases (Option.some.inj h1)
    cases (Option.some.inj h2)
    cases (Option.some.inj h3)
    rfl
/-! ### a def of the top -/
def dD (x : Str) (st : Stmt) : He.FnD := ⟨(x, none), x, x, defArgs st, defBody st, defScope st⟩
def bD (x : Str) (K : PySem.W.Frag) : Bool := He.eqO (PySem.W.nsIn K mainGlobals x) (some (some (.ref (He.ga K x)))) && ((He.Fa.code (x, none) x).ok K && PySem.W.keepIn K (.ref (He.ga K x)))
theorem okD {K : PySem.W.Frag} {x : Str} {st : Stmt} (e : He.fnObs K (dD x st).at_ = (dD x st).val) (c : bD x K = true) :
    ∃ oc od sl kV dc pm an cd ct, PySem.W.nsIn K mainGlobals x = some (some (.ref (He.ga K x))) ∧ K.lookup (He.ga K x) = some ⟨oc, od, .func (PySem.W.fnOf x x (defArgs st) (defBody st) (defScope st) .none kV dc pm an cd ct), sl⟩ ∧ PySem.W.codeIn K cd x = true ∧
      PySem.W.keepIn K (.ref (He.ga K x)) = true := by
  obtain ⟨c1, c2⟩ := He.ba c
  obtain ⟨c2, c3⟩ := He.ba c2
  obtain ⟨oc, od, sl, kV, dc, pm, an, cd, ct, l, k⟩ := He.fn_ok (d := dD x st) e c2
  exact ⟨oc, od, sl, kV, dc, pm, an, cd, ct, He.eqO_ok c1, l, k, c3⟩
/-! ### .. with one keyword's default, 1 -/
def kwRef (K : PySem.W.Frag) (f : Addr) : Value := match K.lookup f with
  | some ⟨_, _, .func fd, _⟩ => fd.kwdefaults
  | _ => .none
def oneAt (K : PySem.W.Frag) (y : Str) (i : Int) : Value → Bool
  | .ref D => (match PySem.W.nsIn K D y with
    | some (some (.int j _)) => decide (j = i)
    | _ => false)
  | _ => false
def bK (x y : Str) (K : PySem.W.Frag) : Bool := bD x K && oneAt K y 1 (kwRef K (He.ga K x))
theorem okK {K : PySem.W.Frag} {x y : Str} {st : Stmt} (e : He.fnObs K (dD x st).at_ = (dD x st).val) (c : bK x y K = true) :
    ∃ (oc : Value) (od : Option Addr) (sl : Array (Option Value)) (D : Addr) (dc pm : Value) (an : Option Addr) (cd ct : Value) (t : Tok), PySem.W.nsIn K mainGlobals x = some (some (.ref (He.ga K x))) ∧ K.lookup (He.ga K x) = some ⟨oc, od, .func (PySem.W.fnOf x x (defArgs st) (defBody st) (defScope st) .none (.ref D) dc pm an cd ct), sl⟩ ∧ PySem.W.codeIn K cd x = true ∧
      PySem.W.keepIn K (.ref (He.ga K x)) = true ∧ PySem.W.nsIn K D y = some (some (.int 1 t)) := by
  obtain ⟨c1, c2⟩ := He.ba c
  obtain ⟨oc, od, sl, kV, dc, pm, an, cd, ct, a, l, k, k2⟩ := okD e c1
  unfold kwRef at c2
  rw [l] at c2
  have c3 : oneAt K y 1 kV = true := c2
  cases kV with
  | ref D =>
    have c4 : (match PySem.W.nsIn K D y with
      | some (some (.int j _)) => decide (j = 1)
      | _ => false) = true := c3
    cases q : PySem.W.nsIn K D y with
    | none =>
      rw [q] at c4
      cases c4
    | some o =>
      rw [q] at c4
      cases o with
      | none => cases c4
      | some v =>
        cases v with
        | int j t =>
          have ej : j = 1 := of_decide_eq_true c4
          rw [ej] at q
          exact ⟨oc, od, sl, D, dc, pm, an, cd, ct, t, a, l, k, k2, q⟩
        | _ => cases c4
  | _ => cases c3
/-! ### a number of the top -/
def bI (x : Str) (i : Int) (K : PySem.W.Frag) : Bool := match PySem.W.nsIn K mainGlobals x with
  | some (some (.int j _)) => decide (j = i)
  | _ => false
theorem okI {K : PySem.W.Frag} {x : Str} {i : Int} (c : bI x i K = true) : ∃ t, PySem.W.nsIn K mainGlobals x = some (some (.int i t)) := by
  unfold bI at c
  cases q : PySem.W.nsIn K mainGlobals x with
  | none =>
    rw [q] at c
    cases c
  | some o =>
    rw [q] at c
    cases o with
    | none => cases c
    | some v =>
      cases v with
      | int j t =>
        have ej : j = i := of_decide_eq_true c
        rw [ej]
        exact ⟨t, rfl⟩
      | _ => cases c
/-! ### a def whose code object's table grows -/
def bN (x : Str) (K : PySem.W.Frag) : Bool := bD x K && (match PySem.W.tabIn K x with
  | some (_, P) => (K.lookup P).isNone
  | none => false)
theorem okN {K : PySem.W.Frag} {x : Str} {st : Stmt} (e : He.fnObs K (dD x st).at_ = (dD x st).val) (c : bN x K = true) :
    ∃ (oc : Value) (od : Option Addr) (sl : Array (Option Value)) (kV dc pm : Value) (an : Option Addr) (ct : Value) (cN PN : Addr) (eN : Value) (dd : Option Addr) (vs : Array Value) (sc : Array (Option Value)),
      PySem.W.nsIn K mainGlobals x = some (some (.ref (He.ga K x))) ∧ K.lookup (He.ga K x) = some ⟨oc, od, .func (PySem.W.fnOf x x (defArgs st) (defBody st) (defScope st) .none kV dc pm an (.ref cN) ct), sl⟩ ∧ PySem.W.codeIn K (.ref cN) x = true ∧
      PySem.W.keepIn K (.ref (He.ga K x)) = true ∧ K.lookup cN = some ⟨eN, dd, .fields vs, sc⟩ ∧ (vs[11]? : Option Value) = some (.ref PN) ∧ K.lookup PN = none := by
  obtain ⟨c1, c2⟩ := He.ba c
  obtain ⟨oc, od, sl, kV, dc, pm, an, cd, ct, a, l, k, k2⟩ := okD e c1
  cases q : PySem.W.tabIn K x with
  | none =>
    rw [q] at c2
    cases c2
  | some r =>
    obtain ⟨cN, PN⟩ := r
    rw [q] at c2
    have c3 : (K.lookup PN).isNone = true := c2
    unfold PySem.W.tabIn at q
    rw [a] at q
    dsimp only at q
    rw [l] at q
    dsimp only [PySem.W.fnOf] at q
    cases cd with
    | ref c =>
      dsimp only at q
      cases hc : K.lookup c with
      | none =>
        rw [hc] at q
        cases q
      | some o =>
        obtain ⟨eN, dd, dt, sc⟩ := o
        rw [hc] at q
        cases dt with
        | fields vs =>
          dsimp only at q
          cases hv : (vs[11]? : Option Value) with
          | none =>
            rw [hv] at q
            cases q
          | some v =>
            rw [hv] at q
            cases v with
            | ref P =>
              cases q
              exact ⟨oc, od, sl, kV, dc, pm, an, ct, cN, PN, eN, dd, vs, sc, a, l, k, k2, hc, hv, Option.isNone_iff_eq_none.mp c3⟩
            | _ => cases q
        | _ => cases q
    | _ => cases q
/-! ### an own error's class -/
def bX (S : Addr) (C : Addr) (K : PySem.W.Frag) : Bool := match K.lookup C with
  | some ⟨.type t, _, .cls cd, sl⟩ => decide (t = "type") && (decide (cd.mro = [.ref C, .ref S, .type "ValueError", .type "Exception", .type "BaseException", .type "object"]) && (cd.hasDict && (!cd.hasDel && (match sl.toList with
    | [_, _, _, _, some (.builtin n), _] => decide (n = "ValueError.__new__")
    | _ => false))))
  | _ => false
theorem okX {K : PySem.W.Frag} {S C : Addr} (c : bX S C K = true) : ∃ (nm q : Str) (N : Addr) (bs : List Value) (sn : List Str) (sb : List Value) (ab : Bool) (col : Option Bool) (dd : Option Addr) (m0 m1 m2 m3 m5 : Option Value),
    K.lookup C = some (excClassObj nm q C N bs [.ref S, .type "ValueError", .type "Exception", .type "BaseException", .type "object"] true sn sb ab col dd m0 m1 m2 m3 m5 "ValueError.__new__") := by
  unfold bX at c
  cases q : K.lookup C with
  | none =>
    rw [q] at c
    cases c
  | some o =>
    obtain ⟨oc, dd, dt, sl⟩ := o
    rw [q] at c
    cases oc with
    | type t =>
      cases dt with
      | cls cd =>
        obtain ⟨nm, bs, mro, N, qn, hd, sn, sb, ab, col, del⟩ := cd
        obtain ⟨sl⟩ := sl
        obtain ⟨h1, c⟩ := He.ba c
        obtain ⟨h2, c⟩ := He.ba c
        obtain ⟨h3, c⟩ := He.ba c
        obtain ⟨h4, h5⟩ := He.ba c
        have e1 : t = "type" := of_decide_eq_true h1
        have e2 : mro = _ := of_decide_eq_true h2
        have e3 : hd = true := h3
        have e4 : del = false := by
          cases del
          · rfl
          · cases h4
        dsimp only at h5
        split at h5
        · rename_i k0 k1 k2 k3 n k5 z1 z2 z3
          have e5 : n = "ValueError.__new__" := of_decide_eq_true h5
          subst e1 e2 e3 e4 e5
          exact ⟨nm, qn, N, bs, sn, sb, ab, col, dd, k0, k1, k2, k3, k5, rfl⟩
        · cases h5
      | _ => cases c
    | _ => cases dt <;> cases c
/-! ### a method of a class of the top -/
def dM (x m q : Str) (st : Stmt) : He.FnD := ⟨(x, some m), m, q, defArgs st, defBody st, defScope st⟩
theorem okM {K : PySem.W.Frag} {x m qn : Str} {st : Stmt} (e : He.fnObs K (dM x m qn st).at_ = (dM x m qn st).val) (c : (He.Fa.code (x, some m) qn).ok K = true) :
    ∃ oc od sl kV dc pm an cd ct, K.lookup (He.ma K (He.ga K x) m) = some ⟨oc, od, .func (PySem.W.fnOf m qn (defArgs st) (defBody st) (defScope st) .none kV dc pm an cd ct), sl⟩ ∧ PySem.W.codeIn K cd qn = true := He.fn_ok (d := dM x m qn st) e c
end Vk
set_option maxHeartbeats 4000000
namespace Vk
open PySem
def top (i : Nat) : Stmt := PySem.Challenge.pw_blindslots_k35_long_logs_numbered.main.body.getD i (.Pass ⟨0, 0, 0, 0⟩)
abbrev sInteger : Stmt := top 16
abbrev sTupleOf : Stmt := top 17
abbrev sName : Stmt := top 18
abbrev sCheck : Stmt := top 20
abbrev sCount : Stmt := top 21
abbrev sHas : Stmt := top 22
abbrev sEach : Stmt := top 23
abbrev sIsJob : Stmt := top 24
abbrev sArrival : Stmt := top 25
abbrev sWaits : Stmt := top 26
abbrev sFirst : Stmt := top 28
abbrev sCheckLog : Stmt := top 29
abbrev sPresent : Stmt := top 30
abbrev sRunning : Stmt := top 31
abbrev sCountLogs : Stmt := top 33
abbrev sNthLog : Stmt := top 34
abbrev sNumLog : Stmt := top 35
abbrev sOutcomes : Stmt := top 36
abbrev sRests : Stmt := top 37
abbrev sInOrder : Stmt := top 38
abbrev sMix : Stmt := top 40
abbrev sStore : Stmt := top 41
abbrev sPick : Stmt := top 42
abbrev sNames : Stmt := top 43
abbrev sBefore : Stmt := top 44
abbrev sJobs : Stmt := top 45
abbrev sInt : Stmt := top 46
abbrev sPresentL : Stmt := top 47
abbrev sLog : Stmt := top 48
abbrev sLogFault : Stmt := top 49
abbrev sCert : Stmt := top 50
abbrev sKind : Stmt := top 51
abbrev sZero : Stmt := top 52
abbrev sLaw : Stmt := top 53
end Vk
set_option maxHeartbeats 4000000
/-! values as data: kinds, integers, tuples -/
namespace Vk
open PySem PySem.Spec PyProof.Rows L2
def tyN : PyData → String
  | .none => "NoneType"
  | .bool _ => "bool"
  | .int _ => "int"
  | .str _ => "str"
  | .list _ => "list"
  | .tuple _ => "tuple"
  | .dict _ => "dict"
theorem dp_ty {K : PySem.W.Frag} {H : Hp} {v : V} {d : PyData} (h : Dp K H v d) : TyX K H v (.type (tyN d)) := by
  cases h with
  | non => exact .base .non
  | bl b => exact .base (.bl b)
  | int i => exact .base (.int i)
  | str x => exact .base (.str x)
  | lst q _ =>
    rcases q with (q | ⟨o, q⟩) | ⟨o, its, n, hk, hc, _⟩
    · exact .base (.lst q)
    · exact .base (.frz q)
    · exact .kList hk hc
  | tup q _ =>
    rcases q with (q | ⟨o, q⟩) | ⟨o, its, n, hk, hc, _⟩
    · exact .base (.tup q)
    · exact .fTuple q
    · exact .kTuple hk hc
def isIntD : PyData → Bool
  | .bool _ => true
  | .int _ => true
  | _ => false
def isBoolD : PyData → Bool
  | .bool _ => true
  | _ => false
def isTupD : PyData → Bool
  | .tuple _ => true
  | _ => false
def isStrD : PyData → Bool
  | .str _ => true
  | _ => false
section
variable {K : PySem.W.Frag} {H : Hp} {v : V} {d : PyData}
theorem kit_int (h : Dp K H v d) : PySem.W.kitOne K (.type (tyN d)) (.type "int") = some (isIntD d) := by
  cases h with
  | non => exact kit_ty (show kitB "NoneType" "int" = some false by decide +kernel)
  | bl _ => exact kit_ty (show kitB "bool" "int" = some true by decide +kernel)
  | int _ => exact kit_ty (show kitB "int" "int" = some true by decide +kernel)
  | str _ => exact kit_ty (show kitB "str" "int" = some false by decide +kernel)
  | lst _ _ => exact kit_ty (show kitB "list" "int" = some false by decide +kernel)
  | tup _ _ => exact kit_ty (show kitB "tuple" "int" = some false by decide +kernel)
theorem kit_bool (h : Dp K H v d) : PySem.W.kitOne K (.type (tyN d)) (.type "bool") = some (isBoolD d) := by
  cases h with
  | non => exact kit_ty (show kitB "NoneType" "bool" = some false by decide +kernel)
  | bl _ => exact kit_ty (show kitB "bool" "bool" = some true by decide +kernel)
  | int _ => exact kit_ty (show kitB "int" "bool" = some false by decide +kernel)
  | str _ => exact kit_ty (show kitB "str" "bool" = some false by decide +kernel)
  | lst _ _ => exact kit_ty (show kitB "list" "bool" = some false by decide +kernel)
  | tup _ _ => exact kit_ty (show kitB "tuple" "bool" = some false by decide +kernel)
theorem kit_tup (h : Dp K H v d) : PySem.W.kitOne K (.type (tyN d)) (.type "tuple") = some (isTupD d) := by
  cases h with
  | non => exact kit_ty (show kitB "NoneType" "tuple" = some false by decide +kernel)
  | bl _ => exact kit_ty (show kitB "bool" "tuple" = some false by decide +kernel)
  | int _ => exact kit_ty (show kitB "int" "tuple" = some false by decide +kernel)
  | str _ => exact kit_ty (show kitB "str" "tuple" = some false by decide +kernel)
  | lst _ _ => exact kit_ty (show kitB "list" "tuple" = some false by decide +kernel)
  | tup _ _ => exact kit_ty (show kitB "tuple" "tuple" = some true by decide +kernel)
theorem kit_strT (h : Dp K H v d) : PySem.W.kitOne K (.type (tyN d)) (.type "str") = some (isStrD d) := by
  cases h with
  | non => exact kit_ty (show kitB "NoneType" "str" = some false by decide +kernel)
  | bl _ => exact kit_ty (show kitB "bool" "str" = some false by decide +kernel)
  | int _ => exact kit_ty (show kitB "int" "str" = some false by decide +kernel)
  | str _ => exact kit_ty (show kitB "str" "str" = some true by decide +kernel)
  | lst _ _ => exact kit_ty (show kitB "list" "str" = some false by decide +kernel)
  | tup _ _ => exact kit_ty (show kitB "tuple" "str" = some false by decide +kernel)
theorem dp_tuple {ds : List PyData} (h : Dp K H v (.tuple ds)) : ∃ a xs, v = .ref a ∧ SqT K H a xs ∧ DpAll K H xs ds := by
  cases h with
  | tup q r => exact ⟨_, _, rfl, q, r⟩
theorem dp_int {i : Int} (h : Dp K H v (.int i)) : v = .int i := by
  cases h
  rfl
theorem dp_bool {i : Bool} (h : Dp K H v (.bool i)) : v = .bl i := by
  cases h
  rfl
theorem dp_str {i : Str} (h : Dp K H v (.str i)) : v = .str i := by
  cases h
  rfl
theorem dp_none (h : Dp K H v .none) : v = .non := by
  cases h
  rfl
theorem dps_len : ∀ {vs : List V} {ds : List PyData}, DpAll K H vs ds → vs.length = ds.length
  | _, _, .nil => rfl
  | _, _, .cons _ r => congrArg (· + 1) (dps_len r)
theorem dps_get : ∀ {vs : List V} {ds : List PyData} {i : Nat} {d : PyData}, DpAll K H vs ds → ds[i]? = some d → ∃ v, vs[i]? = some v ∧ Dp K H v d
  | _, _, 0, _, .cons h _, e => by cases e; exact ⟨_, rfl, h⟩
  | _, _, i + 1, _, .cons _ r, e => by
    obtain ⟨v, h1, h2⟩ := dps_get r (i := i) (by simpa using e)
    exact ⟨v, by simpa using h1, h2⟩
theorem dps_getV : ∀ {vs : List V} {ds : List PyData} {i : Nat} {v : V}, DpAll K H vs ds → vs[i]? = some v → ∃ d, ds[i]? = some d ∧ Dp K H v d
  | _, _, 0, _, .cons h _, e => by cases e; exact ⟨_, rfl, h⟩
  | _, _, i + 1, _, .cons _ r, e => by
    obtain ⟨v, h1, h2⟩ := dps_getV r (i := i) (by simpa using e)
    exact ⟨v, by simpa using h1, h2⟩
theorem dps_app : ∀ {vs us : List V} {ds es : List PyData}, DpAll K H vs ds → DpAll K H us es → DpAll K H (vs ++ us) (ds ++ es)
  | _, _, _, _, .nil, h => h
  | _, _, _, _, .cons h r, q => .cons h (dps_app r q)
theorem dps_take : ∀ {vs : List V} {ds : List PyData} (n : Nat), DpAll K H vs ds → DpAll K H (vs.take n) (ds.take n)
  | _, _, 0, _ => .nil
  | _, _, n + 1, .nil => .nil
  | _, _, n + 1, .cons h r => .cons h (dps_take n r)
theorem dps_drop : ∀ {vs : List V} {ds : List PyData} (n : Nat), DpAll K H vs ds → DpAll K H (vs.drop n) (ds.drop n)
  | _, _, 0, h => h
  | _, _, n + 1, .nil => .nil
  | _, _, n + 1, .cons h r => dps_drop n r
/-- flat data -/
def flatD : PyData → Bool
  | .none => true
  | .bool _ => true
  | .int _ => true
  | .str _ => true
  | _ => false
theorem dp_flat (h : Dp K H v d) : flatV v = flatD d := by
  cases h <;> rfl
end
/-- an integer from a least one on -/
def integerD (least : Int) : PyData → Bool
  | .int i => decide (least ≤ i)
  | _ => false
def tupleND (n : Int) : PyData → Bool
  | .tuple ds => decide ((ds.length : Int) = n)
  | _ => false
/-! ### their defs' promises -/
def spInteger (K : PySem.W.Frag) : Sp := fun vs H Q _ => ∃ (v : V) (d : PyData) (least : Int), vs = [v, .int least] ∧ Dp K H v d ∧ Q (.bl (integerD least d)) H
def spTupleOf (K : PySem.W.Frag) : Sp := fun vs H Q _ => ∃ (v : V) (d : PyData) (n : Int), vs = [v, .int n] ∧ Dp K H v d ∧ Q (.bl (tupleND n d)) H
structure Blt (mg : Str → Option Value) : Prop where
  len : mg "len" = none
  isi : mg "isinstance" = none
  int : mg "int" = none
  bool : mg "bool" = none
  tuple : mg "tuple" = none
  str : mg "str" = none
  range : mg "range" = none
  enum : mg "enumerate" = none
  list : mg "list" = none
/-- isinstance(e, T), T a built-in type -/
def tIsi (K : PySem.W.Frag) (T : String) (te : TE) : TE := tCB (rIsi K) (tCons te (tCons (tC (.ty T)) tNil))
theorem isi_go {K : PySem.W.Frag} {T : String} {te : TE} {σ : L2.St} {H H1 : Hp} {v : V} {d : PyData} {b : Bool} {Q : VK} (h : ∀ R : VK, R v H1 → te σ H R) (hd : Dp K H1 v d) (k : PySem.W.kitOne K (.type (tyN d)) (.type T) = some b) (q : Q (.bl b) H1) : tIsi K T te σ H Q :=
  h _ ⟨v, .ty T, _, _, b, rfl, .ty T, dp_ty hd, k, q⟩
end Vk
set_option maxHeartbeats 4000000
/-! an exception that its except suite gives to another name: it is tracked from there on -/
namespace Vk
open PySem PySem.Spec PyProof.Rows L2
/-- at a: an exception of the class cls, its dict d -/
def Xco (a : Addr) (cls : Value) (d : Option Addr) : HO := .ext fun h => ∃ (oe : Obj) (vs : Array Value), h.get? a = some oe ∧ Zc cls d oe ∧ oe.data = .fields vs
theorem xco_ok {P : Program} {w : World} {H : Hp} {h : Heap} {a : Addr} {cls : Value} {d : Option Addr} {oe : Obj} {vs : Array Value} (e : h.get? a = some oe) (z : Zc cls d oe) (f : oe.data = .fields vs) : ObjOk P w H h a (Xco a cls d) :=
  ⟨⟨oe, vs, e, z, f⟩, ⟨oe, e⟩, fun _ _ ⟨o, v, q, r⟩ k => ⟨o, v, k o q, r⟩⟩
theorem xco_at {P : Program} {w : World} {H : Hp} {h : Heap} {a : Addr} {cls : Value} {d : Option Addr} (hok : HOk P w H h) (e : H a = some (Xco a cls d)) : ∃ (oe : Obj) (vs : Array Value), h.get? a = some oe ∧ Zc cls d oe ∧ oe.data = .fields vs := by
  have x : ObjOk P w H h a (.ext fun h => ∃ (oe : Obj) (vs : Array Value), h.get? a = some oe ∧ Zc cls d oe ∧ oe.data = .fields vs) := hok a _ e
  exact x.1
section
variable {X : Cx} {pins : List (Addr × Obj)} {σ : L2.St} {H : Hp} {s : Shared}
theorem inv_track {a : Addr} {o : HO} (I : Inv X pins σ H s) (hn : H a = none) (n0 : ∀ ob, X.s_0.heap.get? a = some ob → False) (nL : a ≠ X.env.locals) (nC : ∀ x c, X.env.cells.lookup x = some c → c ≠ a) (nP : ∀ p ∈ X.pn ++ pins, p.1 ≠ a)
    (new : ObjOk X.prog X.w (upd H a o) s.heap a o) : Inv X pins σ (upd H a o) s := by
  have ne : ∀ {b : Addr} {u : HO}, H b = some u → b ≠ a := fun q => ne_of_none q hn
  have b1 : Un X.fs X.ex X.H_0 (upd H a o) X.s_0.heap s.heap := {
      keep := I.base.keep
      slot := I.base.slot
      free := fun b u q n x => by
        have nb : b ≠ a := fun z => by
          rw [z] at q
          exact n0 u q
        rw [upd_ne nb]
        exact I.base.free b u q n x
      there := I.base.there
      tups := fun b xs q => by
        have z := I.base.tups b xs q
        rw [upd_ne (ne z)]
        exact z
      frzs := fun b u xs q => by
        have z := I.base.frzs b u xs q
        rw [upd_ne (ne z)]
        exact z
      tbls := fun b ps q => by
        obtain ⟨m, z⟩ := I.base.tbls b ps q
        exact ⟨m, by rw [upd_ne (ne z)]; exact z⟩ }
  refine ⟨I.ok, I.os, I.bare, b1, I.loc, I.cell, ?_, ?_, ?_, ?_, I.len⟩
  · rw [upd_ne nL.symm]
    exact I.free
  · intro x c q
    rw [upd_ne (nC x c q)]
    exact I.freeC x c q
  · intro p hp
    obtain ⟨h1, h2, h3⟩ := I.pin p hp
    exact ⟨h1, by rw [upd_ne (nP p hp)]; exact h2, h3⟩
  · intro b u q
    by_cases hb : b = a
    · subst hb
      rw [upd_same] at q
      cases q
      exact new
    · rw [upd_ne hb] at q
      refine (I.hok b u q).stay (fun c v _ z => z) (fun c z => ?_) (fun c xs z => ?_)
      · rw [upd_ne (ne z)]
        exact z
      · rw [upd_ne (ne z)]
        exact z
end
/-- what «except C as n: suite» wishes where the suite keeps the exception -/
def wKeep (K : PySem.W.Frag) (c : Value) (i : Nat) (ts : Addr → Value → Option Addr → TS) (D : Ends) : WX := fun cls d σ H =>
  PySem.W.exmOne K cls c = some true ∧ ∀ a, H a = none → ts a cls d { nx := fun σ' H' => H' a = none → D.nx (σ'.set i none) (upd H' a (Xco a cls d)), rt := fun _ _ => False } (σ.set i (some (.ref a))) H
section
variable {X : Cx} {x n : Str} {c : Value} {i : Nat} {body more : List Stmt} {b₀ : Stmt} {np pos pos' : Pos} {tb : WX → TS} {ts : Addr → Value → Option Addr → TS}
theorem ps_try_keep (hs : X.stack = X.env :: X.outer) (hf : X.env.frame = some X.env.locals) (hex : X.ex = []) (hN : X.N.Nodup) (hi : X.N[i]? = some n) (hln : X.env.kindOf n = some .local) (hg : Gl X x) (hm : X.mg x = some c)
    (hdb : (x == ("__debug__" : Str)) = false)
    (hb : ∀ (W : WX) (pn : List (Addr × Obj)) (xe : Value → Shared → Prop), Takes (X.tr pn xe) W → PassesOwn (model X.prog X.w) X.A X.env xe → PSs (X.tr pn xe) body (tb W))
    (hsu : ∀ (a : Addr) (oe : Obj) (cls : Value) (d : Option Addr) (pn : List (Addr × Obj)), Zc cls d oe → (∃ vs, oe.data = .fields vs) → PSs (X.suite a ((a, oe) :: pn)) (b₀ :: more) (ts a cls d)) :
    PS X (.Try body [.ExceptHandler (some (.Name x np)) (some n) (b₀ :: more) pos'] [] [] pos) (fun D σ H => tb (wKeep X.K c i ts D) D σ H) := by
  refine ⟨fun pins s σ H D I h => ?_⟩
  have ok := I.ok
  have frames : X.A.frames = some (X.env :: X.outer) := by rw [ok.frames, hs]
  refine wpAny_Try_except (wpAny_mono ((hb (wKeep X.K c i ts D) (X.pn ++ pins) _ (fun u s2 air => ?_) PassesOwn.looking).run [] s σ H D (I.toTry _) h) (fun f s2 sp => ?_) (fun _ _ z => z))
  · obtain ⟨a, B, sI, pins2, σ2, H2, cls, d, rfl, J2, ground, up, sky, na, os, ag, match1, suite⟩ := air
    have J : Inv X pins σ2 H2 sI := J2.ofTry ok
    have air2 : Sky B (X.env :: X.outer) a (Zc cls d) X.env.locals s2.heap := by rw [← hs]; exact sky
    -- a stands in no frame, and is new
    refine Sky.land Zc.steady frames hf air2 fun h3 fly3 up3 => ?_
    have K3 : Inv X pins σ2 H2 { s2 with heap := h3 } := J.landed ground fly3.1 (up.trans up3) os ag
    obtain ⟨o3, v3, get3, z3, dat3⟩ := fly3.there
    have outFr : a ∉ frs (X.env :: X.outer) := fun hm2 => by
      obtain ⟨_, o4, get4, nf⟩ := fly3.2.2.1.mem hm2
      rw [get3] at get4
      cases get4
      exact nf _ dat3
    have noL : a ≠ X.env.locals := fun z => outFr (List.mem_filterMap.mpr ⟨X.env, List.mem_cons_self, by rw [hf, z]⟩)
    have noF : a ∉ X.fs := fun hm2 => by
      obtain ⟨e, he, q⟩ := List.mem_filterMap.mp hm2
      exact outFr (List.mem_filterMap.mpr ⟨e, List.mem_cons_of_mem _ he, q⟩)
    have outI : ∀ ob, sI.heap.get? a = some ob → False := fun ob q => by
      have z := ground a ob q (by rw [show (X.tr (X.pn ++ pins) _).stack = X.stack from rfl, hs]; exact outFr)
      rw [fly3.2.1] at z
      cases z
    have out0 : ∀ ob, X.s_0.heap.get? a = some ob → False := fun ob q => by
      obtain ⟨o5, z⟩ := J.base.there a ob q (by rw [hex]; exact fun y => nomatch y)
      exact outI _ z
    have noC : ∀ y cc, X.env.cells.lookup y = some cc → cc ≠ a := fun y cc q z => by
      obtain ⟨v, o6, get6, _⟩ := J.cell y cc q
      rw [z] at get6
      exact outI _ get6
    have noP : ∀ p ∈ X.pn ++ pins, p.1 ≠ a := fun p hp z => by
      have q := (J.pin p hp).1
      rw [z] at q
      exact outI _ q
    refine wpAny_handleBy_cons (codeAny_handlers_test ?_) (by intro q; cases q)
    have isC : PySem.W.Looks (model X.prog X.w) h3 (typeOf (.ref a)) cls := fun A2 Q2 E2 s4 kk q => wpAny_typeOf_ref (kk _ _ get3) (by rw [z3.1]; exact q)
    refine ld_glob (X := X.suite a ((a, o3) :: (X.pn ++ pins))) (K3.suite get3 dat3 na noL noF) hg hm ?_ hdb
    refine (PySem.W.exm_one (M := model X.prog X.w) K3.kIn isC match1).here (codeAny_handlers_suite_as ?_)
    refine HandSPX.lands_againZ fly3 fun h4 fly4 up4 => ?_
    have K4 : Inv X pins σ2 H2 { s2 with heap := h4 } := J.landed ground fly4.1 ((up.trans up3).trans up4) os ag
    obtain ⟨o4, v4, get4, z4, dat4⟩ := fly4.there
    refine store_ok (X := X.suite a ((a, o4) :: (X.pn ++ pins))) (v := .ref a) (K4.suite get4 dat4 na noL noF) hN hi (.inl hln) rfl (fun s5 S5 => ?_) (.inr hln)
    refine wpAny_mono ((hsu a o4 cls d (X.pn ++ pins) z4 ⟨_, dat4⟩).run [] s5 _ H2 _ S5 (suite a na)) (fun f s6 sp => ?_) (fun _ _ z => False.elim z)
    cases f with
    | next =>
      obtain ⟨σ6, H6, S6, q6⟩ := sp
      obtain ⟨get6, n6, _⟩ := S6.pin (a, o4) (List.mem_append_left _ List.mem_cons_self)
      have T6 : Inv X pins σ6 (upd H6 a (Xco a cls d)) s6 := inv_track (S6.unsuite ok) n6 out0 noL noC noP (xco_ok get6 z4 dat4)
      exact gone_ok T6 hN hi hln fun s7 T7 => ⟨_, _, T7, q6 n6⟩
    | brk =>
      obtain ⟨_, _, _, z⟩ := sp
      exact False.elim z
    | cont =>
      obtain ⟨_, _, _, z⟩ := sp
      exact False.elim z
    | ret u =>
      obtain ⟨_, _, _, _, _, z⟩ := sp
      exact False.elim z
  · cases f with
    | next =>
      obtain ⟨σ2, H2, J, q⟩ := sp
      exact wpAny_execs_nil ⟨σ2, H2, J.ofTry ok, q⟩
    | brk =>
      obtain ⟨σ2, H2, J, q⟩ := sp
      exact ⟨σ2, H2, J.ofTry ok, q⟩
    | cont =>
      obtain ⟨σ2, H2, J, q⟩ := sp
      exact ⟨σ2, H2, J.ofTry ok, q⟩
    | ret u =>
      obtain ⟨v, σ2, H2, J, r, q⟩ := sp
      exact ⟨v, σ2, H2, J.ofTry ok, r, q⟩
end
/-! ### what is asked of it later -/
theorem xco_inst {X : Cx} {pins : List (Addr × Obj)} {σ : L2.St} {H : Hp} {s : Shared} {a C : Addr} {d : Option Addr} (I : Inv X pins σ H s) (e : H a = some (Xco a (.ref C) d)) (hd : ∀ dd, d = some dd → ∃ fs, H dd = some (.xd fs)) :
    ∃ oe od, PySem.W.InstAt s.heap a oe C od := by
  obtain ⟨⟨oc, odd, dat, sl⟩, vs, get, ⟨z1, z2⟩, f⟩ := xco_at I.hok e
  dsimp only at z1 z2 f
  subst z1 z2 f
  cases odd with
  | none => exact ⟨_, none, get, rfl, rfl, trivial⟩
  | some dd =>
    obtain ⟨fs, hx⟩ := hd dd rfl
    have ok : ObjOk X.prog X.w H s.heap dd (.xd fs) := I.hok dd _ hx
    obtain ⟨mA, ⟨o2, _, _, get2, _⟩, _⟩ := ok
    exact ⟨_, some o2, get, rfl, rfl, get2⟩
/-- isinstance(e, c) of such an exception -/
def rIsX (K : PySem.W.Frag) : List V → Hp → VK → Prop := fun xs H Q => ∃ (a C : Addr) (d : Option Addr) (c : V) (u : Value) (b : Bool), xs = [.ref a, c] ∧ H a = some (Xco a (.ref C) d) ∧ (∀ dd, d = some dd → ∃ fs, H dd = some (.xd fs)) ∧
  ExcC K C ∧ ClsV c u ∧ PySem.W.kitOne K (.ref C) u = some b ∧ Q (.bl b) H
theorem call_isX {X : Cx} : CallR X (.builtin "isinstance") (rIsX X.K) := by
  intro pins s σ H xs us Q I r h
  obtain ⟨a, C, d, c, u, b, rfl, e, hd, T, k, hk, q⟩ := h
  obtain ⟨u1, u2, rfl, r1, r2⟩ := vals2 r
  cases r1
  have e2 := k.eq r2
  subst e2
  obtain ⟨oe, od, inst⟩ := xco_inst I e hd
  have cl : (PySem.W.clsIn X.K C).isSome = true := by
    obtain ⟨cd, hc, _⟩ := PySem.W.any_some T.hd
    rw [hc]
    rfl
  exact PySem.W.kia_one (PySem.W.kitx_exc (od := od) cl T.hg T.hk T.hs T.ha T.hn T.ht T.hm) I.kIn inst hk (fun z => nomatch z) fun tk => ⟨.bl b, H, I.tok tk, rfl, q⟩
/-- e.f of such an exception -/
def tXp (K : PySem.W.Frag) (f : Str) (te : TE) : TE := fun σ H Q => te σ H fun x H1 => ∃ (a C dd : Addr) (fs : List (Str × V)) (v : V), x = .ref a ∧ H1 a = some (Xco a (.ref C) (some dd)) ∧ H1 dd = some (.xd fs) ∧ fs.lookup f = some v ∧
  XfC K C ∧ PySem.W.findIn K (.ref C) f = some none ∧ Q v H1
theorem pe_xp {X : Cx} {e : Expr} {te : TE} {pos : Pos} {n : Str} (he : PE X e te) (hb : attributeBase e n X.env (eval e X.env) = eval e X.env := by rfl) : PE X (.Attribute e n pos) (tXp X.K n te) := by
  refine ⟨fun pins s σ H Q I h => attr_of hb (thn (he.run pins s σ H _ I h) fun u s1 got => ?_)⟩
  obtain ⟨x, H1, I1, rx, a, C, dd, fs, v, rfl, ea, ed, hl, T, hno, q⟩ := got
  cases rx
  obtain ⟨⟨oc, odd, dat, sl⟩, vs, get, ⟨z1, z2⟩, f⟩ := xco_at I1.hok ea
  dsimp only at z1 z2 f
  subst z1 z2 f
  have ok : ObjOk X.prog X.w H1 s1.heap dd (.xd fs) := I1.hok dd _ ed
  obtain ⟨mA, hns, hr⟩ := ok
  obtain ⟨od, ho, look⟩ := lookIn_ns hns
  obtain ⟨y, hy, ry⟩ := RelO.some_of (v := v) (o := mA n) (by rw [← hl]; exact hr n)
  have inst : PySem.W.InstAt s1.heap a ⟨.ref C, some dd, .fields vs, sl⟩ C (some od) := ⟨get, rfl, rfl, ho⟩
  exact HandSPX.exc_get I1.kIn inst T.ga T.gg T.exC (PySem.W.findObj_own T.hdC hno rfl (by rw [look, hy])) (handed_of ry) ⟨v, H1, I1.tok _, ry, q⟩
end Vk
set_option maxHeartbeats 4000000
/-! raise X(e), X an own error whose __init__ keeps one field -/
namespace Vk
open PySem PySem.Spec PyProof.Rows L2
def spIni (C : Addr) (fld : Str) : Sp := fun vs H Q _ => ∃ (a : Addr) (v : V), vs = [.ref a, v] ∧ H a = some (exo a C none) ∧ ∀ dx, H dx = none → dx ≠ a → Q .non (upd (upd H dx (exd dx [(fld, v)])) a (exo a C (some dx)))
structure ErC (P : Program) (w : World) (K : PySem.W.Frag) (mg : Str → Option Value) (base : Heap) (x fld : Str) (C : Addr) : Prop where
  gC : mg x = some (.ref C)
  oex : OexC K C
  ini : ∃ (fI : Addr) (fd : FuncData), PySem.W.findIn K (.ref C) "__init__" = some (some (.ref fI)) ∧ PySem.W.typeIn K (.ref fI) = some (.type "function") ∧ Binds K fd ["self", fld] [] ∧ FnOk P w K mg base CX0 1 fI fd ["self", fld] (spIni C fld)
def tRaiseE (C : Addr) (fld : Str) (W : WX) (te : TE) : TS := fun _ σ H => tMkO C (spIni C fld) [] (tCons te tNil) σ H fun cls d H' => W cls d σ H'
theorem put_del {H : Hp} {a d : Addr} {o u v x : HO} (ha : H a = none) (hd : H d = none) (ne : d ≠ a) : Same H (upd (del (upd (upd (upd H a o) d u) a v) a) d x) := .of fun b y e => by
  have nb : b ≠ a := ne_of_none e ha
  rw [upd_ne (ne_of_none e hd), del_ne nb, upd_ne nb, upd_ne (ne_of_none e hd), upd_ne nb]
  exact e
section
variable {X : Cx} {x fld : Str} {C : Addr} {W : WX} {e : Expr} {te : TE} {p pos pos2 : Pos} {k : Nat}
theorem ps_raiseE (T : ErC X.prog X.w X.K X.mg X.base x fld C) (hc : X.calm = true) (hr : Room k X.A) (hk : 2 ≤ k) (tk : Takes X W) (he : PE X e te) (hg : Gl X x := by rfl) (hdb : (x == ("__debug__" : Str)) = false := by decide)
    (hs : starEach (e :: []) X.env = (false, eval e X.env) :: starEach [] X.env := by rfl) (hpl : (backTo pos (starEach [] X.env)).any (·.1) = false := by rfl) :
    PS X (.Raise (some (.Call (.Name x p) [e] [] pos)) none pos2) (tRaiseE C fld W te) := by
  obtain ⟨fI, fd, h1, h2, h3, h4⟩ := T.ini
  have big := ps_raise (pos := pos2) hc tk (pmk_oex (p := p) (pos := pos) (CX := CX0) (k := 1) T.oex h1 h2 h4 (hr.mono hk) h3 .nil pass0 hg T.gC (pa_cons he pa_nil hs) hdb hs hpl)
  exact big
end
theorem raise_go {C : Addr} {fld : Str} {v : V} {H1 : Hp} {R : XK} {E : XK} (h : ∀ (d : Addr) (H2 : Hp), Same H1 H2 → H1 d = none → H2 d = some (.xd [(fld, v)]) → R (.ref C) (some d) H2) :
    [v].length ≤ 1000 ∧ ∀ a, H1 a = none → spIni C fld (.ref a :: ([v] ++ [])) (upd H1 a (exo a C none)) (fun u H2 => u = .non ∧ ∃ (d : Addr) (fs : List (Str × V)), H2 a = some (exo a C (some d)) ∧ H2 d = some (exd d fs) ∧ H1 d = none ∧ R (.ref C) (some d) (upd (del H2 a) d (.xd fs))) E := by
  refine ⟨by simp, fun a na => ⟨a, v, rfl, upd_same, fun dx nx ne => ?_⟩⟩
  have n1 : H1 dx = none := by
    rw [upd_ne ne] at nx
    exact nx
  refine ⟨rfl, dx, [(fld, v)], upd_same, by rw [upd_ne ne, upd_same], n1, h dx _ (put_del na n1 ne) n1 upd_same⟩
/-! ### the __init__ -/
structure Nit (K : PySem.W.Frag) (x qual fld : Str) (st : Stmt) (C : Addr) : Prop where
  ex : ∃ (fI : Addr) (fd : FuncData), PySem.W.findIn K (.ref C) "__init__" = some (some (.ref fI)) ∧ PySem.W.typeIn K (.ref fI) = some (.type "function") ∧ Fun K "__init__" qual st fI fd ∧ Binds K fd ["self", fld] []
end Vk
set_option maxHeartbeats 4000000
/-! xs.count(y) of flat items -/
namespace Vk
open PySem PySem.Spec PyProof.Rows L2
theorem cnt_flat {y : V} : ∀ {ys : List V} {us : List Value}, Vals ys us → ys.all flatV = true → us.countP (eqU y) = ys.countP (fun z => eqV z y)
  | _, _, .nil, _ => rfl
  | _, _, .cons r t, f => by
    have f2 := Bool.and_eq_true_iff.mp f
    rw [List.countP_cons, List.countP_cons, cnt_flat t f2.2, eqU_of r f2.1]
def rCntV (K : PySem.W.Frag) : V → List V → Hp → VK → Prop := fun x xs H Q => ∃ (p : Addr) (ys : List V) (y : V), x = .ref p ∧ xs = [y] ∧ SqL K H p ys ∧ flatV y = true ∧ ys.all flatV = true ∧ Q (.int (ys.countP (fun z => eqV z y) : Nat)) H
theorem mt_countV {X : Cx} : MtR X "list.count" (rCntV X.K) := by
  intro pins s σ H x xs v us Q I rx rxs h
  obtain ⟨p, ys, y, rfl, rfl, hs, fy, fys, q⟩ := h
  cases rx
  obtain ⟨u, rfl, ru⟩ := rxs.one
  obtain ⟨its, rv, ⟨⟨cls, dd, data, sl⟩, n, ho, hc, hdn, hd⟩, hlen⟩ := I.list hs
  simp only at hc hd
  subst hc hd
  refine call_meets PySem.F.slot_list_count ⟨_, ho, rfl⟩ PySem.F.entry_list_count (PySem.F.args_list_count_2 _ _)
    (SeqAt.list_countAt p its.toArray n dd sl u (eqU y)) ⟨ho, fun z hz => mem_eqAt ru fy rv fys z (by simpa using hz), ?_⟩
  refine ⟨.int (ys.countP (fun z => eqV z y) : Nat), H, I.tok _, ⟨s.toks, ?_⟩, q⟩
  show Value.int ((its.toArray.toList.countP (eqU y) : Nat) : Int) s.toks = _
  rw [show its.toArray.toList = its from rfl, cnt_flat rv fys]
end Vk
set_option maxHeartbeats 4000000
namespace Vk
open PySem PySem.Spec PyProof.Rows L2
/-- the truth of the twelve questions, for the class with number i -/
def bits (i : Nat) : List V := (List.range 12).map fun j => V.bl (decide (j = i))
def words7 : List Str := ["jobs", "rule", "lengths", "log", "marks", "named", "order"]
theorem bits_len (i : Nat) : (bits i).length = 12 := by simp [bits]
theorem bits_get {i m : Nat} (h : m < 12) : (bits i)[m]? = some (V.bl (decide (m = i))) := by
  unfold bits
  rw [List.getElem?_map, List.getElem?_range h]
  rfl
theorem bits_flat (i : Nat) : (bits i).all flatV = true := by
  unfold bits
  rw [List.all_eq_true]
  intro x hx
  obtain ⟨j, _, rfl⟩ := List.mem_map.mp hx
  rfl
theorem bits_cnt : ∀ i : Fin 12, (bits i.1).countP (fun z => eqV z (.bl true)) = 1 := by decide +kernel
structure Kn (K : PySem.W.Frag) (mg : Str → Option Value) (C : Addr) (i : Nat) : Prop where
  ex : ExcC K C
  xf : XfC K C
  noP : PySem.W.findIn K (.ref C) "place" = some none
  ve : mg "ValueError" = none
  kv : PySem.W.kitOne K (.ref C) (.type "ValueError") = some true
  se : ∃ S, mg "SlotError" = some (.ref S) ∧ PySem.W.kitOne K (.ref C) (.ref S) = some true ∧ PySem.W.exmOne K (.ref C) (.ref S) = some true
  c0 : ∃ D, mg "NoJobs" = some (.ref D) ∧ PySem.W.kitOne K (.ref C) (.ref D) = some (decide (0 = i))
  c1 : ∃ D, mg "NoRule" = some (.ref D) ∧ PySem.W.kitOne K (.ref C) (.ref D) = some (decide (1 = i))
  c2 : ∃ D, mg "NoLengths" = some (.ref D) ∧ PySem.W.kitOne K (.ref C) (.ref D) = some (decide (2 = i))
  c3 : ∃ D, mg "NoLog" = some (.ref D) ∧ PySem.W.kitOne K (.ref C) (.ref D) = some (decide (3 = i))
  c4 : ∃ D, mg "NoMarks" = some (.ref D) ∧ PySem.W.kitOne K (.ref C) (.ref D) = some (decide (4 = i))
  c5 : ∃ D, mg "NoNamed" = some (.ref D) ∧ PySem.W.kitOne K (.ref C) (.ref D) = some (decide (5 = i))
  c6 : ∃ D, mg "NoOrder" = some (.ref D) ∧ PySem.W.kitOne K (.ref C) (.ref D) = some (decide (6 = i))
  c7 : ∃ D, mg "NoText" = some (.ref D) ∧ PySem.W.kitOne K (.ref C) (.ref D) = some (decide (7 = i))
  c8 : ∃ D, mg "NoNumber" = some (.ref D) ∧ PySem.W.kitOne K (.ref C) (.ref D) = some (decide (8 = i))
  c9 : ∃ D, mg "NoName" = some (.ref D) ∧ PySem.W.kitOne K (.ref C) (.ref D) = some (decide (9 = i))
  c10 : ∃ D, mg "NoUndo" = some (.ref D) ∧ PySem.W.kitOne K (.ref C) (.ref D) = some (decide (10 = i))
  c11 : ∃ D, mg "NoLine" = some (.ref D) ∧ PySem.W.kitOne K (.ref C) (.ref D) = some (decide (11 = i))
section
variable {P : Program} {w : World} {K : PySem.W.Frag} {mg : Str → Option Value} {base : Heap}
def spKind (C : Addr) (i : Nat) : Sp := fun vs H Q _ => ∃ (a dd : Addr) (v : V), vs = [.ref a] ∧ H a = some (Xco a (.ref C) (some dd)) ∧ H dd = some (.xd [(("place" : Str), v)]) ∧
  ∀ (t : Addr) (H' : Hp), Same H H' → H' t = some (.tup [.str (words7.getD i ""), v]) → Q (.ref t) H'
theorem scKind : FnScope ["caught", "kinds", "at"] ["caught"] (defScope sKind) := ⟨rfl, rfl, rfl, by decide +kernel, rfl, by decide +kernel, by decide +kernel⟩
theorem ok_kind {C : Addr} {i : Nat} (hi : i < 7) (D : Df K mg "_law_kind" sKind ["caught"]) (B : Blt mg) (N : Kn K mg C i) : Cl P w K mg base CX0 1 "_law_kind" ["caught"] (spKind C i) := by
  refine cl0 D scKind (fun vs H Q E h => ?_) (fun f cdv A outer s H vs Q E hr h => ?_)
  · obtain ⟨a, dd, v, rfl, _⟩ := h
    rfl
  · obtain ⟨a, dd, v, rfl, ha, hdd, k⟩ := h
    obtain ⟨S, mS, kS, _⟩ := N.se
    obtain ⟨D0, m0, k0⟩ := N.c0
    obtain ⟨D1, m1, k1⟩ := N.c1
    obtain ⟨D2, m2, k2⟩ := N.c2
    obtain ⟨D3, m3, k3⟩ := N.c3
    obtain ⟨D4, m4, k4⟩ := N.c4
    obtain ⟨D5, m5, k5⟩ := N.c5
    obtain ⟨D6, m6, k6⟩ := N.c6
    obtain ⟨D7, m7, k7⟩ := N.c7
    obtain ⟨D8, m8, k8⟩ := N.c8
    obtain ⟨D9, m9, k9⟩ := N.c9
    obtain ⟨D10, m10, k10⟩ := N.c10
    obtain ⟨D11, m11, k11⟩ := N.c11
    refine ⟨_, pss_cons (ps_set (i := 1) scKind.nd rfl (Or.inl rfl) (pe_lst (pa_cons (pe_callB call_isX (by rfl) B.isi (by decide +kernel) (pa_cons (pv 0) (pa_cons (pe_glob rfl m0 (show RelV (.ref _) _ from rfl)) pa_nil))) (pa_cons (pe_callB call_isX (by rfl) B.isi (by decide +kernel) (pa_cons (pv 0) (pa_cons (pe_glob rfl m1 (show RelV (.ref _) _ from rfl)) pa_nil))) (pa_cons (pe_callB call_isX (by rfl) B.isi (by decide +kernel) (pa_cons (pv 0) (pa_cons (pe_glob rfl m2 (show RelV (.ref _) _ from rfl)) pa_nil))) pa_nil)))))
      (pss_cons (ps_set (i := 1) scKind.nd rfl (Or.inl rfl) (pe_op op_cat (pv 1) (pe_lst (pa_cons (pe_callB call_isX (by rfl) B.isi (by decide +kernel) (pa_cons (pv 0) (pa_cons (pe_glob rfl m3 (show RelV (.ref _) _ from rfl)) pa_nil))) (pa_cons (pe_callB call_isX (by rfl) B.isi (by decide +kernel) (pa_cons (pv 0) (pa_cons (pe_glob rfl m4 (show RelV (.ref _) _ from rfl)) pa_nil))) (pa_cons (pe_callB call_isX (by rfl) B.isi (by decide +kernel) (pa_cons (pv 0) (pa_cons (pe_glob rfl m5 (show RelV (.ref _) _ from rfl)) pa_nil))) pa_nil))))))
      (pss_cons (ps_set (i := 1) scKind.nd rfl (Or.inl rfl) (pe_op op_cat (pv 1) (pe_lst (pa_cons (pe_callB call_isX (by rfl) B.isi (by decide +kernel) (pa_cons (pv 0) (pa_cons (pe_glob rfl m6 (show RelV (.ref _) _ from rfl)) pa_nil))) (pa_cons (pe_callB call_isX (by rfl) B.isi (by decide +kernel) (pa_cons (pv 0) (pa_cons (pe_glob rfl m7 (show RelV (.ref _) _ from rfl)) pa_nil))) (pa_cons (pe_callB call_isX (by rfl) B.isi (by decide +kernel) (pa_cons (pv 0) (pa_cons (pe_glob rfl m8 (show RelV (.ref _) _ from rfl)) pa_nil))) pa_nil))))))
      (pss_cons (ps_set (i := 1) scKind.nd rfl (Or.inl rfl) (pe_op op_cat (pv 1) (pe_lst (pa_cons (pe_callB call_isX (by rfl) B.isi (by decide +kernel) (pa_cons (pv 0) (pa_cons (pe_glob rfl m9 (show RelV (.ref _) _ from rfl)) pa_nil))) (pa_cons (pe_callB call_isX (by rfl) B.isi (by decide +kernel) (pa_cons (pv 0) (pa_cons (pe_glob rfl m10 (show RelV (.ref _) _ from rfl)) pa_nil))) (pa_cons (pe_callB call_isX (by rfl) B.isi (by decide +kernel) (pa_cons (pv 0) (pa_cons (pe_glob rfl m11 (show RelV (.ref _) _ from rfl)) pa_nil))) pa_nil))))))
      (pss_cons (ps_if (PW.pt (pw_or (pt_not (pt_val (pe_callB call_isX (by rfl) B.isi (by decide +kernel) (pa_cons (pv 0) (pa_cons (pe_glob rfl mS (show RelV (.ref _) _ from rfl)) pa_nil))))) (pw_or (pt_not (pt_val (pe_callB call_isX (by rfl) B.isi (by decide +kernel) (pa_cons (pv 0) (pa_cons (pe_bltn (v := .ty "ValueError") (u := .type "ValueError") (by rfl) N.ve (by decide +kernel) rfl) pa_nil)))))
        (pw_or1 (pt_cmpR op_ne (pe_bm PySem.F.plainAttrs_list PySem.F.slot_list_count PySem.F.type_list_count mt_countV (pv 1) (pa_cons pe_bl pa_nil)) pe_int (nomark _)))))) (pss_one (ps_ret (pe_tup (pa_cons pe_str (pa_cons pe_int pa_nil))))) pss_nil)
      (pss_cons (ps_set (i := 2) scKind.nd rfl (Or.inl rfl) (pe_bm PySem.F.plainAttrs_list PySem.F.slot_list_index PySem.F.type_list_index mt_index (pv 1) (pa_cons pe_bl pa_nil)))
      (pss_cons (ps_if (pt_cmpR op_lt (pv 2) pe_int (nomark _)) (pss_one (ps_ret (pe_tup (pa_cons (pe_ix ix_list (pe_lst (pa_cons pe_str (pa_cons pe_str (pa_cons pe_str (pa_cons pe_str (pa_cons pe_str (pa_cons pe_str (pa_cons pe_str pa_nil)))))))) (pv 2) (fun _ _ => rfl)) (pa_cons (pe_xp (pv 0)) pa_nil))))) pss_nil)
      (pss_cons ps_never (pss_cons ps_never (pss_cons ps_never (pss_one ps_never)))))))))), ?_⟩
    refine ⟨_, rfl, a, C, some dd, _, _, _, rfl, (Same.refl H).at ha, (fun d2 e2 => by cases e2; exact ⟨_, (Same.refl H).at hdd⟩), N.ex, .own _, k0,
      _, rfl, a, C, some dd, _, _, _, rfl, (Same.refl H).at ha, (fun d2 e2 => by cases e2; exact ⟨_, (Same.refl H).at hdd⟩), N.ex, .own _, k1,
      _, rfl, a, C, some dd, _, _, _, rfl, (Same.refl H).at ha, (fun d2 e2 => by cases e2; exact ⟨_, (Same.refl H).at hdd⟩), N.ex, .own _, k2, (by show 3 ≤ sizeLine; decide), fun p1 n1 => ?_⟩
    have s1 := same_new (o := .lst [.bl (decide (0 = i)), .bl (decide (1 = i)), .bl (decide (2 = i))]) n1
    refine ⟨_, rfl, _, rfl, a, C, some dd, _, _, _, rfl, s1.at ha, (fun d2 e2 => by cases e2; exact ⟨_, s1.at hdd⟩), N.ex, .own _, k3,
      _, rfl, a, C, some dd, _, _, _, rfl, s1.at ha, (fun d2 e2 => by cases e2; exact ⟨_, s1.at hdd⟩), N.ex, .own _, k4,
      _, rfl, a, C, some dd, _, _, _, rfl, s1.at ha, (fun d2 e2 => by cases e2; exact ⟨_, s1.at hdd⟩), N.ex, .own _, k5, (by show 3 ≤ sizeLine; decide), fun q1 m1' => ?_⟩
    have t1 := same_new (o := .lst [.bl (decide (3 = i)), .bl (decide (4 = i)), .bl (decide (5 = i))]) m1'
    refine ⟨p1, q1, _, _, rfl, rfl, t1.at upd_same, upd_same, (by show 3 + 3 ≤ sizeLine; decide), fun p2 n2 => ?_⟩
    have s2 := (s1.trans t1).trans (same_new (o := .lst ([.bl (decide (0 = i)), .bl (decide (1 = i)), .bl (decide (2 = i))] ++ [.bl (decide (3 = i)), .bl (decide (4 = i)), .bl (decide (5 = i))])) n2)
    refine ⟨_, rfl, _, rfl, a, C, some dd, _, _, _, rfl, s2.at ha, (fun d2 e2 => by cases e2; exact ⟨_, s2.at hdd⟩), N.ex, .own _, k6,
      _, rfl, a, C, some dd, _, _, _, rfl, s2.at ha, (fun d2 e2 => by cases e2; exact ⟨_, s2.at hdd⟩), N.ex, .own _, k7,
      _, rfl, a, C, some dd, _, _, _, rfl, s2.at ha, (fun d2 e2 => by cases e2; exact ⟨_, s2.at hdd⟩), N.ex, .own _, k8, (by show 3 ≤ sizeLine; decide), fun q2 m2' => ?_⟩
    have t2 := same_new (o := .lst [.bl (decide (6 = i)), .bl (decide (7 = i)), .bl (decide (8 = i))]) m2'
    refine ⟨p2, q2, _, _, rfl, rfl, t2.at upd_same, upd_same, (by show 6 + 3 ≤ sizeLine; decide), fun p3 n3 => ?_⟩
    have s3 := (s2.trans t2).trans (same_new (o := .lst (([.bl (decide (0 = i)), .bl (decide (1 = i)), .bl (decide (2 = i))] ++ [.bl (decide (3 = i)), .bl (decide (4 = i)), .bl (decide (5 = i))]) ++ [.bl (decide (6 = i)), .bl (decide (7 = i)), .bl (decide (8 = i))])) n3)
    refine ⟨_, rfl, _, rfl, a, C, some dd, _, _, _, rfl, s3.at ha, (fun d2 e2 => by cases e2; exact ⟨_, s3.at hdd⟩), N.ex, .own _, k9,
      _, rfl, a, C, some dd, _, _, _, rfl, s3.at ha, (fun d2 e2 => by cases e2; exact ⟨_, s3.at hdd⟩), N.ex, .own _, k10,
      _, rfl, a, C, some dd, _, _, _, rfl, s3.at ha, (fun d2 e2 => by cases e2; exact ⟨_, s3.at hdd⟩), N.ex, .own _, k11, (by show 3 ≤ sizeLine; decide), fun q3 m3' => ?_⟩
    have t3 := same_new (o := .lst [.bl (decide (9 = i)), .bl (decide (10 = i)), .bl (decide (11 = i))]) m3'
    refine ⟨p3, q3, _, _, rfl, rfl, t3.at upd_same, upd_same, (by show 9 + 3 ≤ sizeLine; decide), fun p4 n4 => ?_⟩
    have s4 := (s3.trans t3).trans (same_new (o := .lst ((([.bl (decide (0 = i)), .bl (decide (1 = i)), .bl (decide (2 = i))] ++ [.bl (decide (3 = i)), .bl (decide (4 = i)), .bl (decide (5 = i))]) ++ [.bl (decide (6 = i)), .bl (decide (7 = i)), .bl (decide (8 = i))]) ++ [.bl (decide (9 = i)), .bl (decide (10 = i)), .bl (decide (11 = i))])) n4)
    have e12 : ((([.bl (decide (0 = i)), .bl (decide (1 = i)), .bl (decide (2 = i))] ++ [.bl (decide (3 = i)), .bl (decide (4 = i)), .bl (decide (5 = i))]) ++ [.bl (decide (6 = i)), .bl (decide (7 = i)), .bl (decide (8 = i))]) ++ [.bl (decide (9 = i)), .bl (decide (10 = i)), .bl (decide (11 = i))]) = bits i := rfl
    refine ⟨_, rfl, a, C, some dd, _, _, _, rfl, s4.at ha, (fun d2 e2 => by cases e2; exact ⟨_, s4.at hdd⟩), N.ex, .own _, kS, _, rfl, iteF ?_⟩
    refine ⟨_, rfl, a, C, some dd, _, _, _, rfl, s4.at ha, (fun d2 e2 => by cases e2; exact ⟨_, s4.at hdd⟩), N.ex, .ty "ValueError", N.kv, _, rfl, iteF ?_⟩
    refine ⟨_, rfl, .inl ⟨rfl, _, SqL.of upd_same⟩, p4, _, _, rfl, rfl, SqL.of upd_same, rfl, ?_, ?_⟩
    · rw [e12]
      exact bits_flat i
    rw [e12]
    have ec : (bits i).countP (fun z => eqV z (.bl true)) = 1 := bits_cnt ⟨i, by omega⟩
    rw [ec]
    refine ⟨rfl, _, rfl, iteF ?_⟩
    refine ⟨_, rfl, .inl ⟨rfl, _, SqL.of upd_same⟩, p4, _, _, i, .bl (decide (i = i)), rfl, rfl, SqL.of upd_same, rfl, bits_flat i, bits_get (by omega), by rw [decide_eq_true rfl]; rfl, fun m z' hm hz => ?_, ?_⟩
    · rw [bits_get (by omega)] at hz
      cases hz
      rw [decide_eq_false (by omega)]
      rfl
    refine ⟨_, rfl, _, _, rfl, rfl, _, rfl, ?_⟩
    rw [decide_eq_true (show (i : Int) < 7 by omega)]
    refine iteT ⟨(by show 7 ≤ sizeLine; decide), fun l nl => ?_⟩
    have s5 := s4.trans (same_new (o := .lst (words7.map V.str)) nl)
    have ew : (words7.map V.str)[i]? = some (.str (words7.getD i "")) := by
      rw [List.getElem?_map, List.getD_eq_getElem?_getD]
      have hl : i < words7.length := hi
      rw [List.getElem?_eq_getElem hl]
      rfl
    refine ⟨_, rfl, l, _, _, _, rfl, rfl, SqL.of upd_same, atI_nat ew, _, rfl, a, C, dd, _, v, rfl, s5.at ha, s5.at hdd, by simp [List.lookup], N.xf, N.noP, (by show 2 ≤ sizeLine; decide), fun t nt => ?_⟩
    exact k t _ (s5.trans (same_new nt)) upd_same
end
end Vk
set_option maxHeartbeats 8000000
namespace Vk
open PySem PySem.Spec PyProof.Rows L2
section
variable {P : Program} {w : World} {K : PySem.W.Frag} {mg : Str → Option Value} {base : Heap}
def spKind8 (C : Addr) : Sp := fun vs H Q _ => ∃ (a dd : Addr) (v : V), vs = [.ref a] ∧ H a = some (Xco a (.ref C) (some dd)) ∧ H dd = some (.xd [("number", v)]) ∧
  ∀ (t : Addr) (H' : Hp), Same H H' → H' t = some (.tup [.str "number", v]) → Q (.ref t) H'
theorem ok_kind8 {C : Addr} {i : Nat} (h8 : i = 8) (D : Df K mg "_law_kind" sKind ["caught"]) (B : Blt mg) (N : Kn K mg C i) (noN : PySem.W.findIn K (.ref C) "number" = some none) : Cl P w K mg base CX0 1 "_law_kind" ["caught"] (spKind8 C) := by
  refine cl0 D scKind (fun vs H Q E h => ?_) (fun f cdv A outer s H vs Q E hr h => ?_)
  · obtain ⟨a, dd, v, rfl, _⟩ := h
    rfl
  obtain ⟨a, dd, v, rfl, ha, hdd, k⟩ := h
  obtain ⟨S, mS, kS, _⟩ := N.se
  obtain ⟨D0, m0, k0⟩ := N.c0
  obtain ⟨D1, m1, k1⟩ := N.c1
  obtain ⟨D2, m2, k2⟩ := N.c2
  obtain ⟨D3, m3, k3⟩ := N.c3
  obtain ⟨D4, m4, k4⟩ := N.c4
  obtain ⟨D5, m5, k5⟩ := N.c5
  obtain ⟨D6, m6, k6⟩ := N.c6
  obtain ⟨D7, m7, k7⟩ := N.c7
  obtain ⟨D8, m8, k8⟩ := N.c8
  obtain ⟨D9, m9, k9⟩ := N.c9
  obtain ⟨D10, m10, k10⟩ := N.c10
  obtain ⟨D11, m11, k11⟩ := N.c11
  refine ⟨_, pss_cons (ps_set (i := 1) scKind.nd rfl (Or.inl rfl) (pe_lst (pa_cons (pe_callB call_isX (by rfl) B.isi (by decide +kernel) (pa_cons (pv 0) (pa_cons (pe_glob rfl m0 (show RelV (.ref _) _ from rfl)) pa_nil))) (pa_cons (pe_callB call_isX (by rfl) B.isi (by decide +kernel) (pa_cons (pv 0) (pa_cons (pe_glob rfl m1 (show RelV (.ref _) _ from rfl)) pa_nil))) (pa_cons (pe_callB call_isX (by rfl) B.isi (by decide +kernel) (pa_cons (pv 0) (pa_cons (pe_glob rfl m2 (show RelV (.ref _) _ from rfl)) pa_nil))) pa_nil)))))
    (pss_cons (ps_set (i := 1) scKind.nd rfl (Or.inl rfl) (pe_op op_cat (pv 1) (pe_lst (pa_cons (pe_callB call_isX (by rfl) B.isi (by decide +kernel) (pa_cons (pv 0) (pa_cons (pe_glob rfl m3 (show RelV (.ref _) _ from rfl)) pa_nil))) (pa_cons (pe_callB call_isX (by rfl) B.isi (by decide +kernel) (pa_cons (pv 0) (pa_cons (pe_glob rfl m4 (show RelV (.ref _) _ from rfl)) pa_nil))) (pa_cons (pe_callB call_isX (by rfl) B.isi (by decide +kernel) (pa_cons (pv 0) (pa_cons (pe_glob rfl m5 (show RelV (.ref _) _ from rfl)) pa_nil))) pa_nil))))))
    (pss_cons (ps_set (i := 1) scKind.nd rfl (Or.inl rfl) (pe_op op_cat (pv 1) (pe_lst (pa_cons (pe_callB call_isX (by rfl) B.isi (by decide +kernel) (pa_cons (pv 0) (pa_cons (pe_glob rfl m6 (show RelV (.ref _) _ from rfl)) pa_nil))) (pa_cons (pe_callB call_isX (by rfl) B.isi (by decide +kernel) (pa_cons (pv 0) (pa_cons (pe_glob rfl m7 (show RelV (.ref _) _ from rfl)) pa_nil))) (pa_cons (pe_callB call_isX (by rfl) B.isi (by decide +kernel) (pa_cons (pv 0) (pa_cons (pe_glob rfl m8 (show RelV (.ref _) _ from rfl)) pa_nil))) pa_nil))))))
    (pss_cons (ps_set (i := 1) scKind.nd rfl (Or.inl rfl) (pe_op op_cat (pv 1) (pe_lst (pa_cons (pe_callB call_isX (by rfl) B.isi (by decide +kernel) (pa_cons (pv 0) (pa_cons (pe_glob rfl m9 (show RelV (.ref _) _ from rfl)) pa_nil))) (pa_cons (pe_callB call_isX (by rfl) B.isi (by decide +kernel) (pa_cons (pv 0) (pa_cons (pe_glob rfl m10 (show RelV (.ref _) _ from rfl)) pa_nil))) (pa_cons (pe_callB call_isX (by rfl) B.isi (by decide +kernel) (pa_cons (pv 0) (pa_cons (pe_glob rfl m11 (show RelV (.ref _) _ from rfl)) pa_nil))) pa_nil))))))
    (pss_cons (ps_if (PW.pt (pw_or (pt_not (pt_val (pe_callB call_isX (by rfl) B.isi (by decide +kernel) (pa_cons (pv 0) (pa_cons (pe_glob rfl mS (show RelV (.ref _) _ from rfl)) pa_nil))))) (pw_or (pt_not (pt_val (pe_callB call_isX (by rfl) B.isi (by decide +kernel) (pa_cons (pv 0) (pa_cons (pe_bltn (v := .ty "ValueError") (u := .type "ValueError") (by rfl) N.ve (by decide +kernel) rfl) pa_nil)))))
      (pw_or1 (pt_cmpR op_ne (pe_bm PySem.F.plainAttrs_list PySem.F.slot_list_count PySem.F.type_list_count mt_countV (pv 1) (pa_cons pe_bl pa_nil)) pe_int (nomark _)))))) (pss_one (ps_ret (pe_tup (pa_cons pe_str (pa_cons pe_int pa_nil))))) pss_nil)
    (pss_cons (ps_set (i := 2) scKind.nd rfl (Or.inl rfl) (pe_bm PySem.F.plainAttrs_list PySem.F.slot_list_index PySem.F.type_list_index mt_index (pv 1) (pa_cons pe_bl pa_nil)))
    (pss_cons (ps_if (pt_cmpR op_lt (pv 2) pe_int (nomark _)) (pss_one ps_never) pss_nil)
    (pss_cons (ps_if (pt_cmpR op_eq (pv 2) pe_int (nomark _)) (pss_one ps_never) pss_nil) (pss_cons (ps_if (pt_cmpR op_eq (pv 2) pe_int (nomark _)) (pss_one (ps_ret (pe_tup (pa_cons pe_str (pa_cons (pe_xp (pv 0)) pa_nil))))) pss_nil) (pss_cons ps_never (pss_one ps_never)))))))))), ?_⟩
  refine ⟨_, rfl, a, C, some dd, _, _, _, rfl, (Same.refl H).at ha, (fun d2 e2 => by cases e2; exact ⟨_, (Same.refl H).at hdd⟩), N.ex, .own _, k0,
    _, rfl, a, C, some dd, _, _, _, rfl, (Same.refl H).at ha, (fun d2 e2 => by cases e2; exact ⟨_, (Same.refl H).at hdd⟩), N.ex, .own _, k1,
    _, rfl, a, C, some dd, _, _, _, rfl, (Same.refl H).at ha, (fun d2 e2 => by cases e2; exact ⟨_, (Same.refl H).at hdd⟩), N.ex, .own _, k2, (by show 3 ≤ sizeLine; decide), fun p1 n1 => ?_⟩
  have s1 := same_new (o := .lst [.bl (decide (0 = i)), .bl (decide (1 = i)), .bl (decide (2 = i))]) n1
  refine ⟨_, rfl, _, rfl, a, C, some dd, _, _, _, rfl, s1.at ha, (fun d2 e2 => by cases e2; exact ⟨_, s1.at hdd⟩), N.ex, .own _, k3,
    _, rfl, a, C, some dd, _, _, _, rfl, s1.at ha, (fun d2 e2 => by cases e2; exact ⟨_, s1.at hdd⟩), N.ex, .own _, k4,
    _, rfl, a, C, some dd, _, _, _, rfl, s1.at ha, (fun d2 e2 => by cases e2; exact ⟨_, s1.at hdd⟩), N.ex, .own _, k5, (by show 3 ≤ sizeLine; decide), fun q1 m1' => ?_⟩
  have t1 := same_new (o := .lst [.bl (decide (3 = i)), .bl (decide (4 = i)), .bl (decide (5 = i))]) m1'
  refine ⟨p1, q1, _, _, rfl, rfl, t1.at upd_same, upd_same, (by show 3 + 3 ≤ sizeLine; decide), fun p2 n2 => ?_⟩
  have s2 := (s1.trans t1).trans (same_new (o := .lst ([.bl (decide (0 = i)), .bl (decide (1 = i)), .bl (decide (2 = i))] ++ [.bl (decide (3 = i)), .bl (decide (4 = i)), .bl (decide (5 = i))])) n2)
  refine ⟨_, rfl, _, rfl, a, C, some dd, _, _, _, rfl, s2.at ha, (fun d2 e2 => by cases e2; exact ⟨_, s2.at hdd⟩), N.ex, .own _, k6,
    _, rfl, a, C, some dd, _, _, _, rfl, s2.at ha, (fun d2 e2 => by cases e2; exact ⟨_, s2.at hdd⟩), N.ex, .own _, k7,
    _, rfl, a, C, some dd, _, _, _, rfl, s2.at ha, (fun d2 e2 => by cases e2; exact ⟨_, s2.at hdd⟩), N.ex, .own _, k8, (by show 3 ≤ sizeLine; decide), fun q2 m2' => ?_⟩
  have t2 := same_new (o := .lst [.bl (decide (6 = i)), .bl (decide (7 = i)), .bl (decide (8 = i))]) m2'
  refine ⟨p2, q2, _, _, rfl, rfl, t2.at upd_same, upd_same, (by show 6 + 3 ≤ sizeLine; decide), fun p3 n3 => ?_⟩
  have s3 := (s2.trans t2).trans (same_new (o := .lst (([.bl (decide (0 = i)), .bl (decide (1 = i)), .bl (decide (2 = i))] ++ [.bl (decide (3 = i)), .bl (decide (4 = i)), .bl (decide (5 = i))]) ++ [.bl (decide (6 = i)), .bl (decide (7 = i)), .bl (decide (8 = i))])) n3)
  refine ⟨_, rfl, _, rfl, a, C, some dd, _, _, _, rfl, s3.at ha, (fun d2 e2 => by cases e2; exact ⟨_, s3.at hdd⟩), N.ex, .own _, k9,
    _, rfl, a, C, some dd, _, _, _, rfl, s3.at ha, (fun d2 e2 => by cases e2; exact ⟨_, s3.at hdd⟩), N.ex, .own _, k10,
    _, rfl, a, C, some dd, _, _, _, rfl, s3.at ha, (fun d2 e2 => by cases e2; exact ⟨_, s3.at hdd⟩), N.ex, .own _, k11, (by show 3 ≤ sizeLine; decide), fun q3 m3' => ?_⟩
  have t3 := same_new (o := .lst [.bl (decide (9 = i)), .bl (decide (10 = i)), .bl (decide (11 = i))]) m3'
  refine ⟨p3, q3, _, _, rfl, rfl, t3.at upd_same, upd_same, (by show 9 + 3 ≤ sizeLine; decide), fun p4 n4 => ?_⟩
  have s4 := (s3.trans t3).trans (same_new (o := .lst ((([.bl (decide (0 = i)), .bl (decide (1 = i)), .bl (decide (2 = i))] ++ [.bl (decide (3 = i)), .bl (decide (4 = i)), .bl (decide (5 = i))]) ++ [.bl (decide (6 = i)), .bl (decide (7 = i)), .bl (decide (8 = i))]) ++ [.bl (decide (9 = i)), .bl (decide (10 = i)), .bl (decide (11 = i))])) n4)
  have e12 : ((([.bl (decide (0 = i)), .bl (decide (1 = i)), .bl (decide (2 = i))] ++ [.bl (decide (3 = i)), .bl (decide (4 = i)), .bl (decide (5 = i))]) ++ [.bl (decide (6 = i)), .bl (decide (7 = i)), .bl (decide (8 = i))]) ++ [.bl (decide (9 = i)), .bl (decide (10 = i)), .bl (decide (11 = i))]) = bits i := rfl
  refine ⟨_, rfl, a, C, some dd, _, _, _, rfl, s4.at ha, (fun d2 e2 => by cases e2; exact ⟨_, s4.at hdd⟩), N.ex, .own _, kS, _, rfl, iteF ?_⟩
  refine ⟨_, rfl, a, C, some dd, _, _, _, rfl, s4.at ha, (fun d2 e2 => by cases e2; exact ⟨_, s4.at hdd⟩), N.ex, .ty "ValueError", N.kv, _, rfl, iteF ?_⟩
  refine ⟨_, rfl, .inl ⟨rfl, _, SqL.of upd_same⟩, p4, _, _, rfl, rfl, SqL.of upd_same, rfl, ?_, ?_⟩
  · rw [e12]
    exact bits_flat i
  rw [e12]
  have ec : (bits i).countP (fun z => eqV z (.bl true)) = 1 := bits_cnt ⟨i, by omega⟩
  rw [ec]
  refine ⟨rfl, _, rfl, iteF ?_⟩
  refine ⟨_, rfl, .inl ⟨rfl, _, SqL.of upd_same⟩, p4, _, _, i, .bl (decide (i = i)), rfl, rfl, SqL.of upd_same, rfl, bits_flat i, bits_get (by omega), by rw [decide_eq_true rfl]; rfl, fun m z' hm hz => ?_, ?_⟩
  · rw [bits_get (by omega)] at hz
    cases hz
    rw [decide_eq_false (by omega)]
    rfl
  refine ⟨_, rfl, _, _, rfl, rfl, _, rfl, ?_⟩
  rw [decide_eq_false (show ¬ (i : Int) < 7 by omega)]
  refine iteF ⟨_, rfl, rfl, _, rfl, ?_⟩
  rw [show decide (V.int (i : Int) = V.int 7) = false from decide_eq_false (fun z => by have z2 := V.int.inj z; omega)]
  refine iteF ⟨_, rfl, rfl, _, rfl, ?_⟩
  rw [show decide (V.int (i : Int) = V.int 8) = true from decide_eq_true (by rw [h8]; rfl)]
  refine iteT ⟨_, rfl, a, C, dd, _, v, rfl, s4.at ha, s4.at hdd, by simp [List.lookup], N.xf, noN, (by show 2 ≤ sizeLine; decide), fun t nt => ?_⟩
  exact k t _ (s4.trans (same_new nt)) upd_same
end
end Vk
set_option maxHeartbeats 4000000
namespace Vk
open PySem PySem.Spec PyProof.Rows L2
section
variable {P : Program} {w : World} {K : PySem.W.Frag} {mg : Str → Option Value} {base : Heap}
theorem scInteger : FnScope ["value", "least"] ["value", "least"] (defScope sInteger) := ⟨rfl, rfl, rfl, by decide +kernel, rfl, by decide +kernel, by decide +kernel⟩
theorem ok_integer (D : Df K mg "is_integer" sInteger ["value", "least"]) (B : Blt mg) : Cl P w K mg base CX0 1 "is_integer" ["value", "least"] (spInteger K) := by
  refine cl0 D scInteger (fun vs H Q E h => ?_) (fun f cdv A outer s H vs Q E hr h => ?_)
  · obtain ⟨v, d, least, rfl, _⟩ := h
    rfl
  · obtain ⟨v, d, least, rfl, hd, k⟩ := h
    refine ⟨_, pss_one (ps_ret (pe_and (pe_callB call_isi (by rfl) B.isi (by decide +kernel) (pa_cons (pv 0) (pa_cons (pe_bltn (v := .ty "int") (u := .type "int") (by rfl) B.int (by decide +kernel) rfl) pa_nil))) (pe_and (pe_not (pe_callB call_isi (by rfl) B.isi (by decide +kernel) (pa_cons (pv 0) (pa_cons (pe_bltn (v := .ty "bool") (u := .type "bool") (by rfl) B.bool (by decide +kernel) rfl) pa_nil)))) (pe_one (pe_cmpR op_ge (pv 0) (pv 1) (nomark _)))))), ?_⟩
    refine ⟨_, rfl, v, _, _, _, _, rfl, .ty "int", dp_ty hd, kit_int hd, _, rfl, ?_⟩
    cases hd with
    | int i =>
      refine iteT ⟨_, rfl, _, _, _, _, _, rfl, .ty "bool", dp_ty (.int i), kit_bool (H := H) (.int i), _, rfl, _, rfl, iteT ?_⟩
      exact ⟨_, rfl, _, rfl, _, _, rfl, rfl, k⟩
    | bl b => exact iteT ⟨_, rfl, _, _, _, _, _, rfl, .ty "bool", dp_ty (.bl b), kit_bool (H := H) (.bl b), _, rfl, _, rfl, iteF k⟩
    | non => exact iteF k
    | str x => exact iteF k
    | lst q r => exact iteF k
    | tup q r => exact iteF k
theorem scInt : FnScope ["value", "least"] ["value", "least"] (defScope sInt) := ⟨rfl, rfl, rfl, by decide +kernel, rfl, by decide +kernel, by decide +kernel⟩
theorem ok_int (D : Df K mg "_law_is_int" sInt ["value", "least"]) (B : Blt mg) : Cl P w K mg base CX0 1 "_law_is_int" ["value", "least"] (spInteger K) := by
  refine cl0 D scInt (fun vs H Q E h => ?_) (fun f cdv A outer s H vs Q E hr h => ?_)
  · obtain ⟨v, d, least, rfl, _⟩ := h
    rfl
  · obtain ⟨v, d, least, rfl, hd, k⟩ := h
    refine ⟨_, pss_one (ps_ret (pe_and (pe_callB call_isi (by rfl) B.isi (by decide +kernel) (pa_cons (pv 0) (pa_cons (pe_bltn (v := .ty "int") (u := .type "int") (by rfl) B.int (by decide +kernel) rfl) pa_nil))) (pe_and (pe_not (pe_callB call_isi (by rfl) B.isi (by decide +kernel) (pa_cons (pv 0) (pa_cons (pe_bltn (v := .ty "bool") (u := .type "bool") (by rfl) B.bool (by decide +kernel) rfl) pa_nil)))) (pe_one (pe_cmpR op_ge (pv 0) (pv 1) (nomark _)))))), ?_⟩
    refine ⟨_, rfl, v, _, _, _, _, rfl, .ty "int", dp_ty hd, kit_int hd, _, rfl, ?_⟩
    cases hd with
    | int i =>
      refine iteT ⟨_, rfl, _, _, _, _, _, rfl, .ty "bool", dp_ty (.int i), kit_bool (H := H) (.int i), _, rfl, _, rfl, iteT ?_⟩
      exact ⟨_, rfl, _, rfl, _, _, rfl, rfl, k⟩
    | bl b => exact iteT ⟨_, rfl, _, _, _, _, _, rfl, .ty "bool", dp_ty (.bl b), kit_bool (H := H) (.bl b), _, rfl, _, rfl, iteF k⟩
    | non => exact iteF k
    | str x => exact iteF k
    | lst q r => exact iteF k
    | tup q r => exact iteF k
theorem scTupleOf : FnScope ["value", "many"] ["value", "many"] (defScope sTupleOf) := ⟨rfl, rfl, rfl, by decide +kernel, rfl, by decide +kernel, by decide +kernel⟩
theorem ok_tupleOf (D : Df K mg "is_tuple_of" sTupleOf ["value", "many"]) (B : Blt mg) : Cl P w K mg base CX0 1 "is_tuple_of" ["value", "many"] (spTupleOf K) := by
  refine cl0 D scTupleOf (fun vs H Q E h => ?_) (fun f cdv A outer s H vs Q E hr h => ?_)
  · obtain ⟨v, d, n, rfl, _⟩ := h
    rfl
  · obtain ⟨v, d, n, rfl, hd, k⟩ := h
    refine ⟨_, pss_one (ps_ret (pe_and (pe_callB call_isi (by rfl) B.isi (by decide +kernel) (pa_cons (pv 0) (pa_cons (pe_bltn (v := .ty "tuple") (u := .type "tuple") (by rfl) B.tuple (by decide +kernel) rfl) pa_nil))) (pe_one (pe_cmpR op_eq (pe_callB call_len_seq (by rfl) B.len PySem.boot_len (pa_cons (pv 0) pa_nil)) (pv 1) (nomark _))))), ?_⟩
    refine ⟨_, rfl, v, _, _, _, _, rfl, .ty "tuple", dp_ty hd, kit_tup hd, _, rfl, ?_⟩
    cases hd with
    | int i => exact iteF k
    | bl b => exact iteF k
    | non => exact iteF k
    | str x => exact iteF k
    | lst q r => exact iteF k
    | @tup a xs ds q r =>
      refine iteT ⟨_, rfl, _, xs, rfl, .inr q, _, rfl, rfl, ?_⟩
      have e : decide (V.int (xs.length : Nat) = V.int n) = tupleND n (.tuple ds) := by
        show _ = decide ((ds.length : Int) = n)
        rw [dps_len r]
        by_cases z : (ds.length : Int) = n
        · rw [z, decide_eq_true rfl, decide_eq_true rfl]
        · rw [decide_eq_false z, decide_eq_false (fun y => z (V.int.inj y))]
      show Q (.bl (decide (V.int (xs.length : Nat) = V.int n))) H
      rw [e]
      exact k
end
end Vk
set_option maxHeartbeats 4000000
/-! all(lo <= c <= hi for c in text) -/
namespace Vk
open PySem PySem.Spec PyProof.Rows L2 GxR
def between (lo hi : Str) (c : Nat) : Bool := !decide ([c] < lo.cps.toList) && !decide (hi.cps.toList < [c])
theorem elt_between {prog : Program} {w : World} {scope : Scope} {x lo hi : Str} {j1 j2 : Nat} {p1 p2 p3 p4 : Pos} (hk : scope.kind = .function) (hl : scope.names.lookup x = some .local) (hd : (x == ("__debug__" : Str)) = false := by decide) :
    EltP prog w scope x (.Compare (.Constant (.str lo) j1 p1) [.LtE, .LtE] [.Name x p2, .Constant (.str hi) j2 p3] p4) (between lo hi) := by
  intro cenv A' E' c t s₂ m₂ hs hn hm
  refine Compare_chain ?_
  refine Calls.Constant_str (chain_link ?_)
  refine wpAny_Name (wpAny_loadName_local (by rw [hs]; exact hk) (show cenv.scope.names.lookup x = some .local by rw [hs]; exact hl) hn hm ?_) hd
  refine PySem.P.le_str (wpAny_truthy_bool ?_)
  have e1 : (⟨#[c]⟩ : Str).cps.toList = [c] := rfl
  cases h1 : decide ([c] < lo.cps.toList) with
  | true =>
    refine ite_ff ⟨?_, keeps_tok _ _⟩
    unfold between
    rw [h1]
    rfl
  | false =>
    refine ite_tt (chain_last (Calls.Constant_str (PySem.P.le_str ⟨?_, keeps_tok _ _⟩)))
    unfold between
    rw [h1]
    rfl
end Vk
set_option maxHeartbeats 4000000
namespace Vk
open PySem PySem.Spec PyProof.Rows L2 GxR
/-- a def whose code object stands at c -/
structure DfC (K : PySem.W.Frag) (mg : Str → Option Value) (x : Str) (st : Stmt) (ps : List Str) (c : Addr) : Prop where
  ex : ∃ (f : Addr) (oc : Value) (od : Option Addr) (kV doc pm : Value) (an : Option Addr) (ct : Value) (osl : Array (Option Value)), mg x = some (.ref f) ∧
    K.lookup f = some ⟨oc, od, .func (PySem.W.fnOf x x (defArgs st) (defBody st) (defScope st) .none kV doc pm an (.ref c) ct), osl⟩ ∧ PySem.W.codeIn K (.ref c) x = true ∧ PySem.W.keepIn K (.ref f) = true ∧
    Binds K (PySem.W.fnOf x x (defArgs st) (defBody st) (defScope st) .none kV doc pm an (.ref c) ct) ps []
theorem clC {P : Program} {w : World} {K : PySem.W.Frag} {mg : Str → Option Value} {base : Heap} {x : Str} {st : Stmt} {N ps : List Str} {k : Nat} {sp : Sp} {c : Addr} (D : DfC K mg x st ps c) (S : FnScope N ps (defScope st)) (len : ∀ vs H Q E, sp vs H Q E → vs.length = ps.length)
    (body : ∀ (f : Addr) (A : Around) (outer : List Env) (s : Shared) (H : Hp) (vs : List V) (Q : VK) (E : XK), Room k (A.deeper (envOfC x (defScope st) s.heap.objs.size f (.ref c))) → sp vs H Q E →
      ∃ t, PSs (cxOf CX0 P w K mg base N x (defScope st) f (.ref c) A outer s H E).nox (defBody st) t ∧ t { nx := fun _ H' => Q .non H', rt := Q } (start N vs) H) : Cl P w K mg base CX0 (k + 1) x ps sp := by
  obtain ⟨f, oc, od, kV, doc, pm, an, ct, osl, hm, lk, hcd, kp, b⟩ := D.ex
  refine ⟨f, _, hm, kp, b, fn_of lk hcd S len fun A outer s H vs Q E hr hsp => ?_⟩
  obtain ⟨t, h, q⟩ := body f A outer s H vs Q E hr hsp
  exact ⟨t, h.nox, q⟩
theorem twoLoc {R : Str × NameKind → Prop} {a b : Str} : ∀ y ∈ [(a, NameKind.local), (b, NameKind.local)], y.2 = .free → R y := by
  intro y hy e
  rcases List.mem_cons.mp hy with rfl | hy
  · cases e
  · rcases List.mem_cons.mp hy with rfl | hy
    · cases e
    · cases hy
def smallS : PyData → Prop
  | .str s => s.length ≤ 1000
  | _ => True
def nameD : PyData → Bool
  | .str s => decide (1 ≤ s.length) && (decide (s.length ≤ 8) && s.cps.toList.all (between "a" "z"))
  | _ => false
section
variable {P : Program} {w : World} {K : PySem.W.Frag} {mg : Str → Option Value} {base : Heap}
def spName (K : PySem.W.Frag) (T : Addr) : Sp := fun vs H Q _ => ∃ (v : V) (d : PyData), vs = [v] ∧ Dp K H v d ∧ smallS d ∧ TabG H T ∧ ∀ H', Same H H' → Q (.bl (nameD d)) H'
theorem scName : FnScope ["value"] ["value"] (defScope sName) := ⟨rfl, rfl, rfl, by decide +kernel, rfl, by decide +kernel, by decide +kernel⟩
theorem ok_name {c T : Addr} (D : DfC K mg "is_name" sName ["value"] c) (TB : TabB base mg c T) (B : Blt mg) (al : mg "all" = none) : Cl P w K mg base CX0 1 "is_name" ["value"] (spName K T) := by
  refine clC D scName (fun vs H Q E h => ?_) (fun f A outer s H vs Q E hr h => ?_)
  · obtain ⟨v, d, rfl, _⟩ := h
    rfl
  · obtain ⟨v, d, rfl, hd, sm, tg, k⟩ := h
    refine ⟨_, pss_cons (ps_if (PW.pt (pw_or (pt_not (pt_val (pe_callB call_isi (by rfl) B.isi (by decide +kernel) (pa_cons (pv 0) (pa_cons (pe_bltn (v := .ty "str") (u := .type "str") (by rfl) B.str (by decide +kernel) rfl) pa_nil))))) (pw_or1 (pt_not (pt_chain op_le op_le pe_int (pe_callB call_len (by rfl) B.len PySem.boot_len (pa_cons (pv 0) pa_nil)) pe_int))))) (pss_one (ps_ret pe_bl)) pss_nil)
      (pss_one (ps_ret (pe_allS (c := c) (P := T) (pb := between "a" "z") hr (by rfl) al (by decide +kernel) TB rfl ⟨rfl, rfl, by decide +kernel, by decide +kernel, by decide +kernel, twoLoc⟩ (pv 0) (elt_between rfl (by decide +kernel)) (fun _ => rfl)))), ?_⟩
    refine ⟨_, rfl, v, _, _, _, _, rfl, .ty "str", dp_ty hd, kit_strT hd, _, rfl, ?_⟩
    have fin : ∀ b, nameD d = b → ∀ H', Same H H' → Q (.bl b) H' := fun b e H' s1 => by
      have z := k H' s1
      rw [e] at z
      exact z
    cases hd with
    | non => exact iteT (iteT (fin _ rfl H (Same.refl H)))
    | int i => exact iteT (iteT (fin _ rfl H (Same.refl H)))
    | bl b => exact iteT (iteT (fin _ rfl H (Same.refl H)))
    | lst q r => exact iteT (iteT (fin _ rfl H (Same.refl H)))
    | tup q r => exact iteT (iteT (fin _ rfl H (Same.refl H)))
    | str x =>
      refine iteF ⟨_, rfl, .str x, x.length, rfl, ⟨Nat.le_trans (show x.length ≤ 1000 from sm) (by decide), rfl⟩, _, _, rfl, rfl, _, rfl, ?_⟩
      have e : nameD (.str x) = (decide (1 ≤ x.length) && (decide (x.length ≤ 8) && x.cps.toList.all (between "a" "z"))) := rfl
      refine ite2 (fun z1 => ?_) (fun z1 => ?_)
      · have z2 : (1 : Int) ≤ (x.length : Nat) := of_decide_eq_true z1
        have e1 : decide (1 ≤ x.length) = true := decide_eq_true (by omega)
        refine ⟨_, _, rfl, rfl, _, rfl, ?_⟩
        by_cases z3 : x.length ≤ 8
        · rw [decide_eq_true (show ((x.length : Nat) : Int) ≤ 8 by omega)]
          refine iteF ⟨_, rfl, x, rfl, tg, fun H2 tb => fin _ ?_ H2 (same_tabbed tb tg)⟩
          rw [e, e1, decide_eq_true z3]
          rfl
        · rw [decide_eq_false (show ¬ ((x.length : Nat) : Int) ≤ 8 by omega)]
          refine iteT (fin _ ?_ H (Same.refl H))
          rw [e, e1, decide_eq_false z3]
          rfl
      · have z2 : ¬ 1 ≤ x.length := fun y => z1 (decide_eq_true (by omega))
        refine ⟨_, rfl, iteT (fin _ ?_ H (Same.refl H))⟩
        rw [e, decide_eq_false z2]
        rfl
end
end Vk
set_option maxHeartbeats 4000000
namespace Vk
open PySem PySem.Spec PyProof.Rows L2 GxR
/-! ### data of a job -/
def headD : PyData → Bool
  | .tuple [a, _] => flatD a
  | _ => true
theorem tup_two {d : PyData} (h : tupleND 2 d = true) : ∃ a b, d = .tuple [a, b] := by
  cases d with
  | tuple ds =>
    have z : (ds.length : Int) = 2 := of_decide_eq_true h
    match ds, z with
    | [a, b], _ => exact ⟨a, b, rfl⟩
    | [], z => cases z
    | [_], z => cases z
    | _ :: _ :: _ :: l, z => simp only [List.length_cons] at z; omega
  | _ => cases h
theorem tup_three {d : PyData} (h : tupleND 3 d = true) : ∃ a b c, d = .tuple [a, b, c] := by
  cases d with
  | tuple ds =>
    have z : (ds.length : Int) = 3 := of_decide_eq_true h
    match ds, z with
    | [a, b, c], _ => exact ⟨a, b, c, rfl⟩
    | [], z => cases z
    | [_], z => cases z
    | [_, _], z => cases z
    | _ :: _ :: _ :: _ :: l, z => simp only [List.length_cons] at z; omega
  | _ => cases h
theorem dp_two {K : PySem.W.Frag} {H : Hp} {v : V} {a b : PyData} (h : Dp K H v (.tuple [a, b])) : ∃ p x y, v = .ref p ∧ SqT K H p [x, y] ∧ Dp K H x a ∧ Dp K H y b := by
  obtain ⟨p, xs, rfl, q, r⟩ := dp_tuple h
  cases r with
  | cons h1 r =>
    cases r with
    | cons h2 r =>
      cases r
      exact ⟨p, _, _, rfl, q, h1, h2⟩
theorem dp_three {K : PySem.W.Frag} {H : Hp} {v : V} {a b c : PyData} (h : Dp K H v (.tuple [a, b, c])) : ∃ p x y z, v = .ref p ∧ SqT K H p [x, y, z] ∧ Dp K H x a ∧ Dp K H y b ∧ Dp K H z c := by
  obtain ⟨p, xs, rfl, q, r⟩ := dp_tuple h
  cases r with
  | cons h1 r =>
    cases r with
    | cons h2 r =>
      cases r with
      | cons h3 r =>
        cases r
        exact ⟨p, _, _, _, rfl, q, h1, h2, h3⟩
def atS (s : Str) : PyData → Bool
  | .str x => decide (x = s)
  | _ => false
theorem scal_S {K : PySem.W.Frag} {H : Hp} {v : V} {d : PyData} {s : Str} (h : Dp K H v d) (f : flatD d = true) : scal v (.str s) = true := by
  cases h with
  | lst q r => cases f
  | tup q r => cases f
  | _ => rfl
theorem eq_S {K : PySem.W.Frag} {H : Hp} {v : V} {d : PyData} {s : Str} (h : Dp K H v d) : decide (v = .str s) = atS s d := by
  cases h with
  | str x =>
    show decide (V.str x = V.str s) = decide (x = s)
    by_cases z : x = s
    · rw [z, decide_eq_true rfl, decide_eq_true rfl]
    · rw [decide_eq_false z, decide_eq_false (fun y => z (V.str.inj y))]
  | non => exact decide_eq_false (fun z => nomatch z)
  | bl b => exact decide_eq_false (fun z => nomatch z)
  | int i => exact decide_eq_false (fun z => nomatch z)
  | lst q r => exact decide_eq_false (fun z => nomatch z)
  | tup q r => exact decide_eq_false (fun z => nomatch z)
def arrivalD : PyData → Bool
  | .tuple [k, x] => if atS "at" k = true then integerD 0 x else (atS "after" k && integerD 1 x)
  | _ => false
def le9 : PyData → Bool
  | .int i => decide (i ≤ 9)
  | _ => false
def jobD : PyData → Bool
  | .tuple [n, a, e] => nameD n && (arrivalD a && (integerD 0 e && le9 e))
  | _ => false
def niceJob : PyData → Prop
  | .tuple [n, a, _] => smallS n ∧ headD a = true
  | _ => True
theorem arr_not {d : PyData} (h : tupleND 2 d = false) : arrivalD d = false := by
  cases d with
  | tuple ds =>
    have z : ¬ (ds.length : Int) = 2 := of_decide_eq_false h
    match ds, z with
    | [a, b], z => exact absurd rfl z
    | [], _ => rfl
    | [_], _ => rfl
    | _ :: _ :: _ :: l, _ => rfl
  | _ => rfl
theorem job_not {d : PyData} (h : tupleND 3 d = false) : jobD d = false := by
  cases d with
  | tuple ds =>
    have z : ¬ (ds.length : Int) = 3 := of_decide_eq_false h
    match ds, z with
    | [a, b, c], z => exact absurd rfl z
    | [], _ => rfl
    | [_], _ => rfl
    | [_, _], _ => rfl
    | _ :: _ :: _ :: _ :: l, _ => rfl
  | _ => rfl
section
variable {P : Program} {w : World} {K : PySem.W.Frag} {mg : Str → Option Value} {base : Heap}
def spArrival (K : PySem.W.Frag) : Sp := fun vs H Q _ => ∃ (v : V) (d : PyData), vs = [v] ∧ Dp K H v d ∧ headD d = true ∧ ∀ H', Same H H' → Q (.bl (arrivalD d)) H'
theorem scArrival : FnScope ["arrival", "kind", "number"] ["arrival"] (defScope sArrival) := ⟨rfl, rfl, rfl, by decide +kernel, rfl, by decide +kernel, by decide +kernel⟩
theorem ok_arrival (D : Df K mg "is_arrival" sArrival ["arrival"]) (T : Cl P w K mg base CX0 1 "is_tuple_of" ["value", "many"] (spTupleOf K)) (I : Cl P w K mg base CX0 1 "is_integer" ["value", "least"] (spInteger K)) : Cl P w K mg base CX0 2 "is_arrival" ["arrival"] (spArrival K) := by
  refine cl0 D scArrival (fun vs H Q E h => ?_) (fun f cdv A outer s H vs Q E hr h => ?_)
  · obtain ⟨v, d, rfl, _⟩ := h
    rfl
  · obtain ⟨v, d, rfl, hd, fl, k⟩ := h
    refine ⟨_, pss_cons (ps_if (pt_not (pt_val (pc T hr (by decide) (pa_cons (pv 0) (pa_cons pe_int pa_nil))))) (pss_one (ps_ret pe_bl)) pss_nil)
      (pss_cons (ps_asg (pv 0) (pg_tup rfl (pgs_cons (pg_name (i := 1) scArrival.nd rfl (.inl rfl)) (pgs_cons (pg_name (i := 2) scArrival.nd rfl (.inl rfl)) pgs_nil))))
      (pss_cons (ps_if (pt_cmpR op_eq (pv 1) pe_str (nomark _)) (pss_one (ps_ret (pc I hr (by decide) (pa_cons (pv 2) (pa_cons pe_int pa_nil))))) pss_nil)
      (pss_one (ps_ret (pe_and (pe_cmpR op_eq (pv 1) pe_str (nomark _)) (pe_one (pc I hr (by decide) (pa_cons (pv 2) (pa_cons pe_int pa_nil))))))))), ?_⟩
    refine ⟨_, rfl, v, d, 2, rfl, hd, _, rfl, ?_⟩
    cases ht : tupleND 2 d with
    | false =>
      refine iteT ?_
      have z := k H (Same.refl H)
      rw [arr_not ht] at z
      exact z
    | true =>
      obtain ⟨a, b, rfl⟩ := tup_two ht
      obtain ⟨p, x, y, rfl, q, ha, hb⟩ := dp_two hd
      have fl2 : flatD a = true := fl
      have kk := k H (Same.refl H)
      have e : arrivalD (.tuple [a, b]) = if atS "at" a = true then integerD 0 b else (atS "after" a && integerD 1 b) := rfl
      rw [e] at kk
      refine iteF ⟨_, rfl, p, _, rfl, q, rfl, _, _, rfl, _, _, rfl, rfl, ?_⟩
      refine ⟨_, rfl, scal_S ha fl2, _, rfl, ?_⟩
      rw [eq_S ha]
      cases h1 : atS "at" a with
      | true =>
        rw [h1] at kk
        exact iteT ⟨_, rfl, y, b, 0, rfl, hb, kk⟩
      | false =>
        rw [h1] at kk
        refine iteF ⟨_, rfl, scal_S ha fl2, _, rfl, ?_⟩
        rw [eq_S ha]
        cases h2 : atS "after" a with
        | true =>
          rw [h2] at kk
          exact iteT ⟨_, rfl, y, b, 1, rfl, hb, kk⟩
        | false =>
          rw [h2] at kk
          exact iteF kk
def spIsJob (K : PySem.W.Frag) (T : Addr) : Sp := fun vs H Q _ => ∃ (v : V) (d : PyData), vs = [v] ∧ Dp K H v d ∧ niceJob d ∧ TabG H T ∧ ∀ H', Same H H' → Q (.bl (jobD d)) H'
theorem scIsJob : FnScope ["job", "name", "arrival", "entry"] ["job"] (defScope sIsJob) := ⟨rfl, rfl, rfl, by decide +kernel, rfl, by decide +kernel, by decide +kernel⟩
theorem ok_isJob {T : Addr} (D : Df K mg "is_job" sIsJob ["job"]) (TU : Cl P w K mg base CX0 1 "is_tuple_of" ["value", "many"] (spTupleOf K)) (I : Cl P w K mg base CX0 1 "is_integer" ["value", "least"] (spInteger K)) (NA : Cl P w K mg base CX0 1 "is_name" ["value"] (spName K T))
    (AR : Cl P w K mg base CX0 2 "is_arrival" ["arrival"] (spArrival K)) : Cl P w K mg base CX0 3 "is_job" ["job"] (spIsJob K T) := by
  refine cl0 D scIsJob (fun vs H Q E h => ?_) (fun f cdv A outer s H vs Q E hr h => ?_)
  · obtain ⟨v, d, rfl, _⟩ := h
    rfl
  · obtain ⟨v, d, rfl, hd, nj, tg, k⟩ := h
    refine ⟨_, pss_cons (ps_if (pt_not (pt_val (pc TU hr (by decide) (pa_cons (pv 0) (pa_cons pe_int pa_nil))))) (pss_one (ps_ret pe_bl)) pss_nil)
      (pss_cons (ps_asg (pv 0) (pg_tup rfl (pgs_cons (pg_name (i := 1) scIsJob.nd rfl (.inl rfl)) (pgs_cons (pg_name (i := 2) scIsJob.nd rfl (.inl rfl)) (pgs_cons (pg_name (i := 3) scIsJob.nd rfl (.inl rfl)) pgs_nil)))))
      (pss_one (ps_ret (pe_and (pc NA hr (by decide) (pa_cons (pv 1) pa_nil)) (pe_and (pc AR hr (by decide) (pa_cons (pv 2) pa_nil)) (pe_and (pc I hr (by decide) (pa_cons (pv 3) (pa_cons pe_int pa_nil)))
        (pe_one (pe_cmpR op_le (pv 3) pe_int (nomark _))))))))), ?_⟩
    refine ⟨_, rfl, v, d, 3, rfl, hd, _, rfl, ?_⟩
    cases ht : tupleND 3 d with
    | false =>
      refine iteT ?_
      have z := k H (Same.refl H)
      rw [job_not ht] at z
      exact z
    | true =>
      obtain ⟨n, a, e, rfl⟩ := tup_three ht
      obtain ⟨p, x, y, z, rfl, q, hn, ha, he⟩ := dp_three hd
      have je : jobD (.tuple [n, a, e]) = (nameD n && (arrivalD a && (integerD 0 e && le9 e))) := rfl
      refine iteF ⟨_, rfl, p, _, rfl, q, rfl, _, _, rfl, _, _, rfl, _, _, rfl, rfl, ?_⟩
      refine ⟨_, rfl, x, n, rfl, hn, nj.1, tg, fun H1 s1 => ⟨_, rfl, ?_⟩⟩
      cases hN : nameD n with
      | false =>
        have z := k H1 s1
        rw [je, hN] at z
        exact iteF z
      | true =>
        refine iteT ⟨_, rfl, y, a, rfl, dp_same s1 ha, nj.2, fun H2 s2 => ⟨_, rfl, ?_⟩⟩
        have s12 := s1.trans s2
        have kk := k H2 s12
        rw [je, hN] at kk
        cases hA : arrivalD a with
        | false =>
          rw [hA] at kk
          exact iteF kk
        | true =>
          rw [hA] at kk
          refine iteT ⟨_, rfl, z, e, 0, rfl, dp_same s12 he, _, rfl, ?_⟩
          cases he with
          | int i =>
            cases hI : integerD 0 (.int i) with
            | false =>
              rw [hI] at kk
              exact iteF kk
            | true =>
              rw [hI] at kk
              exact iteT ⟨_, rfl, _, _, rfl, rfl, kk⟩
          | bl b => exact iteF kk
          | non => exact iteF kk
          | str b => exact iteF kk
          | lst q r => exact iteF kk
          | tup q r => exact iteF kk
end
end Vk
set_option maxHeartbeats 4000000
namespace Vk
open PySem PySem.Spec PyProof.Rows L2 GxR
theorem same_put {H Hc : Hp} {D : Addr} {o : HO} (s : Same H Hc) (n : H D = none) : Same H (upd Hc D o) := by
  have ne : ∀ {b : Addr} {u : HO}, H b = some u → b ≠ D := fun e => ne_of_none e n
  refine ⟨fun b u e nt => ?_, fun b e => ?_, fun P ⟨ps, e, t⟩ => ?_⟩
  · rw [upd_ne (ne e)]
    exact s.at_ b u e nt
  · by_cases z : b = D
    · rw [z] at e
      exact absurd n e
    · rw [upd_ne z]
      exact s.has b e
  · obtain ⟨qs, f, u⟩ := s.tab P ⟨ps, e, t⟩
    exact ⟨qs, by rw [upd_ne (ne e)]; exact f, u⟩
/-- a valid job's parts -/
theorem job_parts {d : PyData} (h : jobD d = true) : ∃ (n k : Str) (t e : Int), d = .tuple [.str n, .tuple [.str k, .int t], .int e] ∧ nameD (.str n) = true ∧ (k = "at" ∨ k = "after") := by
  have ht : tupleND 3 d = true := by
    cases h2 : tupleND 3 d with
    | true => rfl
    | false =>
      rw [job_not h2] at h
      cases h
  obtain ⟨n, a, e, rfl⟩ := tup_three ht
  obtain ⟨h1, h2⟩ := Bool.and_eq_true_iff.mp (show (nameD n && (arrivalD a && (integerD 0 e && le9 e))) = true from h)
  obtain ⟨h3, h4⟩ := Bool.and_eq_true_iff.mp h2
  obtain ⟨h5, _⟩ := Bool.and_eq_true_iff.mp h4
  have hta : tupleND 2 a = true := by
    cases h6 : tupleND 2 a with
    | true => rfl
    | false =>
      rw [arr_not h6] at h3
      cases h3
  obtain ⟨k, x, rfl⟩ := tup_two hta
  have h7 : (if atS "at" k = true then integerD 0 x else (atS "after" k && integerD 1 x)) = true := h3
  have intOf : ∀ {m : Int} {q : PyData}, integerD m q = true → ∃ i, q = .int i := fun {m q} z => by
    cases q with
    | int i => exact ⟨i, rfl⟩
    | _ => cases z
  have strOf : ∀ {s : Str} {q : PyData}, atS s q = true → q = .str s := fun {s q} z => by
    cases q with
    | str x => exact congrArg PyData.str (of_decide_eq_true z)
    | _ => cases z
  obtain ⟨e', rfl⟩ := intOf h5
  cases n with
  | str nm =>
    by_cases h8 : atS "at" k = true
    · rw [if_pos h8] at h7
      obtain ⟨t, rfl⟩ := intOf h7
      have z := strOf h8
      subst z
      exact ⟨nm, _, t, e', rfl, h1, .inl rfl⟩
    · rw [if_neg h8] at h7
      obtain ⟨h9, h10⟩ := Bool.and_eq_true_iff.mp h7
      obtain ⟨t, rfl⟩ := intOf h10
      have z := strOf h9
      subst z
      exact ⟨nm, _, t, e', rfl, h1, .inr rfl⟩
  | _ => cases h1
/-- an arrival before so many finishes -/
def befA (m : Int) : PyData → Bool
  | .tuple [k, .int t] => atS "at" k || decide (t < m)
  | _ => false
def arrD : PyData → PyData
  | .tuple [_, a, _] => a
  | d => d
def waitsD (js : List PyData) (d : PyData) : Bool := match arrD d with
  | .tuple [k, .int m] => !atS "at" k && decide ((((js.map arrD).countP (befA m) : Nat) : Int) < m)
  | _ => false
theorem nice_of {d : PyData} (h : jobD d = true) : niceJob d := by
  obtain ⟨n, k, t, e, rfl, hn, _⟩ := job_parts h
  refine ⟨?_, rfl⟩
  have z : (decide (1 ≤ n.length) && (decide (n.length ≤ 8) && n.cps.toList.all (between "a" "z"))) = true := hn
  have z2 := of_decide_eq_true (Bool.and_eq_true_iff.mp (Bool.and_eq_true_iff.mp z).2).1
  show n.length ≤ 1000
  omega
section
variable {P : Program} {w : World} {K : PySem.W.Frag} {mg : Str → Option Value} {base : Heap}
def spWaits (K : PySem.W.Frag) : Sp := fun vs H Q _ => ∃ (v u : V) (d : PyData) (js : List PyData), vs = [v, u] ∧ Dp K H v d ∧ Dp K H u (.tuple js) ∧ jobD d = true ∧ js.all jobD = true ∧ js.length ≤ 1000 ∧ ∀ H', Same H H' → Q (.bl (waitsD js d)) H'
theorem scWaits : FnScope ["job", "jobs", "kind", "number", "arrivals", "ahead", "other"] ["job", "jobs"] (defScope sWaits) := ⟨rfl, rfl, rfl, by decide +kernel, rfl, by decide +kernel, by decide +kernel⟩
theorem ok_waits (D : Df K mg "waits_forever" sWaits ["job", "jobs"]) (B : Blt mg) : Cl P w K mg base CX0 1 "waits_forever" ["job", "jobs"] (spWaits K) := by
  refine cl0 D scWaits (fun vs H Q E h => ?_) (fun f cdv A outer s H vs Q E hr h => ?_)
  · obtain ⟨v, u, d, js, rfl, _⟩ := h
    rfl
  · obtain ⟨v, u, d, js, rfl, hd, hj, jd, okj, l1000, k⟩ := h
    refine ⟨_, pss_cons (ps_asg (pe_ix ix_tup (pv 0) pe_int (fun _ _ => rfl)) (pg_tup rfl (pgs_cons (pg_name (i := 2) scWaits.nd rfl (.inl rfl)) (pgs_cons (pg_name (i := 3) scWaits.nd rfl (.inr rfl)) pgs_nil))))
      (pss_cons (ps_if (pt_cmpR op_eq (pv 2) pe_str (nomark _)) (pss_one (ps_ret pe_bl)) pss_nil)
      (pss_cons (ps_setLc (i := 4) (own := [("other", 6)]) (g := gName 6) (tt := tYes) (te := tOp (rIxT K) (tVar 6) (tC (.int 1))) rfl scWaits.nd rfl rfl (sw_true rfl rfl rfl (by decide +kernel)) (pi_tup (pv 1)) (blkOk_by (own := [("other", 6)]) (N := ["job", "jobs", "kind", "number", "arrivals", "ahead", "other"]) (sc := defScope sWaits) (by decide +kernel))
        (fun _ _ _ _ _ => pg_name (i := 6) scWaits.nd rfl (Or.inl rfl)) (fun _ _ _ _ _ => pts_nil) (fun _ _ _ _ _ => pe_ix ix_tup (pv 6) pe_int (fun _ _ => rfl)))
      (pss_cons (ps_setLc (i := 5) (own := [("other", 6)]) (g := gName 6) (tt := tOr (tTest (tOp rEq (tOp (rIxT K) (tVar 6) (tC (.int 0))) (tC (.str ("at" : Str))))) (tTest (tOp (rI0 fun i j => .bl (decide (i < j))) (tOp (rIxT K) (tVar 6) (tC (.int 1))) (tVar 3)))) (te := tVar 6) rfl scWaits.nd rfl rfl (sw_true rfl rfl rfl (by decide +kernel)) (pi_list (pv 4)) (blkOk_by (own := [("other", 6)]) (N := ["job", "jobs", "kind", "number", "arrivals", "ahead", "other"]) (sc := defScope sWaits) (by decide +kernel))
        (fun _ _ _ _ _ => pg_name (i := 6) scWaits.nd rfl (Or.inl rfl)) (fun _ _ _ _ _ => pts_one (PW.pt (pw_or (pt_cmpR op_eq (pe_ix ix_tup (pv 6) pe_int (fun _ _ => rfl)) pe_str (nomark _)) (pw_or1 (pt_cmpR op_lt (pe_ix ix_tup (pv 6) pe_int (fun _ _ => rfl)) (pv 3) (nomark _))))))
        (fun _ _ _ _ _ => pv 6))
      (pss_one (ps_ret (pe_cmpR op_lt (pe_callB call_len_seq (by rfl) B.len PySem.boot_len (pa_cons (pv 5) pa_nil)) (pv 3) (nomark _))))))), ?_⟩
    obtain ⟨n, kd, t, e, rfl, hn, hk⟩ := job_parts jd
    obtain ⟨p, x, y, z, rfl, q, dn, da, de⟩ := dp_three hd
    obtain ⟨pa, kv, tv, rfl, qa, dk, dt⟩ := dp_two da
    have ek := dp_str dk
    subst ek
    have et := dp_int dt
    subst et
    obtain ⟨pj, xs, rfl, qj, rj⟩ := dp_tuple hj
    have xl := dps_len rj
    have we : waitsD js (.tuple [.str n, .tuple [.str kd, .int t], .int e]) = (!decide (kd = "at") && decide ((((js.map arrD).countP (befA t) : Nat) : Int) < t)) := rfl
    refine ⟨_, rfl, p, _, _, _, rfl, rfl, q, rfl, pa, _, rfl, qa, rfl, _, _, rfl, _, _, rfl, rfl, ?_⟩
    refine ⟨_, rfl, rfl, _, rfl, ?_⟩
    have eS := eq_S (s := ("at" : Str)) dk
    rw [eS]
    have kk : ∀ H', Same H H' → ∀ b, waitsD js (.tuple [.str n, .tuple [.str kd, .int t], .int e]) = b → Q (.bl b) H' := fun H' s1 b e => by
      have z := k H' s1
      rw [e] at z
      exact z
    cases hat : atS "at" (.str kd) with
    | true =>
      refine iteT (kk H (Same.refl H) _ ?_)
      rw [we, show decide (kd = "at") = true from hat]
      rfl
    | false =>
      refine iteF ?_
      -- arrivals
      refine ⟨_, rfl, pj, rfl, ⟨_, qj⟩, fun D1 nD1 => ?_⟩
      refine lc_it (walk_tup (K := K) (a := pj) (xs := xs)) (fun m Hc => ∃ acc, Same H Hc ∧ Hc D1 = some (.lst acc) ∧ DpAll K H acc ((js.map arrD).take m))
        ⟨[], same_new nD1, upd_same, .nil⟩ (fun m Hc _ ⟨acc, s1, _⟩ => same_seqT s1 qj) ?_ ?_
      · rintro m y1 Hc Hc2 hm ⟨acc, s1, hD, dac⟩ ⟨rfl, hy1⟩
        obtain ⟨e1, he1, de1⟩ := dps_getV rj hy1
        obtain ⟨n1, k1, t1, x1, rfl, _, _⟩ := job_parts (List.all_eq_true.mp okj e1 (List.mem_of_getElem? he1))
        obtain ⟨p1, v1, v2, v3, rfl, q1, dv1, dv2, dv3⟩ := dp_three de1
        refine ⟨rfl, ?_⟩
        refine ⟨_, rfl, p1, _, _, _, rfl, rfl, same_seqT s1 q1, rfl, acc, hD, ?_, acc ++ [v2], same_put s1 nD1, upd_same, ?_⟩
        · have z := dps_len dac
          rw [List.length_take, List.length_map] at z
          exact Nat.lt_of_le_of_lt (show acc.length ≤ 1000 by omega) (by decide)
        · have e2 : (js.map arrD).take (m + 1) = (js.map arrD).take m ++ [.tuple [.str k1, .int t1]] := by
            rw [List.take_add_one, List.getElem?_map, he1]
            rfl
          rw [e2]
          exact dps_app dac (.cons dv2 .nil)
      · rintro Hc ⟨acc, s1, hD, dac⟩
        rw [show (js.map arrD).take xs.length = js.map arrD from List.take_of_length_le (by rw [List.length_map]; omega)] at dac
        have al := dps_len dac
        rw [List.length_map] at al
        -- ahead
        refine ⟨_, rfl, D1, rfl, ⟨_, SqL.of hD⟩, fun D2 nD2 => ?_⟩
        have n21 : D1 ≠ D2 := ne_of_none hD nD2
        refine lc_it (walk_list (K := K) (a := D1) (xs := acc)) (fun m Hd => ∃ ac2, Same Hc Hd ∧ Hd D2 = some (.lst ac2) ∧ ac2.length = ((js.map arrD).take m).countP (befA t))
          ⟨[], same_new nD2, upd_same, rfl⟩ (fun m Hd _ ⟨ac2, s2, _⟩ => SqL.of (s2.at hD)) ?_ ?_
        · rintro m y1 Hd0 Hd hm ⟨ac2, s2, hD2, lc2⟩ ⟨rfl, hy1⟩
          obtain ⟨e1, he1, de1⟩ := dps_getV dac hy1
          have he1' := he1
          rw [List.getElem?_map] at he1'
          obtain ⟨j1, hj1, rfl⟩ := Option.map_eq_some_iff.mp he1'
          obtain ⟨n1, k1, t1, x1, rfl, _, hk1⟩ := job_parts (List.all_eq_true.mp okj j1 (List.mem_of_getElem? hj1))
          obtain ⟨p1, v1, v2, rfl, q1, dv1, dv2⟩ := dp_two (show Dp K H y1 (.tuple [.str k1, .int t1]) from de1)
          have ek1 := dp_str dv1
          subst ek1
          have et1 := dp_int dv2
          subst et1
          have q2 := same_seqT (s1.trans s2) q1
          have e2 : ((js.map arrD).take (m + 1)).countP (befA t) = ((js.map arrD).take m).countP (befA t) + (if befA t (.tuple [.str k1, .int t1]) = true then 1 else 0) := by
            rw [List.take_add_one, he1]
            show ((js.map arrD).take m ++ [PyData.tuple [.str k1, .int t1]]).countP (befA t) = _
            rw [List.countP_append, List.countP_singleton]
          have bl : befA t (.tuple [.str k1, .int t1]) = (decide (k1 = "at") || decide (t1 < t)) := rfl
          have small : ac2.length < sizeLine := by
            have z : ((js.map arrD).take m).countP (befA t) ≤ ((js.map arrD).take m).length := List.countP_le_length
            rw [List.length_take, List.length_map] at z
            exact Nat.lt_of_le_of_lt (show ac2.length ≤ 1000 by omega) (by decide)
          have yes : befA t (.tuple [.str k1, .int t1]) = true → ∃ ac, Same Hc (upd Hd D2 (.lst (ac2 ++ [V.ref p1]))) ∧ (upd Hd D2 (.lst (ac2 ++ [V.ref p1]))) D2 = some (.lst ac) ∧ ac.length = ((js.map arrD).take (m + 1)).countP (befA t) := fun hb => by
            refine ⟨_, same_put s2 nD2, upd_same, ?_⟩
            rw [e2, if_pos hb, List.length_append, List.length_singleton, lc2]
          have no : befA t (.tuple [.str k1, .int t1]) = false → ∃ ac, Same Hc Hd ∧ Hd D2 = some (.lst ac) ∧ ac.length = ((js.map arrD).take (m + 1)).countP (befA t) := fun hb => by
            refine ⟨ac2, s2, hD2, ?_⟩
            rw [e2, if_neg (by rw [hb]; exact Bool.false_ne_true), lc2]
            rfl
          refine ⟨rfl, _, rfl, p1, _, _, _, rfl, rfl, q2, rfl, rfl, _, rfl, ?_⟩
          rw [eq_S (s := ("at" : Str)) dv1]
          cases h1 : atS "at" (.str k1) with
          | true => exact iteT (iteT ⟨_, rfl, ac2, hD2, small, yes (by rw [bl, show decide (k1 = "at") = true from h1]; rfl)⟩)
          | false =>
            refine iteF ⟨_, rfl, p1, _, _, _, rfl, rfl, q2, rfl, _, rfl, _, _, rfl, rfl, _, rfl, ?_⟩
            cases h2 : decide (t1 < t) with
            | true => exact iteT ⟨_, rfl, ac2, hD2, small, yes (by rw [bl, h2, Bool.or_true])⟩
            | false => exact iteF (no (by rw [bl, show decide (k1 = "at") = false from h1, h2]; rfl))
        · rintro Hd ⟨ac2, s2, hD2, lc2⟩
          rw [show (js.map arrD).take acc.length = js.map arrD from List.take_of_length_le (by rw [List.length_map]; omega)] at lc2
          refine ⟨_, rfl, D2, ac2, rfl, .inl (SqL.of hD2), _, rfl, _, _, rfl, rfl, ?_⟩
          refine kk Hd (s1.trans s2) _ ?_
          rw [we, show decide (kd = "at") = false from hat, lc2]
          rfl
end
end Vk
set_option maxHeartbeats 4000000
/-! enumerate over a tuple: the pairs are new tuples -/
namespace PySem
set_option maxHeartbeats 4000000 in
theorem vx_enumNew {v : Value} {cell : Obj} {Hh : Heap → Prop} (B : Begins v cell Hh) :
    Meets (Builtin.«enumerate.__new__» ⟨[.type "enumerate", v], []⟩) (fun _ R s => Hh s.heap ∧
      R (.ok (.ret (.ref (s.heap.push cell).objs.size)))
        { s with heap := (s.heap.push cell).push { cls := .type "enumerate", data := .fields #[.none, .bool false, .ref s.heap.objs.size, rawInt 0, .none, .none] } }) :=
  .of_wp fun prog w A R s h => by
    obtain ⟨hp, gs, dr, tk, os⟩ := s
    obtain ⟨hbeg, h⟩ := h
    have subE := sub_enumerate
    have itOf : ∀ {A2 : Around} {E2 : Value → Shared → Prop} {Q2 : Value → Shared → Prop}, Q2 (.ref hp.objs.size) ⟨hp.push cell, gs, dr, tk, os⟩ → wpAny (model prog w) A2 (pyIter v) Q2 E2 ⟨hp, gs, dr, tk, os⟩ :=
      fun q => B.iter prog w _ _ ⟨hp, gs, dr, tk, os⟩ _ hbeg q
    wp_walk using itOf
    refine wpAny_stack_any fun st => wpAny_pure ?_
    split
    · rename_i cc _ _ _ _ _
      cases (cc == Value.type "enumerate") <;> (wp_walk using itOf; exact ⟨_, rfl, h⟩)
    · wp_walk using itOf
      exact ⟨_, rfl, h⟩
section
variable {prog : Program} {w : World} {A : Around} {E : Value → Shared → Prop} {s : Shared}
theorem vx_callEnum {v : Value} {cell : Obj} {Hh : Heap → Prop} {Q : Value → Shared → Prop} (B : Begins v cell Hh) (hbeg : Hh s.heap)
    (h : ∀ h', IsEnum h' (s.heap.objs.size + 1) s.heap.objs.size 0 .none → h'.get? s.heap.objs.size = some cell → (∀ b o, s.heap.get? b = some o → h'.get? b = some o) →
      Q (.ref (s.heap.objs.size + 1)) { s with heap := h' }) :
    wpAny (model prog w) A (call (.type "enumerate") [v]) Q E s := by
  refine callType_new F.called_enumerate (by decide) (F.typeCall_enumerate_1 _) (F.newCall_enumerate_1 _) (fun obj => F.args_object_init_2 obj _) F.entry_enumerate_new
    (vx_enumNew B) ⟨hbeg, ?_⟩
  have sz : (s.heap.push cell).objs.size = s.heap.objs.size + 1 := Heap.size_push ..
  show _ ∧ _
  rw [sz]
  have en : IsEnum ((s.heap.push cell).push { cls := .type "enumerate", data := .fields #[.none, .bool false, .ref s.heap.objs.size, rawInt 0, .none, .none] }) (s.heap.objs.size + 1) s.heap.objs.size 0 .none := by
    have got := Heap.get?_push_size (s.heap.push cell) (o := { cls := .type "enumerate", data := .fields #[.none, .bool false, .ref s.heap.objs.size, rawInt 0, .none, .none] }) rfl
    rw [sz] at got
    exact got
  exact ⟨⟨_, en, rfl⟩, h _ en (Heap.get?_push_of_some _ (Heap.get?_push_size _ B.free)) fun b o x => Heap.get?_push_of_some _ (Heap.get?_push_of_some _ x)⟩
end
end PySem
namespace L2
open PySem PySem.Spec PyProof.Rows
/-- what enumerate gives over the tuple at a: its items in new pairs -/
def IteT (K : PySem.W.Frag) (a : Addr) : It :=
  ⟨fun i H => ∃ (ys : List V) (y : V), SqT K H a ys ∧ ys[i]? = some y, fun i H v H' => ∃ T y, v = .ref T ∧ H T = none ∧ H' = upd H T (.tup [.int (i : Nat), y]) ∧ ∀ ys, SqT K H a ys → ys[i]? = some y,
    fun i H => ∃ ys : List V, SqT K H a ys ∧ ys.length = i⟩
theorem vx_turn {P : Program} {w : World} {K : PySem.W.Frag} {elts : List Expr} {kk : Nat} {tpos : Pos} (a e it : Addr) :
    Turn P w K (.Tuple elts kk tpos) (IteT K a) [e, it] e (fun i h => (∃ old, IsEnum h e it ((i : Nat) : Int) old) ∧ h.IsTupleIter it a i ∧ e ≠ it ∧ a ≠ it ∧ e ≠ a) where
  mem := List.mem_cons_self
  obj := fun i h st b hb => by
    obtain ⟨⟨old, en⟩, ⟨o, ho, hc, hd⟩, _⟩ := st
    have two : b = e ∨ b = it := by simpa using hb
    rcases two with z | z
    · subst z
      exact ⟨_, en, fun v q => nomatch q⟩
    · subst z
      exact ⟨o, ho, fun v q => by rw [hd] at q; cases q⟩
  keep := fun i h h' st k => by
    obtain ⟨⟨old, en⟩, hi, r⟩ := st
    exact ⟨⟨old, k e (by simp) _ en⟩, hi.at fun o q => k it (by simp) o q, r⟩
  item := by
    intro X hP hw hK hc i pins s σ H E I hf st hg
    subst hP hw hK
    obtain ⟨⟨old, en⟩, hit, nei, nai, nea⟩ := st
    obtain ⟨ys, y, hq, hy⟩ := hg
    obtain ⟨its, rv, p, _⟩ := I.tuple hq
    obtain ⟨u, hu, ru⟩ := rv.get hy
    have le : e < s.heap.objs.size := Heap.lt_size en
    have li : it < s.heap.objs.size := by obtain ⟨_, q, _⟩ := hit; exact Heap.lt_size q
    have hin : X.A.in1.handled = none := I.ok.hd hc
    have ilt : i < its.toArray.size := by
      have z := (List.getElem?_eq_some_iff.mp hu).1
      rw [List.size_toArray]
      exact z
    refine wpAny_pyNext_enum_itemD (Draws.tuple hin it a nai its.toArray) en ⟨hit, p⟩ ilt nei (by simp [nei, nea]) fun x h2 tk hx eo st2 hT hsz hk => ?_
    have ex : x = u := by
      have z : its.toArray[i]? = some x := hx
      rw [List.getElem?_toArray, hu] at z
      exact (Option.some.inj z).symm
    subst ex
    refine ⟨_, rfl, wpAny_letOwnedTupleGo_enum (s := { s with heap := h2, toks := tk + 1 }) eo fun h3 he3 sb => ?_⟩
    have hT3 : h3.get? s.heap.objs.size = some { cls := .type "tuple", data := .seq #[.int i tk, x] } := (sb.2 _ (Nat.ne_of_gt le)).trans hT
    have new : ObjOk X.prog X.w (upd H s.heap.objs.size (.tup [.int (i : Nat), y])) h3 s.heap.objs.size (.tup [.int (i : Nat), y]) :=
      ⟨(by show 2 ≤ sizeLine; decide), [.int i tk, x], .cons ⟨_, rfl⟩ (.cons ru .nil), ⟨_, hT3, rfl, _, rfl⟩⟩
    have J : Inv X pins σ (upd H s.heap.objs.size (.tup [.int (i : Nat), y])) { s with heap := h3, toks := tk + 1 } :=
      I.turnedNew (ch := [e, it]) (fun b ob hb q => by
        have n1 : b ≠ e := fun z => hb (by simp [z])
        have n2 : b ≠ it := fun z => hb (by simp [z])
        exact (sb.2 b n1).trans (hk b ob n1 n2 q)) hf (Nat.le_refl _) new
    refine ⟨.ref s.heap.objs.size, _, J, rfl, ⟨_, y, rfl, I.hok.fresh (Nat.le_refl _), rfl, fun zs hz => by rw [I.tuple_inj hz hq]; exact hy⟩, ⟨⟨x, ?_⟩, st2.1.at fun o q => (sb.2 it (Ne.symm nei)).trans q, nei, nai, nea⟩, fun b hb => ?_⟩
    · have en2 : ((i + 1 : Nat) : Int) = (i : Int) + 1 := by omega
      rw [en2]
      exact he3
    · have lb : b < s.heap.objs.size := by
        have two : b = e ∨ b = it := by simpa using hb
        rcases two with z | z
        · rw [z]; exact le
        · rw [z]; exact li
      rw [upd_ne (Nat.ne_of_lt lb)]
      exact (hf b hb).1
  done := by
    intro X hP hw hK hc i pins s σ H E I hf st hg
    subst hP hw hK
    obtain ⟨⟨old, en⟩, hit, nei, nai, nea⟩ := st
    obtain ⟨ys, hq, hy⟩ := hg
    obtain ⟨its, rv, p, _⟩ := I.tuple hq
    obtain ⟨f0, f1, f2, f3, f4, f5⟩ := hf it (by simp)
    have hl := rv.length
    have hi : i = its.toArray.size := by rw [List.size_toArray]; omega
    subst hi
    have hin : X.A.in1.handled = none := I.ok.hd hc
    exact wpAny_pyNext_enum_endD (Draws.tuple hin it a nai its.toArray) en ⟨hit, p⟩ fun h2 eb => ⟨rfl, I.turned (t' := s.toks) (fun b o hb q => eb b o hb q) f0 f1 f3 f4 f5⟩
  self := fun A i s Q E st h => by
    obtain ⟨⟨_, en⟩, _⟩ := st
    exact wpAny_pyIter_enum en h
def iEnumT (K : PySem.W.Frag) (ta : TA) : TI := fun σ H R => ta σ H fun vs H1 => ∃ a ys, vs = [.ref a] ∧ SqT K H1 a ys ∧ R (IteT K a) H1
theorem pi_enumT {X : Cx} {e : Expr} {ta : TA} {p pos tpos : Pos} {elts : List Expr} {kk : Nat} (hm : X.mg "enumerate" = none) (ha : PA X [e] ta) (hg : Gl X "enumerate" := by rfl) (hs : starEach [e] X.env = [(false, eval e X.env)] := by rfl) :
    PI X (.Tuple elts kk tpos) (.Call (.Name "enumerate" p) [e] [] pos) (iEnumT X.K ta) := by
  refine ⟨fun pins s σ H R I h => ?_⟩
  refine Call_ (ld_blt I hg hm boot_enumerate (PyProof.Rows.callWith_type1 (thn (ha.run pos pins s σ H _ I h) fun us s1 ⟨vs, H1, I1, r1, q1⟩ => ?_) hs rfl))
  obtain ⟨a, ys, ex, hq, q⟩ := q1
  subst ex
  cases r1 with
  | cons r rr =>
    cases rr
    cases r
    obtain ⟨its, rv, p2, _⟩ := I1.tuple hq
    have la : a < s1.heap.objs.size := by obtain ⟨_, z, _⟩ := p2; exact Heap.lt_size z
    refine vx_callEnum (begins_tuple a its.toArray) p2 fun h2 he hit hk => wpAny_pyIter_enum he ?_
    have I2 : Inv X pins σ H1 { s1 with heap := h2 } := I1.kept (t' := s1.toks) hk
    refine ⟨s1.heap.objs.size + 1, [s1.heap.objs.size + 1, s1.heap.objs.size], _, _, H1, rfl, I2, vx_turn a (s1.heap.objs.size + 1) s1.heap.objs.size,
      ⟨⟨.none, he⟩, ⟨_, hit, rfl, rfl⟩, Nat.succ_ne_self _, Nat.ne_of_lt la, Nat.ne_of_gt (Nat.lt_succ_of_lt la)⟩, fun b hb => ?_, q⟩
    have two : b = s1.heap.objs.size + 1 ∨ b = s1.heap.objs.size := by simpa using hb
    have hle : s1.heap.objs.size ≤ b := by
      rcases two with z | z
      · rw [z]; exact Nat.le_succ _
      · rw [z]; exact Nat.le_refl _
    exact I1.fpOk hle (I1.hok.fresh hle)
/-- turn by turn, the tuple standing still -/
theorem walk_enumT {K : PySem.W.Frag} {a : Addr} {xs : List V} : Walk (IteT K a) xs.length (fun H => SqT K H a xs) (YPair (fun i => some (.int (i : Nat))) (fun i => xs[i]?)) := by
  refine ⟨fun i _ hi q => ⟨xs, xs[i], q, by simp [hi]⟩, fun _ q => ⟨xs, q, rfl⟩, fun i H v H' _ q y => ?_⟩
  obtain ⟨T, x, h1, h2, h3, h4⟩ := y
  exact ⟨T, .int (i : Nat), x, h1, h2, h3, rfl, h4 xs q⟩
end L2
set_option maxHeartbeats 4000000
namespace Vk
open PySem PySem.Spec PyProof.Rows L2 GxR
abbrev sJobsInit : Stmt := inClass (top 3) 0
def nameOf : PyData → Str
  | .tuple [.str n, _, _] => n
  | _ => ""
def badAt (js : List PyData) (i : Nat) : Bool := match js[i]? with
  | some d => !jobD d || ((js.take i).map nameOf).any (fun y => y == nameOf d)
  | none => false
def waitAt (js : List PyData) (i : Nat) : Bool := match js[i]? with
  | some d => waitsD js d
  | none => false
def eachPlace (js : List PyData) : Option Nat := (List.range js.length).find? (badAt js)
def waitPlace (js : List PyData) : Option Nat := (List.range js.length).find? (waitAt js)
/-- the place of the first fault of jobs -/
def jobsPlace : PyData → Option Int
  | .tuple js => match eachPlace js with
    | some i => some (i : Int)
    | none => match waitPlace js with
      | some i => some (i : Int)
      | none => none
  | _ => some 0
def niceJobs : PyData → Prop
  | .tuple js => (∀ d ∈ js, niceJob d) ∧ js.length ≤ 900
  | _ => True
theorem find_at {n i : Nat} {p : Nat → Bool} (h : i < n) (hp : p i = true) (ok : ∀ j < i, p j = false) : (List.range n).find? p = some i := by
  rw [List.find?_range_eq_some]
  refine ⟨hp, List.mem_range.mpr h, fun j hj => ?_⟩
  rw [ok j hj]
  rfl
theorem find_no {n : Nat} {p : Nat → Bool} (ok : ∀ j < n, p j = false) : (List.range n).find? p = none := by
  rw [List.find?_eq_none]
  intro j hj
  rw [ok j (List.mem_range.mp hj)]
  exact Bool.false_ne_true
theorem inV_strs {n : Str} : ∀ ns : List Str, inV (.str n) (ns.map V.str) = ns.any (fun y => y == n)
  | [] => rfl
  | x :: ns => by
    have ih := inV_strs (n := n) ns
    show ((x == n) || inV (.str n) (ns.map V.str)) = ((x == n) || ns.any (fun y => y == n))
    rw [ih]
theorem flat_strs (ns : List Str) : (ns.map V.str).all flatV = true := by
  rw [List.all_eq_true]
  intro x hx
  obtain ⟨y, _, rfl⟩ := List.mem_map.mp hx
  rfl
/-- where no job is bad all are valid -/
theorem each_all {js : List PyData} (ok : ∀ j < js.length, badAt js j = false) : js.all jobD = true := by
  rw [List.all_eq_true]
  intro x hx
  obtain ⟨j, hj, e⟩ := List.getElem_of_mem hx
  have z := ok j hj
  unfold badAt at z
  rw [List.getElem?_eq_getElem hj, e] at z
  cases h : jobD x with
  | true => rfl
  | false =>
    have z' : (!jobD x || ((js.take j).map nameOf).any (fun y => y == nameOf x)) = false := z
    rw [h] at z'
    cases z'
section
variable {P : Program} {w : World} {K : PySem.W.Frag} {mg : Str → Option Value} {base : Heap}
theorem scJobsInit : FnScope ["self", "place"] ["self", "place"] (defScope sJobsInit) := ⟨rfl, rfl, rfl, by decide +kernel, rfl, by decide +kernel, by decide +kernel⟩
theorem ok_jobsInit {C fI : Addr} {fd : FuncData} (F : Fun K "__init__" "NoJobs.__init__" sJobsInit fI fd) (T : OexC K C) (no : PySem.W.findIn K (.ref C) "place" = some none) : FnOk P w K mg base CX0 1 fI fd ["self", "place"] (spIni C "place") := by
  refine F.ok scJobsInit (fun vs H Q E h => ?_) (fun cdv A outer s H vs Q E hr h => ?_)
  · obtain ⟨a, v, rfl, _⟩ := h
    rfl
  · obtain ⟨a, v, rfl, ha, k⟩ := h
    refine ⟨_, pss_one (ps_ost (pv 0) (pv 1)), ?_⟩
    exact ⟨_, rfl, _, rfl, a, C, rfl, T, no, .inl ⟨ha, fun dx n1 n2 => k dx n1 n2⟩⟩
theorem erc_jobs {C : Addr} (g : mg "NoJobs" = some (.ref C)) (T : OexC K C) (no : PySem.W.findIn K (.ref C) "place" = some none) (N : Nit K "NoJobs" "NoJobs.__init__" "place" sJobsInit C) : ErC P w K mg base "NoJobs" "place" C := by
  obtain ⟨fI, fd, h1, h2, h3, h4⟩ := N.ex
  exact ⟨g, T, fI, fd, h1, h2, h4, ok_jobsInit h3 T no⟩
def spEach (K : PySem.W.Frag) (T C : Addr) : Sp := fun vs H Q E => ∃ (v : V) (js : List PyData), vs = [v] ∧ Dp K H v (.tuple js) ∧ (∀ d ∈ js, niceJob d) ∧ js.length ≤ 900 ∧ TabG H T ∧ (eachPlace js = none → ∀ H', Same H H' → Q .non H') ∧
  (∀ i, eachPlace js = some i → ∀ (dx : Addr) (H' : Hp), Same H H' → H' dx = some (.xd [(("place" : Str), .int (i : Nat))]) → E (.ref C) (some dx) H')
theorem scEach : FnScope ["jobs", "names", "place", "job"] ["jobs"] (defScope sEach) := ⟨rfl, rfl, rfl, by decide +kernel, rfl, by decide +kernel, by decide +kernel⟩
theorem ok_each {T C : Addr} (D : Df K mg "check_each_job" sEach ["jobs"]) (B : Blt mg) (ER : ErC P w K mg base "NoJobs" "place" C) (J : Cl P w K mg base CX0 3 "is_job" ["job"] (spIsJob K T)) : Cl P w K mg base (L2.CX P w) 4 "check_each_job" ["jobs"] (spEach K T C) := by
  refine clX D scEach (fun vs H Q E h => ?_) (fun f cdv A outer s H vs Q E hr h => ?_)
  · obtain ⟨v, js, rfl, _⟩ := h
    rfl
  · obtain ⟨v, js, rfl, hd, nj, l900, tg, kN, kE⟩ := h
    refine ⟨_, pss_cons (ps_set (i := 1) scEach.nd rfl (Or.inl rfl) (pe_lst pa_nil))
      (pss_one (ps_for (passes_of rfl) rfl (pi_enumT B.enum (pa_cons (pv 0) pa_nil)) (pg_tup rfl (pgs_cons (pg_name (i := 2) scEach.nd rfl (.inl rfl)) (pgs_cons (pg_name (i := 3) scEach.nd rfl (.inl rfl)) pgs_nil)))
        (pss_cons (ps_if (PW.pt (pw_or (pt_not (pt_val (pc J hr (by decide) (pa_cons (pv 3) pa_nil)))) (pw_or1 (pt_cmpR op_in_seq (pe_ix ix_tup (pv 3) pe_int (fun _ _ => rfl)) (pv 1) (by rfl))))) (pss_one (ps_raiseE ER rfl hr (by decide) (takes_of rfl rfl rfl rfl) (pv 2))) pss_nil)
        (pss_one (ps_expr (pe_bm PySem.F.plainAttrs_list PySem.F.slot_list_append PySem.F.type_list_append mt_append (pv 1) (pa_cons (pe_ix ix_tup (pv 3) pe_int (fun _ _ => rfl)) pa_nil))))))), ?_⟩
    obtain ⟨pj, xs, rfl, qj, rj⟩ := dp_tuple hd
    have xl := dps_len rj
    refine ⟨(by show 0 ≤ sizeLine; decide), fun l nl => ?_⟩
    refine ⟨_, rfl, pj, xs, rfl, same_seqT (same_new nl) qj, for_it (walk_enumT (K := K) (a := pj) (xs := xs)) (fun i σ H' => ∃ (u2 u3 : Option V), σ = [some (.ref pj), some (.ref l), u2, u3] ∧ Same H H' ∧ H' l = some (.lst (((js.take i).map nameOf).map V.str)) ∧ ∀ j < i, badAt js j = false)
      ⟨none, none, rfl, same_new nl, upd_same, fun j hj => absurd hj (Nat.not_lt_zero _)⟩ (fun i σ H' _ ⟨_, _, _, s1, _⟩ => same_seqT s1 qj) ?_ ?_⟩
    · rintro i v1 σ H1 H2 hi ⟨u2, u3, rfl, s1, hl, ok⟩ ⟨TT, x1, y1, rfl, nT, rfl, ex, ey⟩
      cases ex
      obtain ⟨d1, hd1, dp1⟩ := dps_getV rj ey
      have s2 := s1.trans (same_new (o := .tup [V.int (i : Nat), y1]) nT)
      have hl2 : upd H1 TT (.tup [V.int (i : Nat), y1]) l = some (.lst (((js.take i).map nameOf).map V.str)) := (same_new nT).at hl
      refine ⟨TT, _, rfl, SqT.of upd_same, rfl, _, _, rfl, _, _, rfl, rfl, ?_⟩
      have ni := nj d1 (List.mem_of_getElem? hd1)
      refine ⟨_, rfl, y1, d1, rfl, dp_same s2 dp1, ni, s2.tab T tg, fun H3 s3 => ⟨_, rfl, ?_⟩⟩
      have s23 := s2.trans s3
      have bad : badAt js i = (!jobD d1 || ((js.take i).map nameOf).any (fun y => y == nameOf d1)) := by
        unfold badAt
        rw [hd1]
      cases hj : jobD d1 with
      | false =>
        refine iteT (iteT ⟨_, rfl, ?_⟩)
        refine raise_go fun dx H4 s4 _ hx => kE i ?_ dx H4 (s23.trans s4) hx
        exact find_at (by omega) (by rw [bad, hj]; rfl) ok
      | true =>
        obtain ⟨n1, k1, t1, x1, rfl, _, _⟩ := job_parts hj
        obtain ⟨p1, v1, v2, v3, rfl, q1, dv1, dv2, dv3⟩ := dp_three dp1
        have en := dp_str dv1
        subst en
        refine iteF ⟨_, rfl, p1, _, _, _, rfl, rfl, same_seqT s23 q1, rfl, _, rfl, l, _, rfl, .inl (SqL.of (s3.at hl2)), rfl, flat_strs _, _, rfl, ?_⟩
        show if inV (.str n1) (((js.take i).map nameOf).map V.str) = true then _ else _
        rw [inV_strs]
        cases hin : ((js.take i).map nameOf).any (fun y => y == n1) with
        | true =>
          refine iteT ⟨_, rfl, ?_⟩
          refine raise_go fun dx H4 s4 _ hx => kE i ?_ dx H4 (s23.trans s4) hx
          exact find_at (by omega) (by rw [bad, hj]; exact hin) ok
        | false =>
          have e2 : ((js.take (i + 1)).map nameOf).map V.str = ((js.take i).map nameOf).map V.str ++ [V.str n1] := by
            rw [List.take_add_one, hd1]
            simp [nameOf]
          refine iteF ⟨_, rfl, .inl ⟨rfl, _, SqL.of (s3.at hl2)⟩, _, rfl, p1, _, _, _, rfl, rfl, same_seqT s23 q1, rfl, l, _, _, rfl, rfl, s3.at hl2, ?_, _, _, rfl, same_put s23 nl, ?_, fun j hj2 => ?_⟩
          · rw [List.length_map, List.length_map, List.length_take]
            exact Nat.lt_of_le_of_lt (show min i js.length ≤ 900 by omega) (by decide)
          · rw [e2, upd_same]
          · by_cases z : j = i
            · subst z
              rw [bad, hj]
              exact hin
            · exact ok j (by omega)
    · rintro σ H1 ⟨u2, u3, rfl, s1, hl, ok⟩
      exact kN (find_no fun j hj => ok j (by omega)) H1 s1
def spCheck (K : PySem.W.Frag) (T C : Addr) : Sp := fun vs H Q E => ∃ (v : V) (d : PyData), vs = [v] ∧ Dp K H v d ∧ niceJobs d ∧ TabG H T ∧ (jobsPlace d = none → ∀ H', Same H H' → Q .non H') ∧
  (∀ i, jobsPlace d = some i → ∀ (dx : Addr) (H' : Hp), Same H H' → H' dx = some (.xd [(("place" : Str), .int i)]) → E (.ref C) (some dx) H')
theorem scCheck : FnScope ["jobs", "place", "job"] ["jobs"] (defScope sCheck) := ⟨rfl, rfl, rfl, by decide +kernel, rfl, by decide +kernel, by decide +kernel⟩
theorem ok_check {T C : Addr} (D : Df K mg "check_jobs" sCheck ["jobs"]) (B : Blt mg) (ER : ErC P w K mg base "NoJobs" "place" C) (EA : Cl P w K mg base (L2.CX P w) 4 "check_each_job" ["jobs"] (spEach K T C)) (W : Cl P w K mg base CX0 1 "waits_forever" ["job", "jobs"] (spWaits K)) :
    Cl P w K mg base (L2.CX P w) 5 "check_jobs" ["jobs"] (spCheck K T C) := by
  refine clX D scCheck (fun vs H Q E h => ?_) (fun f cdv A outer s H vs Q E hr h => ?_)
  · obtain ⟨v, d, rfl, _⟩ := h
    rfl
  · obtain ⟨v, d, rfl, hd, nj, tg, kN, kE⟩ := h
    obtain ⟨fE, fdE, mE, kpE, bE, FE⟩ := EA.ex
    refine ⟨_, pss_cons (ps_if (pt_not (pt_val (pe_callB call_isi (by rfl) B.isi (by decide +kernel) (pa_cons (pv 0) (pa_cons (pe_bltn (v := .ty "tuple") (u := .type "tuple") (by rfl) B.tuple (by decide +kernel) rfl) pa_nil))))) (pss_one (ps_raiseE ER rfl hr (by decide) (takes_of rfl rfl rfl rfl) pe_int)) pss_nil)
      (pss_cons (ps_expr (pe_call (E := E) FE hr rfl mE kpE bE .nil (passes_call (W := fun cls d _ H => E cls d H) (takes_of rfl rfl rfl rfl) (fun _ _ _ _ h => h)) (pa_cons (pv 0) pa_nil)))
      (pss_one (ps_for (passes_of rfl) rfl (pi_enumT B.enum (pa_cons (pv 0) pa_nil)) (pg_tup rfl (pgs_cons (pg_name (i := 1) scCheck.nd rfl (.inl rfl)) (pgs_cons (pg_name (i := 2) scCheck.nd rfl (.inl rfl)) pgs_nil)))
        (pss_one (ps_if (pt_val (pc W hr (by decide) (pa_cons (pv 2) (pa_cons (pv 0) pa_nil)))) (pss_one (ps_raiseE ER rfl hr (by decide) (takes_of rfl rfl rfl rfl) (pv 1))) pss_nil))))), ?_⟩
    refine ⟨_, rfl, v, _, _, _, _, rfl, .ty "tuple", dp_ty hd, kit_tup hd, _, rfl, ?_⟩
    cases htup : isTupD d with
    | false =>
      have e2 : jobsPlace d = some 0 := by
        cases d with
        | tuple ds => cases htup
        | _ => rfl
      refine iteT ?_
      exact raise_go fun dx H2 s1 _ hx => kE 0 e2 dx H2 s1 hx
    | true =>
      obtain ⟨js, rfl⟩ : ∃ js, d = .tuple js := by
        cases d with
        | tuple ls => exact ⟨ls, rfl⟩
        | _ => cases htup
      refine iteF ⟨_, rfl, v, js, rfl, hd, nj.1, nj.2, tg, fun e1 H1 s1 => ?_, fun i e1 dx H1 s1 hx => ?_⟩
      · have e2 : jobsPlace (.tuple js) = match waitPlace js with
          | some i => some (i : Int)
          | none => none := by
          show (match eachPlace js with
            | some i => some (i : Int)
            | none => match waitPlace js with
              | some i => some (i : Int)
              | none => none) = _
          rw [e1]
        have okall := each_all (js := js) (fun j hj => by
          have z := List.find?_eq_none.mp e1 j (List.mem_range.mpr hj)
          exact Bool.eq_false_iff.mpr z)
        obtain ⟨pj, xs, rfl, qj, rj⟩ := dp_tuple hd
        have xl := dps_len rj
        refine ⟨_, rfl, pj, xs, rfl, same_seqT s1 qj, for_it (walk_enumT (K := K) (a := pj) (xs := xs)) (fun i σ H' => ∃ (u1 u2 : Option V), σ = [some (.ref pj), u1, u2] ∧ Same H H' ∧ ∀ j < i, waitAt js j = false)
          ⟨none, none, rfl, s1, fun j hj => absurd hj (Nat.not_lt_zero _)⟩ (fun i σ H' _ ⟨_, _, _, s1, _⟩ => same_seqT s1 qj) ?_ ?_⟩
        · rintro i v1 σ H2 H3 hi ⟨u1, u2, rfl, s2, ok⟩ ⟨TT, x1, y1, rfl, nT, rfl, ex, ey⟩
          cases ex
          obtain ⟨d1, hd1, dp1⟩ := dps_getV rj ey
          have s3 := s2.trans (same_new (o := .tup [V.int (i : Nat), y1]) nT)
          refine ⟨TT, _, rfl, SqT.of upd_same, rfl, _, _, rfl, _, _, rfl, rfl, ?_⟩
          have wt : waitAt js i = waitsD js d1 := by
            unfold waitAt
            rw [hd1]
          refine ⟨_, rfl, _, rfl, y1, _, d1, js, rfl, dp_same s3 dp1, dp_same s3 hd, List.all_eq_true.mp okall d1 (List.mem_of_getElem? hd1), okall, Nat.le_trans nj.2 (by decide), fun H4 s4 => ⟨_, rfl, ?_⟩⟩
          cases hw : waitsD js d1 with
          | true =>
            refine iteT ⟨_, rfl, ?_⟩
            refine raise_go fun dx H5 s5 _ hx => kE (i : Int) ?_ dx H5 ((s3.trans s4).trans s5) hx
            have z : waitPlace js = some i := find_at (by omega) (by rw [wt, hw]) ok
            rw [e2, z]
          | false =>
            refine iteF ⟨_, _, rfl, s3.trans s4, fun j hj2 => ?_⟩
            by_cases z : j = i
            · subst z
              rw [wt, hw]
            · exact ok j (by omega)
        · rintro σ H2 ⟨u1, u2, rfl, s2, ok⟩
          refine kN ?_ H2 s2
          have z : waitPlace js = none := find_no fun j hj => ok j (by omega)
          rw [e2, z]
      · refine kE (i : Int) ?_ dx H1 s1 hx
        show (match eachPlace js with
          | some i => some (i : Int)
          | none => match waitPlace js with
            | some i => some (i : Int)
            | none => none) = _
        rw [e1]
end
end Vk
set_option maxHeartbeats 4000000
namespace Vk
open PySem PySem.Spec PyProof.Rows L2 GxR
/-- an arrival at a moment up to m, or after up to f finishes -/
def reachA (m f : Int) : PyData → Bool
  | .tuple [k, .int t] => decide (t ≤ if atS "at" k = true then m else f)
  | _ => false
def countA (js : List PyData) (m f : Int) : Nat := (js.map arrD).countP (reachA m f)
theorem place_each {js : List PyData} (h : jobsPlace (.tuple js) = none) : js.all jobD = true := by
  have e1 : eachPlace js = none := by
    cases he : eachPlace js with
    | none => rfl
    | some i =>
      have z : (match eachPlace js with
        | some i => some (i : Int)
        | none => match waitPlace js with
          | some i => some (i : Int)
          | none => none) = none := h
      rw [he] at z
      cases z
  exact each_all fun j hj => Bool.eq_false_iff.mpr (List.find?_eq_none.mp e1 j (List.mem_range.mpr hj))
section
variable {P : Program} {w : World} {K : PySem.W.Frag} {mg : Str → Option Value} {base : Heap}
def spHas (K : PySem.W.Frag) : Sp := fun vs H Q _ => ∃ (v : V) (d : PyData) (m f : Int), vs = [v, .int m, .int f] ∧ Dp K H v d ∧ jobD d = true ∧ Q (.bl (reachA m f (arrD d))) H
theorem scHas : FnScope ["job", "moment", "finished", "kind", "number"] ["job", "moment", "finished"] (defScope sHas) := ⟨rfl, rfl, rfl, by decide +kernel, rfl, by decide +kernel, by decide +kernel⟩
theorem ok_has (D : Df K mg "has_arrived" sHas ["job", "moment", "finished"]) : Cl P w K mg base CX0 1 "has_arrived" ["job", "moment", "finished"] (spHas K) := by
  refine cl0 D scHas (fun vs H Q E h => ?_) (fun f cdv A outer s H vs Q E hr h => ?_)
  · obtain ⟨v, d, m, f, rfl, _⟩ := h
    rfl
  · obtain ⟨v, d, m, fi, rfl, hd, jd, k⟩ := h
    refine ⟨_, pss_cons (ps_asg (pe_ix ix_tup (pv 0) pe_int (fun _ _ => rfl)) (pg_tup rfl (pgs_cons (pg_name (i := 3) scHas.nd rfl (.inl rfl)) (pgs_cons (pg_name (i := 4) scHas.nd rfl (.inl rfl)) pgs_nil))))
      (pss_one (ps_ret (pe_cmpR op_le (pv 4) (pe_ifExp (pt_cmpR op_eq (pv 3) pe_str (nomark _)) (pv 1) (pv 2)) (nomark _)))), ?_⟩
    obtain ⟨n, kd, t, e, rfl, hn, hk⟩ := job_parts jd
    obtain ⟨p, x, y, z, rfl, q, dn, da, de⟩ := dp_three hd
    obtain ⟨pa, kv, tv, rfl, qa, dk, dt⟩ := dp_two da
    have ek := dp_str dk
    subst ek
    have et := dp_int dt
    subst et
    refine ⟨_, rfl, p, _, _, _, rfl, rfl, q, rfl, pa, _, rfl, qa, rfl, _, _, rfl, _, _, rfl, rfl, ?_⟩
    refine ⟨_, rfl, _, rfl, rfl, _, rfl, ?_⟩
    rw [eq_S (s := ("at" : Str)) dk]
    have re : reachA m fi (arrD (.tuple [.str n, .tuple [.str kd, .int t], .int e])) = decide (t ≤ if atS "at" (.str kd) = true then m else fi) := rfl
    rw [re] at k
    cases hat : atS "at" (.str kd) with
    | true =>
      rw [hat] at k
      exact iteT ⟨_, rfl, _, _, rfl, rfl, k⟩
    | false =>
      rw [hat] at k
      exact iteF ⟨_, rfl, _, _, rfl, rfl, k⟩
def spCount (K : PySem.W.Frag) : Sp := fun vs H Q _ => ∃ (v : V) (js : List PyData) (m f : Int), vs = [v, .int m, .int f] ∧ Dp K H v (.tuple js) ∧ js.all jobD = true ∧ js.length ≤ 900 ∧ ∀ H', Same H H' → Q (.int (countA js m f : Nat)) H'
theorem scCount : FnScope ["jobs", "moment", "finished", "job"] ["jobs", "moment", "finished"] (defScope sCount) := ⟨rfl, rfl, rfl, by decide +kernel, rfl, by decide +kernel, by decide +kernel⟩
theorem ok_count (D : Df K mg "count_arrived" sCount ["jobs", "moment", "finished"]) (B : Blt mg) (HA : Cl P w K mg base CX0 1 "has_arrived" ["job", "moment", "finished"] (spHas K)) : Cl P w K mg base CX0 2 "count_arrived" ["jobs", "moment", "finished"] (spCount K) := by
  refine cl0 D scCount (fun vs H Q E h => ?_) (fun f cdv A outer s H vs Q E hr h => ?_)
  · obtain ⟨v, d, m, f, rfl, _⟩ := h
    rfl
  · obtain ⟨v, js, m, fi, rfl, hd, okj, l900, k⟩ := h
    refine ⟨_, pss_one (ps_ret (pe_callB call_len_seq (by rfl) B.len PySem.boot_len (pa_cons (pe_lc (own := [("job", 3)]) (g := gName 3) (tt := tB (tCal (spHas K) (tCons (tVar 3) (tCons (tVar 1) (tCons (tVar 2) tNil))))) (te := tVar 3) (by rfl) scCount.nd (pi_tup (pv 0))
          (blkOk_by (own := [("job", 3)]) (N := ["jobs", "moment", "finished", "job"]) (sc := defScope sCount) (by decide +kernel))
          (fun _ _ _ _ _ => pg_name (i := 3) scCount.nd rfl (Or.inl rfl))
          (fun _ _ _ _ _ => pts_one (pt_val (pc HA hr (by decide) (pa_cons (pv 3) (pa_cons (pv 1) (pa_cons (pv 2) pa_nil)))))) (fun _ _ _ _ _ => pv 3)) pa_nil))), ?_⟩
    obtain ⟨pj, xs, rfl, qj, rj⟩ := dp_tuple hd
    have xl := dps_len rj
    refine ⟨_, rfl, pj, rfl, ⟨_, qj⟩, fun D1 nD1 => ?_⟩
    refine lc_it (walk_tup (K := K) (a := pj) (xs := xs)) (fun i Hc => ∃ acc, Same H Hc ∧ Hc D1 = some (.lst acc) ∧ acc.length = ((js.take i).map arrD).countP (reachA m fi))
      ⟨[], same_new nD1, upd_same, rfl⟩ (fun i Hc _ ⟨acc, s3, _⟩ => same_seqT s3 qj) ?_ ?_
    · rintro i y1 Hc Hc2 hm ⟨acc, s3, hD, lc⟩ ⟨rfl, hy1⟩
      obtain ⟨e1, he1, de1⟩ := dps_getV rj hy1
      have jd1 := List.all_eq_true.mp okj e1 (List.mem_of_getElem? he1)
      have e2 : ((js.take (i + 1)).map arrD).countP (reachA m fi) = ((js.take i).map arrD).countP (reachA m fi) + (if reachA m fi (arrD e1) = true then 1 else 0) := by
        rw [List.take_add_one, he1]
        show ((js.take i ++ [e1]).map arrD).countP (reachA m fi) = _
        rw [List.map_append, List.countP_append]
        show _ + [arrD e1].countP (reachA m fi) = _
        rw [List.countP_singleton]
      have small : acc.length < sizeLine := by
        have z : ((js.take i).map arrD).countP (reachA m fi) ≤ ((js.take i).map arrD).length := List.countP_le_length
        rw [List.length_map, List.length_take] at z
        exact Nat.lt_of_le_of_lt (show acc.length ≤ 1000 by omega) (by decide)
      refine ⟨rfl, _, rfl, _, rfl, _, rfl, y1, e1, m, fi, rfl, dp_same s3 de1, jd1, _, rfl, ?_⟩
      cases hb : reachA m fi (arrD e1) with
      | true =>
        refine iteT ⟨_, rfl, acc, hD, small, acc ++ [y1], same_put s3 nD1, upd_same, ?_⟩
        rw [e2, if_pos hb, List.length_append, List.length_singleton, lc]
      | false =>
        refine iteF ⟨acc, s3, hD, ?_⟩
        rw [e2, if_neg (by rw [hb]; exact Bool.false_ne_true), lc]
        rfl
    · rintro Hc ⟨acc, s3, hD, lc⟩
      rw [xl, List.take_length] at lc
      refine ⟨D1, acc, rfl, .inl (SqL.of hD), ?_⟩
      rw [lc]
      exact k Hc s3
end
end Vk
set_option maxHeartbeats 4000000
/-! xs == [], t != () -/
namespace Vk
open PySem PySem.Spec PyProof.Rows L2
def rEqNilL (K : PySem.W.Frag) : R2 := fun x y H Q => ∃ p q xs, x = .ref p ∧ y = .ref q ∧ SqL K H p xs ∧ SqL K H q [] ∧ Q (.bl xs.isEmpty) H
def rNeNilL (K : PySem.W.Frag) : R2 := fun x y H Q => ∃ p q xs, x = .ref p ∧ y = .ref q ∧ SqL K H p xs ∧ SqL K H q [] ∧ Q (.bl (!xs.isEmpty)) H
def rNeNilT (K : PySem.W.Frag) : R2 := fun x y H Q => ∃ p q xs, x = .ref p ∧ y = .ref q ∧ SqT K H p xs ∧ SqT K H q [] ∧ Q (.bl (!xs.isEmpty)) H
section
variable {X : Cx}
theorem op_eqNilL (hu : X.A.units < cLine) : OpR X (compareOp .Eq) (rEqNilL X.K) := by
  intro pins s σ H x y v u Q I rx ry h
  obtain ⟨p, q, xs, rfl, rfl, hp, hq, k⟩ := h
  cases rx
  cases ry
  obtain ⟨is1, r1, p1, _⟩ := I.list hp
  obtain ⟨is2, r2, p2, _⟩ := I.list hq
  cases r2
  have l1 := r1.length
  cases xs with
  | nil =>
    cases r1
    exact SeqAt.eq_listAt (e := fun _ => true) p1.isList p2.isList rfl hu (fun j h1 _ => absurd h1 (Nat.not_lt_zero _)) ⟨.bl true, H, I, rfl, k⟩
  | cons x r =>
    cases r1
    exact SeqAt.eq_list_lengthsAt p1.isList p2.isList (by simp) hu ⟨.bl false, H, I, rfl, k⟩
theorem op_neNilL (hu : X.A.units < cLine) : OpR X (compareOp .NotEq) (rNeNilL X.K) := by
  intro pins s σ H x y v u Q I rx ry h
  obtain ⟨p, q, xs, rfl, rfl, hp, hq, k⟩ := h
  cases rx
  cases ry
  obtain ⟨is1, r1, p1, _⟩ := I.list hp
  obtain ⟨is2, r2, p2, _⟩ := I.list hq
  cases r2
  have l1 := r1.length
  cases xs with
  | nil =>
    cases r1
    exact SeqAt.RcNeAt.lists (e := fun _ => true) p1.isList p2.isList rfl hu (fun j h1 _ => absurd h1 (Nat.not_lt_zero _)) _ _ _ _ ⟨.bl false, H, I, rfl, k⟩
  | cons x r =>
    cases r1
    exact SeqAt.RcNeAt.lists_lengths p1.isList p2.isList (by simp) hu _ _ _ _ ⟨.bl true, H, I, rfl, k⟩
theorem op_neNilT (hu : X.A.units < cLine) : OpR X (compareOp .NotEq) (rNeNilT X.K) := by
  intro pins s σ H x y v u Q I rx ry h
  obtain ⟨p, q, xs, rfl, rfl, hp, hq, k⟩ := h
  cases rx
  cases ry
  obtain ⟨is1, r1, p1, _⟩ := I.tuple hp
  obtain ⟨is2, r2, p2, _⟩ := I.tuple hq
  cases r2
  have l1 := r1.length
  have z : (!((List.range (min is1.toArray.size ([] : List Value).toArray.size)).all (fun _ => true) && is1.toArray.size == ([] : List Value).toArray.size)) = !xs.isEmpty := by
    cases xs with
    | nil =>
      cases r1
      rfl
    | cons x r =>
      cases r1
      simp
  refine SeqAt.RcNeAt.tuples (e := fun _ => true) p1 p2 hu (fun j _ h2 => absurd h2 (Nat.not_lt_zero _)) _ _ _ _ ?_
  rw [z]
  exact ⟨.bl (!xs.isEmpty), H, I, rfl, k⟩
end
end Vk
set_option maxHeartbeats 4000000
namespace Vk
open PySem PySem.Spec PyProof.Rows L2 GxR
def abc : Str := "abcdefghijklmnopqrstuvwxyz"
theorem lt_one {a b : Nat} : ([a] < [b]) ↔ a < b := by
  constructor
  · intro h
    cases h with
    | rel h => exact h
    | cons h => cases h
  · intro h
    exact List.Lex.rel h
theorem between_az (c : Nat) : between "a" "z" c = decide (97 ≤ c ∧ c ≤ 122) := by
  have e1 : (("a" : Str)).cps.toList = [97] := by decide +kernel
  have e2 : (("z" : Str)).cps.toList = [122] := by decide +kernel
  unfold between
  rw [e1, e2]
  by_cases h1 : c < 97
  · rw [decide_eq_true (lt_one.mpr h1), decide_eq_false (show ¬ (97 ≤ c ∧ c ≤ 122) by omega)]
    rfl
  · by_cases h2 : 122 < c
    · rw [decide_eq_true (lt_one.mpr h2), decide_eq_false (show ¬ (97 ≤ c ∧ c ≤ 122) by omega), Bool.not_true, Bool.and_false]
    · rw [decide_eq_false (fun h => h1 (lt_one.mp h)), decide_eq_false (fun h => h2 (lt_one.mp h)), decide_eq_true (show 97 ≤ c ∧ c ≤ 122 by omega)]
      rfl
theorem abc_list : abc.cps.toList = List.range' 97 26 := by decide +kernel
theorem mem_abc (c : Nat) : decide (c ∈ abc.cps.toList) = between "a" "z" c := by
  rw [between_az, abc_list]
  congr 1
  rw [List.mem_range'_1]
  exact propext ⟨fun h => by omega, fun h => by omega⟩
theorem b2_at {k : Str} : (if decide (k = "after") then (1 : Int) else 0) = if k = "after" then 1 else 0 := by
  by_cases h : k = "after"
  · rw [decide_eq_true h, if_pos h]
    rfl
  · rw [decide_eq_false h, if_neg h]
    rfl
section
variable {P : Program} {w : World} {K : PySem.W.Frag} {mg : Str → Option Value} {base : Heap}
def spBefore (K : PySem.W.Frag) : Sp := fun vs H Q _ => ∃ (v : V) (k : Str) (t m : Int), vs = [v, .int m] ∧ Dp K H v (.tuple [.str k, .int t]) ∧ Q (.bl (decide (k = "at") || decide (t < m))) H
theorem scBefore : FnScope ["arrival", "finishes"] ["arrival", "finishes"] (defScope sBefore) := ⟨rfl, rfl, rfl, by decide +kernel, rfl, by decide +kernel, by decide +kernel⟩
theorem ok_before (D : Df K mg "_law_before" sBefore ["arrival", "finishes"]) : Cl P w K mg base CX0 1 "_law_before" ["arrival", "finishes"] (spBefore K) := by
  refine cl0 D scBefore (fun vs H Q E h => ?_) (fun f cdv A outer s H vs Q E hr h => ?_)
  · obtain ⟨v, kd, t, m, rfl, _⟩ := h
    rfl
  · obtain ⟨v, kd, t, m, rfl, hd, k⟩ := h
    refine ⟨_, pss_one (ps_ret (pe_or (pe_cmpR op_eq (pe_ix ix_tup (pv 0) pe_int (fun _ _ => rfl)) pe_str (nomark _)) (pe_one (pe_cmpR op_lt (pe_ix ix_tup (pv 0) pe_int (fun _ _ => rfl)) (pv 1) (nomark _))))), ?_⟩
    obtain ⟨p, x, y, rfl, q, dx, dy⟩ := dp_two hd
    have ex := dp_str dx
    subst ex
    have ey := dp_int dy
    subst ey
    refine ⟨_, rfl, p, _, _, _, rfl, rfl, q, rfl, rfl, _, rfl, ?_⟩
    rw [eq_S (s := ("at" : Str)) dx]
    cases h1 : atS "at" (.str kd) with
    | true =>
      rw [show decide (kd = "at") = true from h1] at k
      exact iteT k
    | false =>
      rw [show decide (kd = "at") = false from h1] at k
      exact iteF ⟨_, rfl, p, _, _, _, rfl, rfl, q, rfl, _, rfl, _, _, rfl, rfl, k⟩
end
end Vk
set_option maxHeartbeats 4000000
/-! data beside the store: new tuples, lists, sums, slices -/
namespace Vk
open PySem PySem.Spec PyProof.Rows L2
theorem off_at {a p : Addr} {H : Hp} {o : HO} (h : H p = some o) (n : p ≠ a) : Off a H p = some o := by
  rw [off_ne n]
  exact h
theorem Kept.at {a p : Addr} {H H' : Hp} {o : HO} (k : Kept a H H') (h : H p = some o) (n : p ≠ a) (u : NoTbl o := by exact True.intro) : H' p = some o := (off_some (Same.at_ k _ _ (off_at h n) u)).2
theorem off_other {a p : Addr} {H : Hp} {o : HO} (h : p ≠ a) : Off a (upd H p o) = upd (Off a H) p o := by
  funext b
  by_cases h1 : b = a
  · subst h1
    rw [off_same, upd_ne h.symm, off_same]
  · rw [off_ne h1]
    by_cases h2 : b = p
    · subst h2
      rw [upd_same, upd_same]
    · rw [upd_ne h2, upd_ne h2, off_ne h1]
section
variable {K : PySem.W.Frag} {a p : Addr} {G : Hp} {vs : List V} {ds : List PyData} {o : HO}
theorem new_tup (hA : G a ≠ none) (np : G p = none) (h : DpAll K (Off a G) vs ds) : Dp K (Off a (upd G p (.tup vs))) (.ref p) (.tuple ds) := by
  have pa : p ≠ a := ne_has hA np
  exact .tup (SqT.of (by rw [off_ne pa, upd_same])) (dps_same (off_mono (same_new np)) h)
theorem new_lst (hA : G a ≠ none) (np : G p = none) (h : DpAll K (Off a G) vs ds) : Dp K (Off a (upd G p (.lst vs))) (.ref p) (.list ds) := by
  have pa : p ≠ a := ne_has hA np
  exact .lst (SqL.of (by rw [off_ne pa, upd_same])) (dps_same (off_mono (same_new np)) h)
theorem dp_up {H H' : Hp} {v : V} {d : PyData} (s : Same H H') (h : Dp K (Off a H) v d) : Dp K (Off a H') v d := dp_same (off_mono s) h
theorem dps_up {H H' : Hp} {v : List V} {d : List PyData} (s : Same H H') (h : DpAll K (Off a H) v d) : DpAll K (Off a H') v d := dps_same (off_mono s) h
theorem dp_on {H : Hp} {v : V} {d : PyData} (h : Dp K (Off a H) v d) : Dp K H v d := dp_same (off_sub a H) h
theorem atI_mem {xs : List V} {r : Int} (h0 : 0 ≤ r) (h1 : r < xs.length) : ∃ x, atI xs r = some x ∧ x ∈ xs := by
  have hj : r.toNat < xs.length := by omega
  have z := atI_nat (List.getElem?_eq_getElem hj)
  rw [Int.toNat_of_nonneg h0] at z
  exact ⟨_, z, List.getElem_mem hj⟩
theorem atI_dp {H : Hp} {xs : List V} {es : List PyData} {r : Int} (d : DpAll K H xs es) (h0 : 0 ≤ r) (h1 : r < es.length) : ∃ x e, atI xs r = some x ∧ es[r.toNat]? = some e ∧ Dp K H x e := by
  have hl := dps_len d
  have hj : r.toNat < es.length := by omega
  obtain ⟨x, hx, dx⟩ := dps_get d (List.getElem?_eq_getElem hj)
  have z := atI_nat hx
  rw [Int.toNat_of_nonneg h0] at z
  exact ⟨x, _, z, List.getElem?_eq_getElem hj, dx⟩
theorem cat_go {H : Hp} {x y : V} {ds es : List PyData} {Q : VK} (hA : H a ≠ none) (hx : Dp K (Off a H) x (.tuple ds)) (hy : Dp K (Off a H) y (.tuple es)) (hl : ds.length + es.length ≤ 1000)
    (k : ∀ z H', Same H H' → Dp K (Off a H') z (.tuple (ds ++ es)) → Q z H') : rCatA K x y H Q := by
  obtain ⟨p, xs, rfl, qx, rx⟩ := dp_tuple hx
  obtain ⟨q, ys, rfl, qy, ry⟩ := dp_tuple hy
  have l1 := dps_len rx
  have l2 := dps_len ry
  refine ⟨p, q, xs, ys, rfl, rfl, same_seqT (off_sub a H) qx, same_seqT (off_sub a H) qy, Nat.le_trans (show xs.length + ys.length ≤ 1000 by omega) (by decide), fun e => ?_, fun _ e => ?_, fun _ _ t nt => ?_⟩
  · subst e
    have e2 : ds = [] := List.eq_nil_of_length_eq_zero l1.symm
    subst e2
    exact k _ H (Same.refl H) hy
  · subst e
    have e2 : es = [] := List.eq_nil_of_length_eq_zero l2.symm
    subst e2
    rw [List.append_nil] at k
    exact k _ H (Same.refl H) hx
  · exact k _ _ (same_new nt) (new_tup hA nt (dps_app rx ry))
theorem slice_go {H : Hp} {x : V} {ds : List PyData} {lo hi : Option Int} {Q : VK} (hA : H a ≠ none) (hx : Dp K (Off a H) x (.tuple ds))
    (k : ∀ z H', Same H H' → Dp K (Off a H') z (.tuple ((ds.drop (HT.sIx ds.length 0 lo)).take (HT.sIx ds.length ds.length hi - HT.sIx ds.length 0 lo))) → Q z H') : rSlA K x lo hi H Q := by
  obtain ⟨p, xs, rfl, qx, rx⟩ := dp_tuple hx
  have l1 := dps_len rx
  refine ⟨p, xs, rfl, same_seqT (off_sub a H) qx, fun w => ?_, fun _ t nt => ?_⟩
  · rw [l1] at w
    have z := k (.ref p) H (Same.refl H)
    rw [w.1, w.2, List.drop_zero, Nat.sub_zero, List.take_length] at z
    exact z hx
  · refine k _ _ (same_new nt) (new_tup hA nt ?_)
    unfold cutV
    rw [l1]
    exact dps_take _ (dps_drop _ rx)
theorem dps_rep {H : Hp} {xs : List V} {es : List PyData} (d : DpAll K H xs es) : ∀ n : Nat, DpAll K H (List.replicate n xs).flatten (List.replicate n es).flatten
  | 0 => .nil
  | n + 1 => by
    rw [List.replicate_succ, List.replicate_succ, List.flatten_cons, List.flatten_cons]
    exact dps_app d (dps_rep d n)
end
end Vk
set_option maxHeartbeats 4000000
namespace Vk
open PySem PySem.Spec PyProof.Rows L2 GxR
def optV : Option Int → V
  | some i => .int i
  | none => .non
/-- a slice from the beginning to an inner place -/
theorem slice_to {K : PySem.W.Frag} {H : Hp} {p : Addr} {xs : List V} {i : Nat} {Q : VK} (h : SqT K H p xs) (hi : i < xs.length) (k : ∀ t, H t = none → Q (.ref t) (upd H t (.tup (xs.take i)))) : rSlA K (.ref p) none (some (i : Int)) H Q := by
  have e2 : HT.sIx xs.length xs.length (some (i : Int)) = i := by rw [HT.sIx_nat]; omega
  have e1 : HT.sIx xs.length 0 none = 0 := rfl
  refine ⟨p, xs, rfl, h, fun w => ?_, fun _ t nt => ?_⟩
  · rw [e2] at w
    omega
  · have z := k t nt
    unfold cutV
    rw [e2, e1]
    exact z
theorem waits_kind {js : List PyData} {n k : Str} {t e : Int} (hk : k = "at" ∨ k = "after") : waitsD js (.tuple [.str n, .tuple [.str k, .int t], .int e]) = (decide (k = "after") && decide ((((js.map arrD).countP (befA t) : Nat) : Int) < t)) := by
  show (!decide (k = "at") && _) = _
  rcases hk with rfl | rfl <;> rfl
end Vk
set_option maxHeartbeats 4000000
namespace Vk
open PySem PySem.Spec PyProof.Rows L2
section
variable {P : Program} {w : World} {K : PySem.W.Frag} {mg : Str → Option Value} {base : Heap}
/-! ### _law_mix -/
def spMix : Sp := fun vs H Q _ => ∃ (n t : Int), vs = [.int n, .int t] ∧ 0 ≤ t ∧ t ≤ 10000000 ∧ ∀ r : Int, 0 ≤ r → r < 2147483648 → Q (.int r) H
theorem scMix : FnScope ["number", "turn", "value"] ["number", "turn"] (defScope sMix) := ⟨rfl, rfl, rfl, by decide +kernel, rfl, by decide +kernel, by decide +kernel⟩
theorem ok_mix (D : Df K mg "_law_mix" sMix ["number", "turn"]) : Cl P w K mg base CX0 1 "_law_mix" ["number", "turn"] spMix := by
  refine cl0 D scMix (fun vs H Q E h => ?_) (fun f cdv A outer s H vs Q E hr h => ?_)
  · obtain ⟨n, t, rfl, _⟩ := h
    rfl
  · obtain ⟨n, t, rfl, h0, h1, k⟩ := h
    refine ⟨_, pss_cons (ps_set (i := 2) scMix.nd rfl (Or.inl rfl) (pe_op op_mod (pe_op op_add (pe_op op_add (pe_op op_add (pe_op op_mod (pv 0) pe_int) (pe_op op_mul (pe_op op_mul pe_int (pv 1)) (pv 1))) (pe_op op_mul pe_int (pv 1))) pe_int) pe_int))
      (pss_cons (ps_set (i := 2) scMix.nd rfl (Or.inl rfl) (pe_op op_mod (pe_op op_mul (pe_op op_mod (pe_op op_mul (pv 2) (pv 2)) pe_int) (pv 2)) pe_int))
      (pss_one (ps_ret (pe_op op_fdiv (pe_op op_mod (pe_op op_add (pe_op op_mul (pv 2) pe_int) (pv 1)) pe_int) pe_int)))), ?_⟩
    refine ⟨_, rfl, _, _, rfl, rfl, (by show (0 : Int) < 2147483629; decide), _, rfl, _, _, rfl, rfl, .inl (by decide), _, rfl, _, _, rfl, rfl, .inr ⟨by omega, by omega⟩, _, _, rfl, rfl, _, rfl, _, _, rfl, rfl, .inl (by decide), _, _, rfl, rfl, _, _, rfl, rfl, _, _, rfl, rfl, (by show (0 : Int) < 2147483629; decide), ?_⟩
    generalize hv : (n % 2147483629 + 7919 * t * t + 104729 * t + 13) % 2147483629 = v
    have v0 : 0 ≤ v := by rw [← hv]; exact Int.emod_nonneg _ (by decide)
    have v1 : v < 2147483629 := by rw [← hv]; exact Int.emod_lt_of_pos _ (by decide)
    refine ⟨_, rfl, _, rfl, _, _, rfl, rfl, .inl ⟨by omega, by omega⟩, _, _, rfl, rfl, (by show (0 : Int) < 2147483587; decide), _, rfl, _, _, rfl, rfl, .inr ⟨by omega, by omega⟩, _, _, rfl, rfl, (by show (0 : Int) < 2147483563; decide), ?_⟩
    generalize hu : v * v % 2147483587 * v % 2147483563 = u
    have u0 : 0 ≤ u := by rw [← hu]; exact Int.emod_nonneg _ (by decide)
    have u1 : u < 2147483563 := by rw [← hu]; exact Int.emod_lt_of_pos _ (by decide)
    refine ⟨_, rfl, _, _, rfl, rfl, .inl ⟨by omega, by omega⟩, _, rfl, _, _, rfl, rfl, _, _, rfl, rfl, (by show (0 : Int) < 2147483399; decide), _, _, rfl, rfl, ⟨by decide, by decide⟩, ?_⟩
    exact k _ (by omega) (by omega)
/-! ### _law_store -/
def spStore (K : PySem.W.Frag) : Sp := fun vs H Q _ => ∃ (a : Addr) (ns : List Int), vs = [.ref a] ∧ SqL K H a (ns.map V.int) ∧ ns.length ≤ 63 ∧ ∀ (p sc : Addr) (H' : Hp), Same H H' → H p = none → Sto sc p 0 H' → Q (.ref p) H'
theorem scStore : FnScope ["script", "mixed", "cell"] ["script"] (defScope sStore) := ⟨rfl, rfl, rfl, by decide +kernel, rfl, by decide +kernel, by decide +kernel⟩
theorem map_int_get {ns : List Int} {i : Nat} {y : V} (h : (ns.map V.int)[i]? = some y) : ∃ z, ns[i]? = some z ∧ y = V.int z := by
  rw [List.getElem?_map] at h
  cases e : ns[i]? with
  | none => rw [e] at h; cases h
  | some z => rw [e] at h; exact ⟨z, rfl, (Option.some.inj h).symm⟩
theorem cut63 {ns : List Int} (h : ns.length ≤ 63) : cutV (ns.map V.int) none (some 63) = ns.map V.int := by
  have e1 : HT.sIx (ns.map V.int).length 0 none = 0 := rfl
  have e2 : HT.sIx (ns.map V.int).length (ns.map V.int).length (some 63) = min 63 (ns.map V.int).length := HT.sIx_nat _ _ 63
  unfold cutV
  rw [e1, e2, List.drop_zero]
  exact List.take_of_length_le (by rw [List.length_map]; omega)
theorem ok_store (D : Df K mg "_law_store" sStore ["script"]) (len : mg "len" = none) : Cl P w K mg base CX0 1 "_law_store" ["script"] (spStore K) := by
  refine cl0 D scStore (fun vs H Q E h => ?_) (fun f cdv A outer s H vs Q E hr h => ?_)
  · obtain ⟨a, ns, rfl, _⟩ := h
    rfl
  · obtain ⟨a, ns, rfl, hS, hl, k⟩ := h
    refine ⟨_, pss_cons (ps_set (i := 1) scStore.nd rfl (Or.inl rfl) (pe_callB call_len_seq (by rfl) len PySem.boot_len (pa_cons (pv 0) pa_nil)))
      (pss_cons (ps_for PassesOwn.never rfl (pi_list (pe_slice sl_list (pv 0) po_none (po_some pe_int))) (pg_name (i := 2) scStore.nd rfl (Or.inl rfl))
        (pss_one (ps_set (i := 1) scStore.nd rfl (Or.inl rfl) (pe_op op_mod (pe_op op_add (pe_op op_add (pe_op op_mul (pv 1) pe_int) (pe_op op_mod (pv 2) pe_int)) pe_int) pe_int))))
      (pss_one (ps_ret (pe_lst (pa_cons (pe_slice sl_list (pv 0) po_none (po_some pe_int)) (pa_cons pe_int (pa_cons pe_int (pa_cons (pv 1) (pa_cons pe_int pa_nil))))))))), ?_⟩
    refine ⟨_, rfl, a, _, rfl, .inl hS, ?_⟩
    refine ⟨_, rfl, _, rfl, a, _, rfl, hS, fun p hp => ⟨p, rfl, ⟨_, SqL.of upd_same⟩, ?_⟩⟩
    rw [cut63 hl]
    refine for_list (K := K) (a := p) (xs := ns.map V.int) (fun i σ H' => ∃ (m : Int) (v : Option V), σ = [some (.ref a), some (.int m), v] ∧ 0 ≤ m ∧ m < 2147483648 ∧ H' = upd H p (.lst (ns.map V.int)))
      ⟨_, none, rfl, Int.natCast_nonneg _, by rw [List.length_map]; omega, rfl⟩ (fun i σ H' _ ⟨m, v, _, _, _, e⟩ => by rw [e]; exact SqL.of upd_same) ?_ ?_
    · rintro i y σ H' hi ⟨m, v, rfl, m0, m1, rfl⟩
      obtain ⟨z, _, rfl⟩ := map_int_get hi
      refine ⟨_, rfl, _, _, rfl, rfl, .inl ⟨by omega, by omega⟩, _, rfl, _, _, rfl, rfl, (by show (0 : Int) < 1000000007; decide), _, _, rfl, rfl, _, _, rfl, rfl, _, _, rfl, rfl, (by show (0 : Int) < 2147483629; decide), ?_⟩
      refine ⟨_, _, rfl, Int.emod_nonneg _ (by decide), ?_, rfl⟩
      have q := Int.emod_lt_of_pos (m * 16807 + z % 1000000007 + 11) (show (0 : Int) < 2147483629 by decide)
      omega
    · rintro σ H' ⟨m, v, rfl, m0, m1, rfl⟩
      have s1 : Same H (upd H p (.lst (ns.map V.int))) := same_new hp
      refine ⟨_, rfl, _, rfl, a, _, rfl, s1.seq hS, fun q hq => ?_⟩
      rw [cut63 hl]
      have s2 : Same H (upd (upd H p (.lst (ns.map V.int))) q (.lst (ns.map V.int))) := s1.trans (same_new hq)
      refine ⟨_, rfl, (by show 5 ≤ sizeLine; decide), fun r hr' => ?_⟩
      have nq : q ≠ r := ne_of_none upd_same hr'
      refine k r q _ (s2.trans (same_new hr')) ((s2.trans (Same.refl _)).free hr') ?_
      exact Sto.put nq upd_same hl (by decide) (by decide) (by decide) (by decide)
end
end Vk
set_option maxHeartbeats 4000000
namespace Vk
open PySem PySem.Spec PyProof.Rows L2
section
variable {P : Program} {w : World} {K : PySem.W.Frag} {mg : Str → Option Value} {base : Heap}
def spPick : Sp := fun vs H Q _ => ∃ (a sc : Addr) (m n : Int), vs = [.ref a, .int m] ∧ 0 < m ∧ m < 1000000000 ∧ Sto sc a n H ∧ n ≤ 1000000 ∧
  ∀ (r : Int) (H' : Hp), 0 ≤ r → r < m → Sto sc a (n + 1) H' → Kept a H H' → Q (.int r) H'
theorem scPick : FnScope ["store", "count", "cell", "digit"] ["store", "count"] (defScope sPick) := ⟨rfl, rfl, rfl, by decide +kernel, rfl, by decide +kernel, by decide +kernel⟩
theorem ok_pick (D : Df K mg "_law_pick" sPick ["store", "count"]) (M : Cl P w K mg base CX0 1 "_law_mix" ["number", "turn"] spMix) (len : mg "len" = none) : Cl P w K mg base CX0 2 "_law_pick" ["store", "count"] spPick := by
  refine cl0 D scPick (fun vs H Q E h => ?_) (fun f cdv A outer s H vs Q E hr h => ?_)
  · obtain ⟨a, sc, m, n, rfl, _⟩ := h
    rfl
  · obtain ⟨a, sc, m, n, rfl, m0, m1, S, n1, k⟩ := h
    refine ⟨_, pss_cons (ps_asg (pe_op op_add (pe_ix ix_list (pv 0) pe_int (fun _ _ => rfl)) pe_int) (pg_sub (pv 0) pe_int set_list))
      (pss_cons (ps_if (PW.pt (pw_and (pt_cmpR op_eq (pe_ix ix_list (pv 0) pe_int (fun _ _ => rfl)) pe_int (nomark _)) (pw_and1 (pt_cmpR op_lt (pe_ix ix_list (pv 0) pe_int (fun _ _ => rfl)) (pe_callB call_len_seq (by rfl) len PySem.boot_len (pa_cons (pe_ix ix_list (pv 0) pe_int (fun _ _ => rfl)) pa_nil)) (nomark _)))))
        (pss_cons (ps_set (i := 2) scPick.nd rfl (Or.inl rfl) (pe_ix ix_list (pe_ix ix_list (pv 0) pe_int (fun _ _ => rfl)) (pe_ix ix_list (pv 0) pe_int (fun _ _ => rfl)) (fun _ _ => rfl)))
        (pss_cons (ps_asg (pe_op op_add (pe_ix ix_list (pv 0) pe_int (fun _ _ => rfl)) pe_int) (pg_sub (pv 0) pe_int set_list))
        (pss_cons (ps_if (pt_cmpR op_lt (pv 2) (pe_op op_pow pe_int pe_int) (nomark _))
          (pss_one (ps_ret (pe_op op_mod (pc M hr (by decide) (pa_cons (pv 2) (pa_cons (pe_ix ix_list (pv 0) pe_int (fun _ _ => rfl)) pa_nil))) (pv 1)))) pss_nil)
        (pss_one (ps_asg (pv 2) (pg_sub (pv 0) pe_int set_list)))))) pss_nil)
      (pss_cons (ps_if (pt_cmpR op_gt (pe_ix ix_list (pv 0) pe_int (fun _ _ => rfl)) pe_int (nomark _))
        (pss_cons (ps_set (i := 3) scPick.nd rfl (Or.inl rfl) (pe_op op_mod (pe_ix ix_list (pv 0) pe_int (fun _ _ => rfl)) (pv 1)))
        (pss_cons (ps_asg (pe_op op_fdiv (pe_ix ix_list (pv 0) pe_int (fun _ _ => rfl)) (pv 1)) (pg_sub (pv 0) pe_int set_list))
        (pss_one (ps_ret (pv 3))))) pss_nil)
      (pss_one (ps_ret (pe_op op_mod (pc M hr (by decide) (pa_cons (pe_ix ix_list (pv 0) pe_int (fun _ _ => rfl)) (pa_cons (pe_ix ix_list (pv 0) pe_int (fun _ _ => rfl)) pa_nil))) (pv 1)))))), ?_⟩
    obtain ⟨cs, i, dg, mx, c, hH, ns, hq, hl, i0, d0, c0, cn⟩ := S.ex
    have fill : ∀ (G : Hp) (i' dg' c' : Int), Off a G = Off a H → 0 ≤ i' → 0 ≤ dg' → 0 ≤ c' → c' ≤ n + 1 → G a = some (.lst [.ref sc, .int i', .int dg', .int mx, .int c']) → Sto sc a (n + 1) G ∧ Kept a H G := fun G i' dg' c' e h1 h2 h3 h4 h5 =>
      ⟨⟨cs, i', dg', mx, c', h5, ns, (off_sub a G).at (by rw [e, off_ne ns]; exact hq), hl, h1, h2, h3, h4⟩, by unfold Kept; rw [e]; exact Same.refl _⟩
    -- store[4] = store[4] + 1
    refine ⟨_, rfl, a, _, _, _, rfl, rfl, SqL.of hH, rfl, _, _, rfl, rfl, _, rfl, a, _, _, _, rfl, rfl, hH, rfl, ?_⟩
    -- the mix at the end
    have fin : ∀ (G : Hp) (i' dg' x r : Int), Off a G = Off a H → 0 ≤ i' → 0 ≤ dg' → G a = some (.lst [.ref sc, .int i', .int dg', .int mx, .int (c + 1)]) → Q (.int (r % m)) G := fun G i' dg' x r e h1 h2 h3 => by
      obtain ⟨s1, s2⟩ := fill G i' dg' (c + 1) e h1 h2 (by omega) (by omega) h3
      exact k _ G (Int.emod_nonneg _ (by omega)) (Int.emod_lt_of_pos _ m0) s1 s2
    have fin2 : ∀ (G : Hp) (i' dg' r : Int), Off a G = Off a H → 0 ≤ i' → 0 ≤ dg' → 0 ≤ r → r < m → G a = some (.lst [.ref sc, .int i', .int dg', .int mx, .int (c + 1)]) → Q (.int r) G := fun G i' dg' r e h1 h2 q1 q2 h3 => by
      obtain ⟨s1, s2⟩ := fill G i' dg' (c + 1) e h1 h2 (by omega) (by omega) h3
      exact k _ G q1 q2 s1 s2
    have hqG : ∀ G : Hp, Off a G = Off a H → SqL K G sc (cs.map V.int) := fun G e => SqL.of ((off_sub a G).at (by rw [e, off_ne ns]; exact hq))
    have oG : ∀ o, Off a (upd H a o) = Off a H := fun o => off_upd
    have oG2 : ∀ o u, Off a (upd (upd H a o) a u) = Off a H := fun o u => by rw [off_upd, off_upd]
    have oG3 : ∀ o u v, Off a (upd (upd (upd H a o) a u) a v) = Off a H := fun o u v => by rw [off_upd, off_upd, off_upd]
    refine ⟨_, rfl, a, _, _, _, rfl, rfl, SqL.of upd_same, rfl, rfl, _, rfl, ?_⟩
    refine ite2 (fun hd => ?_) (fun hd => ?_)
    · have hd0 : dg = 0 := by
        have z := of_decide_eq_true hd
        exact V.int.inj z
      subst hd0
      refine ⟨_, rfl, a, _, _, _, rfl, rfl, SqL.of upd_same, rfl, _, rfl, a, _, _, _, rfl, rfl, SqL.of upd_same, rfl, sc, _, rfl, .inl (hqG _ (oG _)), _, _, rfl, rfl, _, rfl, ?_⟩
      refine ite2 (fun hi => ?_) (fun hi => ?_)
      · have hi0 : i < (cs.map V.int).length := of_decide_eq_true hi
        have hj : i.toNat < cs.length := by rw [List.length_map] at hi0; omega
        have hc : (cs.map V.int)[i.toNat]? = some (V.int cs[i.toNat]) := by rw [List.getElem?_map, List.getElem?_eq_getElem hj]; rfl
        have ha : atI (cs.map V.int) i = some (V.int cs[i.toNat]) := by
          have z := atI_nat hc
          rw [Int.toNat_of_nonneg i0] at z
          exact z
        -- cell = store[0][store[1]]; store[1] = store[1] + 1
        refine ⟨_, rfl, a, _, _, _, rfl, rfl, SqL.of upd_same, rfl, _, rfl, a, _, _, _, rfl, rfl, SqL.of upd_same, rfl, sc, _, _, _, rfl, rfl, hqG _ (oG _), ha, ?_⟩
        refine ⟨_, rfl, a, _, _, _, rfl, rfl, SqL.of upd_same, rfl, _, _, rfl, rfl, _, rfl, a, _, _, _, rfl, rfl, upd_same, rfl, ?_⟩
        -- if cell < 10 ** 18
        refine ⟨_, rfl, _, _, rfl, rfl, ⟨by decide, by decide, by decide⟩, _, _, rfl, rfl, _, rfl, ?_⟩
        refine ite2 (fun hx => ?_) (fun hx => ?_)
        · refine ⟨_, rfl, _, rfl, a, _, _, _, rfl, rfl, SqL.of upd_same, rfl, _, _, rfl, by omega, by omega, fun r r0 r1 => ?_⟩
          exact ⟨_, rfl, _, _, rfl, rfl, m0, fin _ (i + 1) 0 0 r (oG2 _ _) (by omega) (by decide) upd_same⟩
        · have hx0 : ¬ cs[i.toNat] < 10 ^ 18 := fun z => hx (decide_eq_true z)
          -- store[2] = cell
          refine ⟨_, rfl, _, rfl, a, _, _, _, rfl, rfl, upd_same, rfl, ?_⟩
          refine ⟨_, rfl, a, _, _, _, rfl, rfl, SqL.of upd_same, rfl, _, _, rfl, rfl, _, rfl, ?_⟩
          refine ite2 (fun _ => ?_) (fun z => absurd (decide_eq_true (show (0 : Int) < cs[i.toNat] by omega)) z)
          refine ⟨_, rfl, a, _, _, _, rfl, rfl, SqL.of upd_same, rfl, _, rfl, _, _, rfl, rfl, m0, ?_⟩
          refine ⟨_, rfl, a, _, _, _, rfl, rfl, SqL.of upd_same, rfl, _, rfl, _, _, rfl, rfl, ⟨m0, by omega⟩, _, rfl, a, _, _, _, rfl, rfl, upd_same, rfl, ?_⟩
          refine ⟨_, rfl, ?_⟩
          exact fin2 _ (i + 1) (cs[i.toNat] / m) _ (by rw [off_upd, off_upd, off_upd, off_upd]) (by omega) (Int.ediv_nonneg (by omega) (by omega)) (Int.emod_nonneg _ (by omega)) (Int.emod_lt_of_pos _ m0) upd_same
      · refine ⟨_, rfl, a, _, _, _, rfl, rfl, SqL.of upd_same, rfl, _, _, rfl, rfl, _, rfl, ?_⟩
        refine ite2 (fun z => absurd (of_decide_eq_true z) (by decide)) (fun _ => ?_)
        refine ⟨_, rfl, a, _, _, _, rfl, rfl, SqL.of upd_same, rfl, _, rfl, a, _, _, _, rfl, rfl, SqL.of upd_same, rfl, _, _, rfl, by omega, by omega, fun r r0 r1 => ?_⟩
        exact ⟨_, rfl, _, _, rfl, rfl, m0, fin _ i 0 0 r (oG _) i0 (by decide) upd_same⟩
    · have hd0 : ¬ dg = 0 := fun z => hd (decide_eq_true (by rw [z]))
      refine iteF ?_
      refine ⟨_, rfl, a, _, _, _, rfl, rfl, SqL.of upd_same, rfl, _, _, rfl, rfl, _, rfl, ?_⟩
      refine ite2 (fun _ => ?_) (fun z => absurd (decide_eq_true (show (0 : Int) < dg by omega)) z)
      refine ⟨_, rfl, a, _, _, _, rfl, rfl, SqL.of upd_same, rfl, _, rfl, _, _, rfl, rfl, m0, ?_⟩
      refine ⟨_, rfl, a, _, _, _, rfl, rfl, SqL.of upd_same, rfl, _, rfl, _, _, rfl, rfl, ⟨m0, by omega⟩, _, rfl, a, _, _, _, rfl, rfl, upd_same, rfl, ?_⟩
      refine ⟨_, rfl, ?_⟩
      exact fin2 _ i (dg / m) _ (by rw [off_upd, off_upd]) i0 (Int.ediv_nonneg (by omega) (by omega)) (Int.emod_nonneg _ (by omega)) (Int.emod_lt_of_pos _ m0) upd_same
end
end Vk
set_option maxHeartbeats 4000000
namespace Vk
open PySem PySem.Spec PyProof.Rows L2 GxR
theorem cutR {α : Type} {R : α} {F : α → Prop} {G : Prop} (h : F R → G) (c : F R) : G := h c
def sgn (c : Nat) : Str := ⟨#[c]⟩
theorem off_none {a : Addr} {H : Hp} (h : H a = none) : Off a H = H := by
  funext b
  by_cases e : b = a
  · rw [e, off_same, h]
  · rw [off_ne e]
theorem off_free {a D : Addr} {H : Hp} (h : H D = none) : Off a H D = none := by
  by_cases e : D = a
  · rw [e, off_same]
  · rw [off_ne e, h]
/-- what was built beside the store and a cell is built beside the store -/
theorem kept_of_off {a l : Addr} {H G : Hp} (h : H l = none) (k : Same (Off l (Off a H)) (Off l (Off a G))) : Kept a H G := by
  rw [off_none (off_free h)] at k
  exact k.trans (off_sub l _)
theorem kept_new_put {a D : Addr} {o : HO} {H G : Hp} (k : Kept a H G) (h : H D = none) (n : D ≠ a) : Kept a H (upd G D o) := by
  unfold Kept
  rw [off_other n]
  exact same_put k (off_free h)
theorem atI_abc {r : Int} (h0 : 0 ≤ r) (h1 : r < 26) : atI abc.cps.toList r = some (97 + r.toNat) := by
  have e : ((r.toNat : Nat) : Int) = r := Int.toNat_of_nonneg h0
  rw [← e]
  refine atI_nat ?_
  rw [abc_list, List.getElem?_range' (by omega)]
  congr 1
  omega
theorem az_of {n : Nat} (h : n < 26) : between "a" "z" (97 + n) = true := by
  rw [between_az]
  exact decide_eq_true (by omega)
theorem nameD_iff {s : Str} : nameD (.str s) = true ↔ 1 ≤ s.cps.toList.length ∧ s.cps.toList.length ≤ 8 ∧ ∀ c ∈ s.cps.toList, between "a" "z" c = true := by
  show (decide (1 ≤ s.length) && (decide (s.length ≤ 8) && s.cps.toList.all (between "a" "z"))) = true ↔ _
  rw [Bool.and_eq_true_iff, Bool.and_eq_true_iff, decide_eq_true_iff, decide_eq_true_iff, List.all_eq_true, Array.length_toList]
  exact Iff.rfl
theorem joinL_one : ∀ cs : List Nat, TL.joinL [] (cs.map fun c => [c]) = cs
  | [] => rfl
  | [c] => rfl
  | c :: d :: r => by
    show [c] ++ ([] ++ TL.joinL [] ((d :: r).map fun c => [c])) = _
    rw [joinL_one (d :: r)]
    rfl
theorem join_sgn (cs : List Nat) : (Txt.join "" (cs.map sgn)).cps.toList = cs := by
  show TL.tl (Txt.join "" (cs.map sgn)) = cs
  rw [TL.join_eq, TL.tl_join, List.map_map]
  exact joinL_one cs
theorem lens_sgn (cs : List Nat) : ((cs.map sgn).map (·.length)).sum + (cs.map sgn).length * ("" : Str).length = cs.length := by
  rw [show (("" : Str)).length = 0 from by decide +kernel, Nat.mul_zero, Nat.add_zero, List.map_map]
  induction cs with
  | nil => rfl
  | cons c r ih =>
    rw [List.map_cons, List.sum_cons, ih, List.length_cons]
    show 1 + r.length = _
    omega
theorem cps_app (x y : Str) : (x ++ y).cps.toList = x.cps.toList ++ y.cps.toList := by
  show (x.cps ++ y.cps).toList = _
  rw [Array.toList_append]
theorem cut_to {z : Str} {i : Nat} (h : i ≤ z.cps.toList.length) : (cutS z none (some (i : Int))).cps.toList = z.cps.toList.take i := by
  have e : HT.sIx z.length z.length (some (i : Int)) = i := by
    rw [HT.sIx_nat]
    have : z.length = z.cps.toList.length := by rw [Array.length_toList]; rfl
    omega
  show ((z.cps.toList.drop 0).take (HT.sIx z.length z.length (some (i : Int)) - 0)) = _
  rw [e]
  rfl
theorem cut_from {z : Str} {i : Nat} (h : i ≤ z.cps.toList.length) : (cutS z (some (i : Int)) none).cps.toList = z.cps.toList.drop i := by
  have e0 : z.length = z.cps.toList.length := by rw [Array.length_toList]; rfl
  have e : HT.sIx z.length 0 (some (i : Int)) = i := by
    rw [HT.sIx_nat]
    omega
  show ((z.cps.toList.drop (HT.sIx z.length 0 (some (i : Int)))).take (z.length - HT.sIx z.length 0 (some (i : Int)))) = _
  rw [e]
  exact List.take_of_length_le (by rw [List.length_drop]; omega)
/-- the word of a late turn -/
def wordT (t : Nat) : Str := (sgn (97 + t % 26) ++ "q") ++ sgn (97 + t / 26 % 26)
theorem sub_len {α : Type} [DecidableEq α] : ∀ {l m : List α}, l.Nodup → (∀ x ∈ l, x ∈ m) → l.length ≤ m.length
  | [], _, _, _ => Nat.zero_le _
  | x :: l, m, h, s => by
    obtain ⟨h1, h2⟩ := List.nodup_cons.mp h
    have hx := s x (by simp)
    have z := sub_len (l := l) (m := m.erase x) h2 fun y hy => (List.mem_erase_of_ne (fun e : y = x => h1 (by rw [← e]; exact hy))).mpr (s y (by simp [hy]))
    have lx := List.length_erase_of_mem hx
    have pos := List.length_pos_of_mem hx
    rw [List.length_cons]
    omega
theorem words_nodup : (((List.range' 41 13).map wordT).map fun s => s.cps.toList).Nodup := by decide +kernel
theorem late {t : Nat} {ws : List Str} (h : ∀ s, 41 ≤ s → s ≤ t → wordT s ∈ ws) (l : ws.length < 12) : t ≤ 52 := by
  refine Nat.le_of_not_lt fun h53 => ?_
  have z := sub_len (l := ((List.range' 41 13).map wordT).map fun s => s.cps.toList) (m := ws.map fun s => s.cps.toList) words_nodup fun x hx => by
    obtain ⟨y, hy, rfl⟩ := List.mem_map.mp hx
    obtain ⟨s, hs, rfl⟩ := List.mem_map.mp hy
    obtain ⟨h1, h2⟩ := List.mem_range'_1.mp hs
    exact List.mem_map.mpr ⟨_, h s (by omega) (by omega), rfl⟩
  rw [List.length_map, List.length_map, List.length_map, List.length_range'] at z
  omega
theorem nameD_word (t : Nat) : nameD (.str (wordT t)) = true := by
  rw [nameD_iff]
  have e : (wordT t).cps.toList = [97 + t % 26, 113, 97 + t / 26 % 26] := by
    unfold wordT
    rw [cps_app, cps_app]
    rfl
  rw [e]
  refine ⟨Nat.succ_le_succ (Nat.zero_le _), (show 3 ≤ 8 by decide), fun c hc => ?_⟩
  simp only [List.mem_cons, List.not_mem_nil, or_false] at hc
  rcases hc with rfl | rfl | rfl
  · exact az_of (Nat.mod_lt _ (by decide))
  · exact az_of (n := 16) (by decide)
  · exact az_of (Nat.mod_lt _ (by decide))
def NW (sc a l : Addr) (n m : Int) (H : Hp) (M : Nat) (σ : L2.St) (G : Hp) : Prop := ∃ (t : Nat) (ws : List Str) (u5 u6 u7 : Option V), M + t = 60 ∧ σ = [some (.ref a), some (.int m), some (.str abc), some (.ref l), some (.int (t : Nat)), u5, u6, u7, none] ∧
  Sto sc a (n + 13 * t) G ∧ Same (Off l (Off a H)) (Off l (Off a G)) ∧ G l = some (.lst (ws.map V.str)) ∧ (∀ s ∈ ws, nameD (.str s) = true) ∧ (ws.length : Int) ≤ m ∧ (∀ s, 41 ≤ s → s ≤ t → wordT s ∈ ws) ∧ ws.Nodup
section
variable {P : Program} {w : World} {K : PySem.W.Frag} {mg : Str → Option Value} {base : Heap}
def spNames : Sp := fun vs H Q _ => ∃ (a sc : Addr) (n m : Int), vs = [.ref a, .int m] ∧ Sto sc a n H ∧ n ≤ 900000 ∧ 0 ≤ m ∧ m ≤ 12 ∧
  ∀ (l : Addr) (ws : List Str) (H' : Hp), H l = none → l ≠ a → Sto sc a (n + 800) H' → Kept a H H' → H' l = some (.lst (ws.map V.str)) → (ws.length : Int) = m → (∀ s ∈ ws, nameD (.str s) = true) → ws.Nodup → Q (.ref l) H'
theorem scNames : FnScope ["store", "count", "letters", "names", "turn", "word", "old", "at", "k"] ["store", "count"] (defScope sNames) := ⟨rfl, rfl, rfl, by decide +kernel, rfl, by decide +kernel, by decide +kernel⟩
theorem ok_names (D : Df K mg "_law_names" sNames ["store", "count"]) (B : Blt mg) (PK : Cl P w K mg base CX0 2 "_law_pick" ["store", "count"] spPick) : Cl P w K mg base CX0 3 "_law_names" ["store", "count"] spNames := by
  refine cl0 D scNames (fun vs H Q E h => ?_) (fun f cdv A outer s H vs Q E hr h => ?_)
  · obtain ⟨a, sc, n, m, rfl, _⟩ := h
    rfl
  · obtain ⟨a, sc, n, m, rfl, S, n1, m0, m12, k⟩ := h
    refine ⟨_, pss_cons (ps_set (i := 2) scNames.nd rfl (Or.inr rfl) pe_str)
      (pss_cons (ps_set (i := 3) scNames.nd rfl (Or.inl rfl) (pe_lst pa_nil))
      (pss_cons (ps_set (i := 4) scNames.nd rfl (Or.inl rfl) pe_int)
      (pss_cons (ps_while PassesOwn.never (pt_cmpR op_lt (pe_callB call_len_seq (by rfl) B.len PySem.boot_len (pa_cons (pv 3) pa_nil)) (pv 1) (nomark _))
        (pss_cons (ps_set (i := 4) scNames.nd rfl (Or.inl rfl) (pe_op op_add (pv 4) pe_int))
        (pss_cons (ps_set (i := 5) scNames.nd rfl (Or.inl rfl) (pe_join pe_str (pe_lc (own := [("k", 8)]) (g := gName 8) (tt := tYes) (te := tOp rIxS (tVar 2) (tCal spPick (tCons (tVar 0) (tCons (tC (.int 26)) tNil)))) (by rfl) scNames.nd (pi_range1 rfl B.range (pa_cons (pe_op op_add pe_int (pc PK hr (by decide) (pa_cons (pv 0) (pa_cons pe_int pa_nil)))) pa_nil))
            (blkOk_by (own := [("k", 8)]) (N := ["store", "count", "letters", "names", "turn", "word", "old", "at", "k"]) (sc := defScope sNames) (by decide +kernel)) (fun _ _ _ _ _ => pg_name (i := 8) scNames.nd rfl (Or.inl rfl)) (fun _ _ _ _ _ => pts_nil) (fun _ _ _ _ _ => pe_ix ix_str (pv 2) (pc PK hr (by decide) (pa_cons (pv 0) (pa_cons pe_int pa_nil))) (fun _ _ => rfl)))))
        (pss_cons (ps_if (PW.pt (pw_and (pt_cmpR (op_neNilL (Nat.lt_of_succ_lt (hu_of hr))) (pv 3) (pe_lst pa_nil) (nomark _)) (pw_and1 (pt_cmpR op_eq (pc PK hr (by decide) (pa_cons (pv 0) (pa_cons pe_int pa_nil))) pe_int (nomark _)))))
          (pss_cons (ps_set (i := 6) scNames.nd rfl (Or.inl rfl) (pe_ix ix_list (pv 3) (pc PK hr (by decide) (pa_cons (pv 0) (pa_cons (pe_callB call_len_seq (by rfl) B.len PySem.boot_len (pa_cons (pv 3) pa_nil)) pa_nil))) (fun _ _ => rfl)))
          (pss_cons (ps_set (i := 7) scNames.nd rfl (Or.inl rfl) (pc PK hr (by decide) (pa_cons (pv 0) (pa_cons (pe_callB call_len (by rfl) B.len PySem.boot_len (pa_cons (pv 6) pa_nil)) pa_nil))))
          (pss_one (ps_set (i := 5) scNames.nd rfl (Or.inl rfl) (pe_op op_add_str (pe_op op_add_str (pe_slice sl_str (pv 6) po_none (po_some (pv 7))) (pe_ix ix_str (pv 2) (pc PK hr (by decide) (pa_cons (pv 0) (pa_cons pe_int pa_nil))) (fun _ _ => rfl))) (pe_slice sl_str (pv 6) (po_some (pe_op op_add (pv 7) pe_int)) po_none)))))) pss_nil)
        (pss_cons (ps_if (pt_cmpR op_gt (pv 4) pe_int (nomark _)) (pss_one (ps_set (i := 5) scNames.nd rfl (Or.inl rfl) (pe_op op_add_str (pe_op op_add_str (pe_ix ix_str (pv 2) (pe_op op_mod (pv 4) pe_int) (fun _ _ => rfl)) pe_str) (pe_ix ix_str (pv 2) (pe_op op_mod (pe_op op_fdiv (pv 4) pe_int) pe_int) (fun _ _ => rfl))))) pss_nil)
        (pss_one (ps_if (pt_cmpR op_notIn_seq (pv 5) (pv 3) (by rfl)) (pss_one (ps_expr (pe_bm PySem.F.plainAttrs_list PySem.F.slot_list_append PySem.F.type_list_append mt_append (pv 3) (pa_cons (pv 5) pa_nil)))) pss_nil)))))))
      (pss_one (ps_ret (pv 3)))))), ?_⟩
    refine ⟨(by show 0 ≤ sizeLine; decide), fun l nl => ?_⟩
    have la : l ≠ a := S.ne nl
    have lsc : l ≠ sc := S.ne2 nl
    refine ⟨NW sc a l n m H, ⟨60, 0, [], none, none, none, rfl, rfl, (S.same (same_new nl)).more (by omega), off_mono (off_mono (same_new nl)), upd_same, (fun s hs => absurd hs (by simp)), m0, (fun s h1 h2 => by omega), List.nodup_nil⟩, ?_⟩
    rintro M σ G ⟨t, ws, u5, u6, u7, hM, rfl, SG, KG, lG, okw, lw, pw, nd⟩
    have lm : (ws.map V.str).length = ws.length := List.length_map ..
    refine ⟨_, rfl, l, _, rfl, .inl (SqL.of lG), _, rfl, _, _, rfl, rfl, _, rfl, ?_⟩
    refine ite2 (fun hlt => ?_) (fun hlt => ?_)
    case refine_2 =>
      have z : ¬ ((ws.map V.str).length : Int) < m := fun z => hlt (decide_eq_true z)
      exact ⟨_, rfl, k l ws G nl la (SG.more (by omega)) (kept_of_off nl KG) lG (by omega) okw nd⟩
    have z : ((ws.map V.str).length : Int) < m := of_decide_eq_true hlt
    rw [lm] at z
    have t52 := late pw (by omega)
    refine ⟨NW sc a l n m H (M - 1), fun σ' G' q => ⟨M - 1, by omega, q⟩, ?_⟩
    refine ⟨_, rfl, _, _, rfl, rfl, ?_⟩
    -- word
    refine ⟨⟨_, rfl⟩, _, rfl, a, sc, 8, _, rfl, by decide, by decide, SG, by omega, fun r G1 r0 r8 S1 K1 => ?_⟩
    refine ⟨_, _, rfl, rfl, 1 + r, rfl, by omega, by omega, fun D0 nD => ?_⟩
    have Da := S1.ne nD
    have Dsc := S1.ne2 nD
    have lG1 := K1.at lG la
    have nDG : G D0 = none := by
      have z := Same.free K1 (off_free nD)
      rw [off_ne Da] at z
      exact z
    have Dl : D0 ≠ l := fun e => by rw [e, lG1] at nD; cases nD
    refine lc_range (n := (1 + r).toNat) (fun i Hc => ∃ cs : List Nat, Sto sc a (n + 13 * t + 1 + i) Hc ∧ Kept a G Hc ∧ Hc D0 = some (.lst ((cs.map sgn).map V.str)) ∧ cs.length = i ∧ ∀ c ∈ cs, between "a" "z" c = true)
      ⟨[], (S1.same (same_new nD)).more (by omega), K1.trans (kept_same (same_new nD)), upd_same, rfl, fun c hc => absurd hc (by simp)⟩ ?_ ?_
    · rintro i Hc hi ⟨cs, Sc, Kc, hD, lc, okc⟩
      refine ⟨rfl, _, rfl, _, rfl, a, sc, 26, _, rfl, by decide, by decide, Sc, by omega, fun x Hd x0 x26 Sd Kd => ?_⟩
      refine ⟨abc, x, _, rfl, rfl, by decide +kernel, atI_abc x0 x26, _, Kd.at hD Da, ?_, cs ++ [97 + x.toNat], ?_, ?_, ?_, by rw [List.length_append, lc]; rfl, ?_⟩
      · rw [List.length_map, List.length_map, lc]
        exact Nat.lt_of_le_of_lt (show i ≤ 9 by omega) (by decide)
      · exact (Sd.other Da Dsc).more (by omega)
      · exact kept_new_put (Kc.trans Kd) nDG Da
      · rw [upd_same, List.map_append, List.map_append]
        rfl
      · intro c hc
        rcases List.mem_append.mp hc with hc | hc
        · exact okc c hc
        · rw [List.mem_singleton.mp hc]
          exact az_of (by omega)
    rintro G2 ⟨cs, S2, K2, hD, lc, okc⟩
    refine ⟨_, D0, cs.map sgn, rfl, rfl, .inl (SqL.of hD), ?_, ?_⟩
    · rw [lens_sgn, lc]
      omega
    have hw0 : nameD (.str (Txt.join "" (cs.map sgn))) = true := by
      rw [nameD_iff, join_sgn]
      exact ⟨by omega, by omega, okc⟩
    have S2' : Sto sc a (n + 13 * t + 9) G2 := S2.more (by omega)
    generalize Txt.join "" (cs.map sgn) = w0 at hw0 ⊢
    have lG2 := K2.at lG la
    apply cutR (α := L2.St → Hp → Prop) (F := fun R => ∀ (wd : Str) (G3 : Hp) (v6 v7 : Option V), nameD (.str wd) = true → Sto sc a (n + 13 * t + 13) G3 → Kept a G G3 → R [some (.ref a), some (.int m), some (.str abc), some (.ref l), some (.int (t + 1)), some (.str wd), v6, v7, none] G3)
    · intro cont
      refine ⟨_, rfl, (by show 0 ≤ sizeLine; decide), fun e1 ne1 => ?_⟩
      have se := same_new (o := .lst []) ne1
      have e1a := S2'.ne ne1
      refine ⟨l, e1, _, rfl, rfl, SqL.of (se.at lG2), SqL.of upd_same, _, rfl, ?_⟩
      have K3 := K2.trans (kept_same se)
      cases he : (ws.map V.str).isEmpty with
      | true => exact iteF (iteF (cont w0 _ _ _ hw0 ((S2'.same se).more (by omega)) K3))
      | false =>
        refine iteT ⟨_, rfl, a, sc, 2, _, rfl, by decide, by decide, S2'.same se, by omega, fun x G3 x0 x2 S3 K23 => ?_⟩
        have K4 := K3.trans K23
        have lG3 := K23.at (se.at lG2) la
        refine ⟨rfl, _, rfl, ?_⟩
        refine ite2 (fun _ => ?_) (fun _ => cont w0 _ _ _ hw0 (S3.more (by omega)) K4)
        have wpos : 0 < ws.length := by
          cases ws with
          | nil => cases he
          | cons x r => exact Nat.succ_pos _
        refine ⟨_, rfl, _, rfl, _, rfl, l, _, rfl, .inl (SqL.of lG3), a, sc, _, _, rfl, by omega, by omega, S3, by omega, fun y G4 y0 y2 S4 K34 => ?_⟩
        have lG4 := K34.at lG3 la
        obtain ⟨ov, hov, mov⟩ := atI_mem (xs := ws.map V.str) y0 (by omega)
        obtain ⟨old, mold, rfl⟩ := List.mem_map.mp mov
        obtain ⟨o1, o8, oaz⟩ := nameD_iff.mp (okw old mold)
        have oe : old.length = old.cps.toList.length := by rw [Array.length_toList]; rfl
        have osm : old.length ≤ sizeLine := Nat.le_trans (show old.length ≤ 8 by omega) (by decide)
        refine ⟨l, _, _, _, rfl, rfl, SqL.of lG4, hov, ?_⟩
        refine ⟨_, rfl, _, rfl, .str old, old.length, rfl, ⟨osm, rfl⟩, a, sc, _, _, rfl, by omega, by omega, S4, by omega, fun x G5 x0 x1 S5 K45 => ?_⟩
        obtain ⟨j, rfl⟩ := Int.eq_ofNat_of_zero_le x0
        refine ⟨_, rfl, ?_⟩
        dsimp only [tNoPart]
        refine ⟨_, rfl, _, rfl, old, rfl, osm, ?_⟩
        refine ⟨_, rfl, _, rfl, a, sc, 26, _, rfl, by decide, by decide, S5, by omega, fun q G6 q0 q26 S6 K56 => ?_⟩
        refine ⟨abc, q, _, rfl, rfl, by decide +kernel, atI_abc q0 q26, _, _, rfl, rfl, ?_, ?_⟩
        · exact Nat.le_trans (Nat.add_le_add_right (Nat.le_trans (cutS_length _ _ _) (show old.length ≤ 8 by omega)) 1) (by decide)
        refine ⟨_, rfl, _, rfl, _, _, rfl, rfl, _, rfl, ?_⟩
        dsimp only [tNoPart]
        have t1 : (cutS old none (some (j : Int))).cps.toList = old.cps.toList.take j := cut_to (by omega)
        have t2 : (cutS old (some ((j + 1 : Nat) : Int)) none).cps.toList = old.cps.toList.drop (j + 1) := cut_from (by omega)
        have tw : ((cutS old none (some (j : Int)) ++ sgn (97 + q.toNat)) ++ cutS old (some ((j + 1 : Nat) : Int)) none).cps.toList = (old.cps.toList.take j ++ [97 + q.toNat]) ++ old.cps.toList.drop (j + 1) := by
          rw [cps_app, cps_app, t1, t2]
          rfl
        refine ⟨old, rfl, osm, _, _, rfl, rfl, ?_, cont _ _ _ _ ?_ (S6.more (by omega)) (((K4.trans K34).trans K45).trans K56)⟩
        · refine Nat.le_trans (Nat.add_le_add (b := 9) (d := 8) (show (cutS old none (some (j : Int)) ++ sgn (97 + q.toNat)).length ≤ 9 from ?_) (Nat.le_trans (cutS_length _ _ _) (show old.length ≤ 8 by omega))) (by decide)
          rw [show ∀ s : Str, s.length = s.cps.toList.length from fun s => by rw [Array.length_toList]; rfl, cps_app, t1, List.length_append, List.length_take]
          show min j _ + 1 ≤ 9
          omega
        · show nameD (.str ((cutS old none (some (j : Int)) ++ sgn (97 + q.toNat)) ++ cutS old (some ((j + 1 : Nat) : Int)) none)) = true
          rw [nameD_iff, tw]
          refine ⟨?_, ?_, fun c hc => ?_⟩
          · simp only [List.length_append, List.length_take, List.length_drop, List.length_cons, List.length_nil]
            omega
          · simp only [List.length_append, List.length_take, List.length_drop, List.length_cons, List.length_nil]
            omega
          · rcases List.mem_append.mp hc with hc | hc
            · rcases List.mem_append.mp hc with hc | hc
              · exact oaz c (List.mem_of_mem_take hc)
              · rw [List.mem_singleton.mp hc]
                exact az_of (by omega)
            · exact oaz c (List.mem_of_mem_drop hc)
    · intro wd G3 v6 v7 hwd S3 K3
      have lG3 := K3.at lG la
      apply cutR (α := L2.St → Hp → Prop) (F := fun R => ∀ (wd : Str), nameD (.str wd) = true → (41 ≤ t + 1 → wd = wordT (t + 1)) → R [some (.ref a), some (.int m), some (.str abc), some (.ref l), some (.int (t + 1)), some (.str wd), v6, v7, none] G3)
      · intro cont
        refine ⟨_, rfl, _, _, rfl, rfl, _, rfl, ?_⟩
        refine ite2 (fun hl => ?_) (fun hl => cont wd hwd (fun h => absurd (decide_eq_true (show (40 : Int) < t + 1 by omega)) hl))
        refine ⟨_, rfl, _, rfl, _, _, rfl, rfl, (by show (0 : Int) < 26; decide), abc, _, _, rfl, rfl, by decide +kernel, atI_abc (by omega) (by omega), _, _, rfl, rfl, ?_, ?_⟩
        · show 1 + 1 ≤ sizeLine
          decide
        refine ⟨_, rfl, _, rfl, _, _, rfl, rfl, ⟨by decide, by omega⟩, _, _, rfl, rfl, (by show (0 : Int) < 26; decide), abc, _, _, rfl, rfl, by decide +kernel, atI_abc (by omega) (by omega), _, _, rfl, rfl, ?_, ?_⟩
        · show 2 + 1 ≤ sizeLine
          decide
        have e1 : (((t : Int) + 1) % 26).toNat = (t + 1) % 26 := by omega
        have e2 : (((t : Int) + 1) / 26 % 26).toNat = (t + 1) / 26 % 26 := by omega
        refine cont _ ?_ (fun _ => ?_)
        · show nameD (.str ((sgn (97 + (((t : Int) + 1) % 26).toNat) ++ "q") ++ sgn (97 + (((t : Int) + 1) / 26 % 26).toNat))) = true
          rw [e1, e2]
          exact nameD_word (t + 1)
        · show (sgn (97 + (((t : Int) + 1) % 26).toNat) ++ "q") ++ sgn (97 + (((t : Int) + 1) / 26 % 26).toNat) = _
          rw [e1, e2]
          rfl
      · intro wd hwd hlate
        have KF := KG.trans (off_mono (a := l) K3)
        refine ⟨_, rfl, _, rfl, l, _, rfl, .inl (SqL.of lG3), rfl, flat_strs _, _, rfl, ?_⟩
        show if (!inV (.str wd) (ws.map V.str)) = true then _ else _
        rw [inV_strs]
        cases hin : ws.any (fun y => y == wd) with
        | false =>
          refine iteT ⟨_, rfl, .inl ⟨rfl, _, SqL.of lG3⟩, _, rfl, l, _, _, rfl, rfl, lG3, ?_, t + 1, ws ++ [wd], _, _, _, by omega, rfl, (S3.other la lsc).more (by omega), ?_, ?_, ?_, ?_, ?_, ?_⟩
          · rw [lm]
            exact Nat.lt_of_le_of_lt (show ws.length ≤ 12 by omega) (by decide)
          · rw [off_other la, off_upd]
            exact KF
          · rw [upd_same, List.map_append]
            rfl
          · intro s hs
            rcases List.mem_append.mp hs with hs | hs
            · exact okw s hs
            · rw [List.mem_singleton.mp hs]
              exact hwd
          · rw [List.length_append, List.length_singleton]
            omega
          · intro s h1 h2
            by_cases e : s = t + 1
            · subst e
              rw [← hlate h1]
              simp
            · exact List.mem_append_left _ (pw s h1 (by omega))
          · rw [List.nodup_append]
            refine ⟨nd, by simp, fun x hx y hy e => ?_⟩
            rw [List.mem_singleton.mp hy] at e
            subst e
            have z : ws.any (fun y => y == x) = true := List.any_eq_true.mpr ⟨x, hx, by simp⟩
            rw [hin] at z
            cases z
        | true =>
          refine iteF ⟨t + 1, ws, _, _, _, by omega, rfl, S3.more (by omega), KF, lG3, okw, lw, (fun s h1 h2 => ?_), nd⟩
          by_cases e : s = t + 1
          · subst e
            rw [← hlate h1]
            obtain ⟨y, hy, e⟩ := List.any_eq_true.mp hin
            rw [← eq_of_beq e]
            exact hy
          · exact pw s h1 (by omega)
end
end Vk
set_option maxHeartbeats 4000000
namespace Vk
open PySem PySem.Spec PyProof.Rows L2 GxR
abbrev sLogInit : Stmt := inClass (top 6) 0
/-- a pair of a log -/
def pairP (p : Int × Int) : PyData := .tuple [.int p.1, .int p.2]
def pairD (before : Int) : PyData → Option (Int × Int)
  | .tuple [.int u, .int f] => if before + 1 ≤ u ∧ 1 ≤ f then some (u, f) else none
  | _ => none
/-- the place of the first wrong pair -/
def badPair : Int → Nat → List PyData → Option Nat
  | _, _, [] => none
  | b, i, d :: ds => match pairD b d with
    | some p => badPair p.1 (i + 1) ds
    | none => some i
def logPlace : PyData → Option Int
  | .tuple ds => match badPair 0 0 ds with
    | some i => some (i : Int)
    | none => none
  | _ => some 0
def lenLog : PyData → Nat
  | .tuple ds => ds.length
  | _ => 0
/-- ascending units from behind b on, finishes from 1 on -/
def Asc : Int → List (Int × Int) → Prop
  | _, [] => True
  | b, p :: r => b + 1 ≤ p.1 ∧ 1 ≤ p.2 ∧ Asc p.1 r
theorem pairD_some {b : Int} {d : PyData} {p : Int × Int} (h : pairD b d = some p) : d = pairP p ∧ b + 1 ≤ p.1 ∧ 1 ≤ p.2 := by
  unfold pairD at h
  split at h
  · split at h
    · cases h
      rename_i h
      exact ⟨rfl, h.1, h.2⟩
    · cases h
  · cases h
theorem pairD_P {b : Int} {p : Int × Int} (h1 : b + 1 ≤ p.1) (h2 : 1 ≤ p.2) : pairD b (pairP p) = some p := by
  show (if b + 1 ≤ p.1 ∧ 1 ≤ p.2 then some (p.1, p.2) else none) = some p
  rw [if_pos ⟨h1, h2⟩]
theorem bad_pairs : ∀ {ds : List PyData} {b : Int} {i : Nat}, badPair b i ds = none → ∃ lg, ds = lg.map pairP ∧ Asc b lg
  | [], _, _, _ => ⟨[], rfl, trivial⟩
  | d :: ds, b, i, h => by
    have e : badPair b i (d :: ds) = match pairD b d with
      | some p => badPair p.1 (i + 1) ds
      | none => some i := rfl
    rw [e] at h
    cases hp : pairD b d with
    | none =>
      rw [hp] at h
      cases h
    | some p =>
      rw [hp] at h
      obtain ⟨e1, e2, e3⟩ := pairD_some hp
      obtain ⟨lg, e4, e5⟩ := bad_pairs (ds := ds) h
      exact ⟨p :: lg, by rw [e1, e4]; rfl, e2, e3, e5⟩
theorem asc_pairs : ∀ {lg : List (Int × Int)} {b : Int} {i : Nat}, Asc b lg → badPair b i (lg.map pairP) = none
  | [], _, _, _ => rfl
  | p :: lg, b, i, h => by
    show (match pairD b (pairP p) with
      | some p => badPair p.1 (i + 1) (lg.map pairP)
      | none => some i) = none
    rw [pairD_P h.1 h.2.1]
    exact asc_pairs h.2.2
theorem log_pairs {d : PyData} (h : logPlace d = none) : ∃ lg, d = .tuple (lg.map pairP) ∧ Asc 0 lg := by
  cases d with
  | tuple ds =>
    have z : (match badPair 0 0 ds with
      | some i => some (i : Int)
      | none => none) = none := h
    cases hb : badPair 0 0 ds with
    | some i =>
      rw [hb] at z
      cases z
    | none =>
      obtain ⟨lg, e1, e2⟩ := bad_pairs hb
      exact ⟨lg, by rw [e1], e2⟩
  | _ => cases h
theorem log_none {lg : List (Int × Int)} (h : Asc 0 lg) : logPlace (.tuple (lg.map pairP)) = none := by
  show (match badPair 0 0 (lg.map pairP) with
    | some i => some (i : Int)
    | none => none) = none
  rw [asc_pairs h]
/-- a pair that is no pair -/
theorem pair_not {b : Int} {d : PyData} (h : tupleND 2 d = false) : pairD b d = none := by
  cases d with
  | tuple ds =>
    have z : ¬ (ds.length : Int) = 2 := of_decide_eq_false h
    match ds, z with
    | [a, b], z => exact absurd rfl z
    | [], _ => rfl
    | [x], _ => cases x <;> rfl
    | x :: y :: _ :: l, _ => cases x <;> first | rfl | (cases y <;> rfl)
  | _ => rfl
theorem pair_fst {b : Int} {x y : PyData} (h : integerD (b + 1) x = false) : pairD b (.tuple [x, y]) = none := by
  cases x with
  | int u =>
    cases y with
    | int f =>
      show (if b + 1 ≤ u ∧ 1 ≤ f then some (u, f) else none) = none
      rw [if_neg (fun z => (of_decide_eq_false h) z.1)]
    | _ => rfl
  | _ => rfl
theorem pair_snd {b : Int} {x y : PyData} (h : integerD 1 y = false) : pairD b (.tuple [x, y]) = none := by
  cases x with
  | int u =>
    cases y with
    | int f =>
      show (if b + 1 ≤ u ∧ 1 ≤ f then some (u, f) else none) = none
      rw [if_neg (fun z => (of_decide_eq_false h) z.2)]
    | _ => rfl
  | _ => rfl
theorem int_of {m : Int} {q : PyData} (z : integerD m q = true) : ∃ i, q = .int i ∧ m ≤ i := by
  cases q with
  | int i => exact ⟨i, rfl, of_decide_eq_true z⟩
  | _ => cases z
/-- the numbers of present and of running jobs -/
def presI (js : List PyData) (u f : Int) : Int := (countA js (u - 1) f : Int) - f
def runI (js : List PyData) (u f c : Int) : Int := if c < presI js u f then c else presI js u f
/-- the certificate of impossibility, or none -/
def certD (js : List PyData) (c : Int) : Int → List (Int × Int) → PyData
  | f, [] => if f = (js.length : Int) then .none else .tuple [.str "unfinished", .int ((js.length : Int) - f)]
  | f, p :: r => if runI js p.1 f c < p.2 then .tuple [.str "crowded", .int p.1, .int (runI js p.1 f c)] else certD js c (f + p.2) r
theorem count_le (js : List PyData) (m f : Int) : countA js m f ≤ js.length := by
  unfold countA
  have z : (js.map arrD).countP (reachA m f) ≤ (js.map arrD).length := List.countP_le_length
  rw [List.length_map] at z
  exact z
theorem run_le {js : List PyData} {u f c : Int} : runI js u f c ≤ presI js u f := by
  unfold runI
  split <;> omega
section
variable {P : Program} {w : World} {K : PySem.W.Frag} {mg : Str → Option Value} {base : Heap}
theorem scLogInit : FnScope ["self", "place"] ["self", "place"] (defScope sLogInit) := ⟨rfl, rfl, rfl, by decide +kernel, rfl, by decide +kernel, by decide +kernel⟩
theorem ok_logInit {C fI : Addr} {fd : FuncData} (F : Fun K "__init__" "NoLog.__init__" sLogInit fI fd) (T : OexC K C) (no : PySem.W.findIn K (.ref C) "place" = some none) : FnOk P w K mg base CX0 1 fI fd ["self", "place"] (spIni C "place") := by
  refine F.ok scLogInit (fun vs H Q E h => ?_) (fun cdv A outer s H vs Q E hr h => ?_)
  · obtain ⟨a, v, rfl, _⟩ := h
    rfl
  · obtain ⟨a, v, rfl, ha, k⟩ := h
    refine ⟨_, pss_one (ps_ost (pv 0) (pv 1)), ?_⟩
    exact ⟨_, rfl, _, rfl, a, C, rfl, T, no, .inl ⟨ha, fun dx n1 n2 => k dx n1 n2⟩⟩
theorem erc_log {C : Addr} (g : mg "NoLog" = some (.ref C)) (T : OexC K C) (no : PySem.W.findIn K (.ref C) "place" = some none) (N : Nit K "NoLog" "NoLog.__init__" "place" sLogInit C) : ErC P w K mg base "NoLog" "place" C := by
  obtain ⟨fI, fd, h1, h2, h3, h4⟩ := N.ex
  exact ⟨g, T, fI, fd, h1, h2, h4, ok_logInit h3 T no⟩
def spCheckLog (K : PySem.W.Frag) (C : Addr) : Sp := fun vs H Q E => ∃ (v : V) (d : PyData), vs = [v] ∧ Dp K H v d ∧ lenLog d ≤ 50000 ∧ (logPlace d = none → ∀ H', Same H H' → Q .non H') ∧
  (∀ i, logPlace d = some i → ∀ (dx : Addr) (H' : Hp), Same H H' → H' dx = some (.xd [(("place" : Str), .int i)]) → E (.ref C) (some dx) H')
theorem scCheckLog : FnScope ["log", "before", "place", "pair"] ["log"] (defScope sCheckLog) := ⟨rfl, rfl, rfl, by decide +kernel, rfl, by decide +kernel, by decide +kernel⟩
theorem ok_checkLog {C : Addr} (D : Df K mg "check_log" sCheckLog ["log"]) (B : Blt mg) (ER : ErC P w K mg base "NoLog" "place" C) (T : Cl P w K mg base CX0 1 "is_tuple_of" ["value", "many"] (spTupleOf K)) (I : Cl P w K mg base CX0 1 "is_integer" ["value", "least"] (spInteger K)) :
    Cl P w K mg base (L2.CX P w) 3 "check_log" ["log"] (spCheckLog K C) := by
  refine clX D scCheckLog (fun vs H Q E h => ?_) (fun f cdv A outer s H vs Q E hr h => ?_)
  · obtain ⟨v, d, rfl, _⟩ := h
    rfl
  · obtain ⟨v, d, rfl, hd, ld, kN, kE⟩ := h
    refine ⟨_, pss_cons (ps_if (pt_not (pt_val (pe_callB call_isi (by rfl) B.isi (by decide +kernel) (pa_cons (pv 0) (pa_cons (pe_bltn (v := .ty "tuple") (u := .type "tuple") (by rfl) B.tuple (by decide +kernel) rfl) pa_nil))))) (pss_one (ps_raiseE ER rfl hr (by decide) (takes_of rfl rfl rfl rfl) pe_int)) pss_nil)
      (pss_cons (ps_set (i := 1) scCheckLog.nd rfl (Or.inl rfl) pe_int)
      (pss_one (ps_for (passes_of rfl) rfl (pi_enumT B.enum (pa_cons (pv 0) pa_nil)) (pg_tup rfl (pgs_cons (pg_name (i := 2) scCheckLog.nd rfl (.inl rfl)) (pgs_cons (pg_name (i := 3) scCheckLog.nd rfl (.inl rfl)) pgs_nil)))
        (pss_cons (ps_if (PW.pt (pw_or (pt_not (pt_val (pc T hr (by decide) (pa_cons (pv 3) (pa_cons pe_int pa_nil))))) (pw_or (pt_not (pt_val (pc I hr (by decide) (pa_cons (pe_ix ix_tup (pv 3) pe_int (fun _ _ => rfl)) (pa_cons (pe_op op_add (pv 1) pe_int) pa_nil)))))
            (pw_or1 (pt_not (pt_val (pc I hr (by decide) (pa_cons (pe_ix ix_tup (pv 3) pe_int (fun _ _ => rfl)) (pa_cons pe_int pa_nil)))))))))
          (pss_one (ps_raiseE ER rfl hr (by decide) (takes_of rfl rfl rfl rfl) (pv 2))) pss_nil)
        (pss_one (ps_set (i := 1) scCheckLog.nd rfl (Or.inl rfl) (pe_ix ix_tup (pv 3) pe_int (fun _ _ => rfl)))))))), ?_⟩
    refine ⟨_, rfl, v, _, _, _, _, rfl, .ty "tuple", dp_ty hd, kit_tup hd, _, rfl, ?_⟩
    cases htup : isTupD d with
    | false =>
      have e2 : logPlace d = some 0 := by
        cases d with
        | tuple ds => cases htup
        | _ => rfl
      refine iteT ?_
      exact raise_go fun dx H2 s1 _ hx => kE 0 e2 dx H2 s1 hx
    | true =>
      obtain ⟨ds, rfl⟩ : ∃ ds, d = .tuple ds := by
        cases d with
        | tuple ls => exact ⟨ls, rfl⟩
        | _ => cases htup
      obtain ⟨pj, xs, rfl, qj, rj⟩ := dp_tuple hd
      have xl := dps_len rj
      have lp : logPlace (.tuple ds) = match badPair 0 0 ds with
        | some i => some (i : Int)
        | none => none := rfl
      refine iteF ⟨_, rfl, pj, xs, rfl, qj, for_it (walk_enumT (K := K) (a := pj) (xs := xs)) (fun i σ G => ∃ (b : Int) (u2 u3 : Option V), σ = [some (.ref pj), some (.int b), u2, u3] ∧ Same H G ∧ badPair 0 0 ds = badPair b i (ds.drop i))
        ⟨0, none, none, rfl, Same.refl H, rfl⟩ (fun i σ G _ ⟨_, _, _, _, s1, _⟩ => same_seqT s1 qj) ?_ ?_⟩
      · rintro i v1 σ G G2 hi ⟨b, u2, u3, rfl, s1, eb⟩ ⟨TT, x1, y1, rfl, nT, rfl, ex, ey⟩
        cases ex
        obtain ⟨d1, hd1, dp1⟩ := dps_getV rj ey
        have s2 := s1.trans (same_new (o := .tup [V.int (i : Nat), y1]) nT)
        have dr : ds.drop i = d1 :: ds.drop (i + 1) := by
          obtain ⟨h1, h2⟩ := List.getElem?_eq_some_iff.mp hd1
          rw [List.drop_eq_getElem_cons h1, h2]
        rw [dr] at eb
        replace eb : badPair 0 0 ds = match pairD b d1 with
          | some p => badPair p.1 (i + 1) (ds.drop (i + 1))
          | none => some i := eb
        refine ⟨TT, _, rfl, SqT.of upd_same, rfl, _, _, rfl, _, _, rfl, rfl, ?_⟩
        have stop : pairD b d1 = none → ∀ (dx : Addr) (H' : Hp), Same H H' → H' dx = some (.xd [(("place" : Str), .int (i : Int))]) → E (.ref C) (some dx) H' := fun hp dx H' s' hx => kE (i : Int) (by rw [lp, eb, hp]) dx H' s' hx
        have dp2 := dp_same s2 dp1
        refine ⟨_, rfl, y1, d1, 2, rfl, dp2, _, rfl, ?_⟩
        cases ht : tupleND 2 d1 with
        | false =>
          refine iteT (iteT ⟨_, rfl, ?_⟩)
          exact raise_go fun dx H5 s5 _ hx => stop (pair_not ht) dx H5 (s2.trans s5) hx
        | true =>
          obtain ⟨x, y, rfl⟩ := tup_two ht
          obtain ⟨pp, xv, yv, rfl, qp, dx', dy'⟩ := dp_two dp2
          refine iteF ⟨_, rfl, pp, _, _, _, rfl, rfl, qp, rfl, _, rfl, _, _, rfl, rfl, xv, x, b + 1, rfl, dx', _, rfl, ?_⟩
          cases h1 : integerD (b + 1) x with
          | false =>
            refine iteT (iteT ⟨_, rfl, ?_⟩)
            exact raise_go fun dx H5 s5 _ hx => stop (pair_fst h1) dx H5 (s2.trans s5) hx
          | true =>
            refine iteF ⟨_, rfl, pp, _, _, _, rfl, rfl, qp, rfl, yv, y, 1, rfl, dy', _, rfl, ?_⟩
            cases h2 : integerD 1 y with
            | false =>
              refine iteT ⟨_, rfl, ?_⟩
              exact raise_go fun dx H5 s5 _ hx => stop (pair_snd h2) dx H5 (s2.trans s5) hx
            | true =>
              obtain ⟨u, rfl, hu⟩ := int_of h1
              obtain ⟨f, rfl, hf⟩ := int_of h2
              have exv := dp_int dx'
              subst exv
              refine iteF ⟨_, rfl, pp, _, _, _, rfl, rfl, qp, rfl, u, _, _, rfl, s2, ?_⟩
              rw [eb, show pairD b (.tuple [.int u, .int f]) = some (u, f) from pairD_P (p := (u, f)) hu hf]
      · rintro σ G ⟨b, u2, u3, rfl, s1, eb⟩
        rw [xl, List.drop_length] at eb
        exact kN (by rw [lp, eb]; rfl) G s1
def spPresent (K : PySem.W.Frag) : Sp := fun vs H Q _ => ∃ (v : V) (js : List PyData) (m f : Int), vs = [v, .int m, .int f] ∧ Dp K H v (.tuple js) ∧ js.all jobD = true ∧ js.length ≤ 900 ∧ ∀ H', Same H H' → Q (.int ((countA js m f : Nat) - f)) H'
theorem scPresent : FnScope ["jobs", "moment", "finished"] ["jobs", "moment", "finished"] (defScope sPresent) := ⟨rfl, rfl, rfl, by decide +kernel, rfl, by decide +kernel, by decide +kernel⟩
theorem ok_present (D : Df K mg "count_present" sPresent ["jobs", "moment", "finished"]) (CA : Cl P w K mg base CX0 2 "count_arrived" ["jobs", "moment", "finished"] (spCount K)) : Cl P w K mg base CX0 3 "count_present" ["jobs", "moment", "finished"] (spPresent K) := by
  refine cl0 D scPresent (fun vs H Q E h => ?_) (fun f cdv A outer s H vs Q E hr h => ?_)
  · obtain ⟨v, js, m, f, rfl, _⟩ := h
    rfl
  · obtain ⟨v, js, m, fi, rfl, hd, okj, l9, k⟩ := h
    refine ⟨_, pss_one (ps_ret (pe_op op_sub (pc CA hr (by decide) (pa_cons (pv 0) (pa_cons (pv 1) (pa_cons (pv 2) pa_nil)))) (pv 2))), ?_⟩
    exact ⟨_, rfl, _, rfl, _, rfl, v, js, m, fi, rfl, hd, okj, l9, fun H2 s2 => ⟨_, rfl, _, _, rfl, rfl, k H2 s2⟩⟩
def spRunning (K : PySem.W.Frag) : Sp := fun vs H Q _ => ∃ (v : V) (js : List PyData) (u f c : Int), vs = [v, .int u, .int f, .int c] ∧ Dp K H v (.tuple js) ∧ js.all jobD = true ∧ js.length ≤ 900 ∧ ∀ H', Same H H' → Q (.int (runI js u f c)) H'
theorem scRunning : FnScope ["jobs", "unit", "finished", "processors"] ["jobs", "unit", "finished", "processors"] (defScope sRunning) := ⟨rfl, rfl, rfl, by decide +kernel, rfl, by decide +kernel, by decide +kernel⟩
theorem ok_running (D : Df K mg "count_running" sRunning ["jobs", "unit", "finished", "processors"]) (mn : mg "min" = none) (CP : Cl P w K mg base CX0 3 "count_present" ["jobs", "moment", "finished"] (spPresent K)) : Cl P w K mg base CX0 4 "count_running" ["jobs", "unit", "finished", "processors"] (spRunning K) := by
  refine cl0 D scRunning (fun vs H Q E h => ?_) (fun f cdv A outer s H vs Q E hr h => ?_)
  · obtain ⟨v, js, u, f, c, rfl, _⟩ := h
    rfl
  · obtain ⟨v, js, u, fi, c, rfl, hd, okj, l9, k⟩ := h
    refine ⟨_, pss_one (ps_ret (pe_callB (call_min2 rfl) (by rfl) mn (by decide +kernel) (pa_cons (pc CP hr (by decide) (pa_cons (pv 0) (pa_cons (pe_op op_sub (pv 1) pe_int) (pa_cons (pv 2) pa_nil)))) (pa_cons (pv 3) pa_nil)))), ?_⟩
    exact ⟨_, rfl, _, rfl, _, _, rfl, rfl, _, rfl, v, js, u - 1, fi, rfl, hd, okj, l9, fun H2 s2 => ⟨_, rfl, _, _, rfl, k H2 s2⟩⟩
end
end Vk
/-! the logs of a number of units, by choices: how many there are, the one with a number, the number of one -/
namespace Vk
/-- the choices of a unit in their order -/
def ordI (r : Int) : List Int := ((List.range r.toNat).map fun (i : Nat) => (i : Int) + 1) ++ [0]
def Rel (a b : Int) : Prop := 1 ≤ a ∧ (b = 0 ∨ a < b)
theorem ord_pw (r : Int) : (ordI r).Pairwise Rel := by
  unfold ordI
  rw [List.pairwise_append]
  refine ⟨?_, List.pairwise_singleton _ _, fun a ha b hb => ?_⟩
  · rw [List.pairwise_map]
    refine List.Pairwise.imp (fun {a b} (h : a < b) => ?_) List.pairwise_lt_range
    exact ⟨by omega, .inr (by omega)⟩
  · obtain ⟨i, _, rfl⟩ := List.mem_map.mp ha
    rw [List.mem_singleton.mp hb]
    exact ⟨by omega, .inl rfl⟩
theorem ord_mem {r x : Int} (h0 : 0 ≤ x) (h : x ≤ r) : x ∈ ordI r := by
  unfold ordI
  rw [List.mem_append]
  by_cases z : x = 0
  · exact .inr (by rw [z]; exact List.mem_singleton.mpr rfl)
  · refine .inl (List.mem_map.mpr ⟨(x - 1).toNat, List.mem_range.mpr (by omega), ?_⟩)
    show (((x - 1).toNat : Nat) : Int) + 1 = x
    omega
theorem ord_of {r x : Int} (hr : 0 ≤ r) (h : x ∈ ordI r) : 0 ≤ x ∧ x ≤ r := by
  unfold ordI at h
  rcases List.mem_append.mp h with h | h
  · obtain ⟨i, hi, rfl⟩ := List.mem_map.mp h
    have := List.mem_range.mp hi
    omega
  · rw [List.mem_singleton.mp h]
    omega
theorem sum_nn : ∀ {l : List Int}, (∀ x ∈ l, 0 ≤ x) → 0 ≤ l.sum
  | [], _ => Int.le_refl 0
  | x :: l, h => by
    rw [List.sum_cons]
    have h1 := h x (List.mem_cons_self ..)
    have h2 := sum_nn (l := l) fun y hy => h y (List.mem_cons_of_mem _ hy)
    omega
theorem sum_pos : ∀ {l : List Int}, 0 < l.sum → ∃ x ∈ l, 0 < x
  | [], h => absurd h (by decide)
  | x :: l, h => by
    rw [List.sum_cons] at h
    by_cases z : 0 < x
    · exact ⟨x, List.mem_cons_self .., z⟩
    · obtain ⟨y, hy, py⟩ := sum_pos (l := l) (by omega)
      exact ⟨y, List.mem_cons_of_mem _ hy, py⟩
theorem sum_ord {r : Int} (h : 0 ≤ r) (g : Int → Int) : ((ordI r).map g).sum = ((List.range (r + 1).toNat).map fun (x : Nat) => g (x : Int)).sum := by
  have e : (r + 1).toNat = r.toNat + 1 := by omega
  unfold ordI
  have e2 : (g ∘ fun (i : Nat) => (i : Int) + 1) = ((fun (x : Nat) => g (x : Int)) ∘ Nat.succ) := by
    funext i
    show g ((i : Int) + 1) = g ((i + 1 : Nat) : Int)
    congr 1
  have l1 : ((((List.range r.toNat).map fun (i : Nat) => (i : Int) + 1) ++ [0]).map g).sum = ((List.range r.toNat).map ((fun (x : Nat) => g (x : Int)) ∘ Nat.succ)).sum + g 0 := by
    rw [List.map_append, List.sum_append, List.map_map, e2, List.map_cons, List.map_nil, List.sum_cons, List.sum_nil, Int.add_zero]
  have l2 : ((List.range (r.toNat + 1)).map fun (x : Nat) => g (x : Int)).sum = g 0 + ((List.range r.toNat).map ((fun (x : Nat) => g (x : Int)) ∘ Nat.succ)).sum := by
    rw [List.range_succ_eq_map, List.map_cons, List.sum_cons, List.map_map]
    rfl
  rw [e, l1, l2, Int.add_comm]
/-- in how many ways a log goes on, k units before the last one, f jobs finished at moment u -/
def R (run : Int → Int → Int) (n : Int) : Nat → Int → Int → Int
  | 0, _, f => if f = n then 1 else 0
  | k + 1, u, f => ((List.range (run (u + 1) f + 1).toNat).map fun (x : Nat) => R run n k (u + 1) (f + (x : Int))).sum
def pickO (g : Int → Int) : List Int → Int → Int × Int
  | [], m => (0, m)
  | x :: xs, m => if m < g x then (x, m) else pickO g xs (m - g x)
def aheadO (os : List Int) (x : Int) : List Int := os.takeWhile fun y => decide (y ≠ x)
theorem pick_mem (g : Int → Int) : ∀ (os : List Int) (m : Int), 0 ≤ m → m < (os.map g).sum → (pickO g os m).1 ∈ os ∧ 0 ≤ (pickO g os m).2 ∧ (pickO g os m).2 < g (pickO g os m).1
  | [], m, h0, h => absurd h (by show ¬ m < 0; omega)
  | x :: xs, m, h0, h => by
    rw [List.map_cons, List.sum_cons] at h
    unfold pickO
    by_cases z : m < g x
    · rw [if_pos z]
      exact ⟨List.mem_cons_self .., h0, z⟩
    · rw [if_neg z]
      obtain ⟨h1, h2, h3⟩ := pick_mem g xs (m - g x) (by omega) (by omega)
      exact ⟨List.mem_cons_of_mem _ h1, h2, h3⟩
theorem rel_ne {a b : Int} (h : Rel a b) : a ≠ b := by
  rcases h with ⟨h1, h2 | h2⟩ <;> omega
theorem pick_ahead (g : Int → Int) : ∀ (os : List Int) (m : Int), os.Pairwise Rel → 0 ≤ m → m < (os.map g).sum → ((aheadO os (pickO g os m).1).map g).sum + (pickO g os m).2 = m
  | [], m, _, h0, h => absurd h (by show ¬ m < 0; omega)
  | x :: xs, m, pw, h0, h => by
    rw [List.map_cons, List.sum_cons] at h
    obtain ⟨p1, p2⟩ := List.pairwise_cons.mp pw
    unfold pickO
    by_cases z : m < g x
    · rw [if_pos z]
      unfold aheadO
      rw [List.takeWhile_cons_of_neg (by simp)]
      simp
    · rw [if_neg z]
      obtain ⟨h1, h2, h3⟩ := pick_mem g xs (m - g x) (by omega) (by omega)
      have ne := rel_ne (p1 _ h1)
      have ih := pick_ahead g xs (m - g x) p2 (by omega) (by omega)
      unfold aheadO at ih ⊢
      rw [List.takeWhile_cons_of_pos (by simpa using ne), List.map_cons, List.sum_cons]
      omega
theorem pick_of (g : Int → Int) : ∀ (os : List Int) (x m : Int), os.Pairwise Rel → (∀ y ∈ os, 0 ≤ g y) → x ∈ os → 0 ≤ m → m < g x →
    pickO g os (((aheadO os x).map g).sum + m) = (x, m) ∧ 0 ≤ ((aheadO os x).map g).sum + m ∧ ((aheadO os x).map g).sum + m < (os.map g).sum
  | [], x, m, _, _, hx, _, _ => absurd hx (by simp)
  | y :: ys, x, m, pw, nn, hx, h0, h => by
    obtain ⟨p1, p2⟩ := List.pairwise_cons.mp pw
    have ns : 0 ≤ (ys.map g).sum := sum_nn fun z hz => by
      obtain ⟨w, hw, rfl⟩ := List.mem_map.mp hz
      exact nn w (List.mem_cons_of_mem _ hw)
    have ny := nn y (List.mem_cons_self ..)
    rw [List.map_cons, List.sum_cons]
    by_cases e : y = x
    · subst e
      unfold aheadO
      rw [List.takeWhile_cons_of_neg (by simp)]
      unfold pickO
      rw [List.map_nil, List.sum_nil, Int.zero_add, if_pos h]
      exact ⟨rfl, h0, by omega⟩
    · have hx2 : x ∈ ys := by
        rcases List.mem_cons.mp hx with z | z
        · exact absurd z.symm e
        · exact z
      obtain ⟨i1, i2, i3⟩ := pick_of g ys x m p2 (fun z hz => nn z (List.mem_cons_of_mem _ hz)) hx2 h0 h
      have ea : aheadO (y :: ys) x = y :: aheadO ys x := by
        unfold aheadO
        rw [List.takeWhile_cons_of_pos (by simpa using e)]
      rw [ea, List.map_cons, List.sum_cons]
      unfold pickO
      rw [if_neg (by omega), show g y + ((aheadO ys x).map g).sum + m - g y = ((aheadO ys x).map g).sum + m by omega]
      exact ⟨i1, by omega, by omega⟩
theorem pick_mono (g : Int → Int) : ∀ (os : List Int) (m1 m2 : Int), os.Pairwise Rel → 0 ≤ m1 → m1 < m2 → m2 < (os.map g).sum →
    ((pickO g os m1).1 = (pickO g os m2).1 ∧ (pickO g os m1).2 < (pickO g os m2).2) ∨ Rel (pickO g os m1).1 (pickO g os m2).1
  | [], m1, m2, _, h0, h1, h => absurd h (by show ¬ m2 < 0; omega)
  | x :: xs, m1, m2, pw, h0, h1, h => by
    obtain ⟨p1, p2⟩ := List.pairwise_cons.mp pw
    rw [List.map_cons, List.sum_cons] at h
    unfold pickO
    by_cases z2 : m2 < g x
    · rw [if_pos z2, if_pos (by omega)]
      exact .inl ⟨rfl, h1⟩
    · rw [if_neg z2]
      by_cases z1 : m1 < g x
      · rw [if_pos z1]
        exact .inr (p1 _ (pick_mem g xs (m2 - g x) (by omega) (by omega)).1)
      · rw [if_neg z1]
        exact pick_mono g xs _ _ p2 (by omega) (by omega) (by omega)
section
variable (run : Int → Int → Int) (n : Int)
def nthL : Nat → Int → Int → Int → List (Int × Int)
  | 0, _, _, _ => []
  | k + 1, u, f, m => (if 0 < (pickO (fun x => R run n k (u + 1) (f + x)) (ordI (run (u + 1) f)) m).1 then [(u + 1, (pickO (fun x => R run n k (u + 1) (f + x)) (ordI (run (u + 1) f)) m).1)] else []) ++
    nthL k (u + 1) (f + (pickO (fun x => R run n k (u + 1) (f + x)) (ordI (run (u + 1) f)) m).1) (pickO (fun x => R run n k (u + 1) (f + x)) (ordI (run (u + 1) f)) m).2
def atU (lg : List (Int × Int)) (u : Int) : Int := (lg.lookup u).getD 0
def numL : Nat → Int → Int → List (Int × Int) → Int
  | 0, _, _, _ => 0
  | k + 1, u, f, lg => ((aheadO (ordI (run (u + 1) f)) (atU lg (u + 1))).map fun x => R run n k (u + 1) (f + x)).sum + numL k (u + 1) (f + atU lg (u + 1)) lg
def certR : Int → List (Int × Int) → Prop
  | f, [] => f = n
  | f, p :: r => p.2 ≤ run p.1 f ∧ certR (f + p.2) r
end
variable {run : Int → Int → Int} {n : Int}
theorem R_nn : ∀ (k : Nat) (u f : Int), 0 ≤ R run n k u f
  | 0, _, f => by
    unfold R
    split <;> omega
  | k + 1, u, f => by
    unfold R
    exact sum_nn fun x hx => by
      obtain ⟨i, _, rfl⟩ := List.mem_map.mp hx
      exact R_nn k _ _
theorem R_run {k : Nat} {u f : Int} (h : 0 < R run n (k + 1) u f) : 0 ≤ run (u + 1) f := by
  by_cases z : 0 ≤ run (u + 1) f
  · exact z
  · unfold R at h
    rw [show (run (u + 1) f + 1).toNat = 0 by omega, List.range_zero, List.map_nil, List.sum_nil] at h
    omega
theorem R_le : ∀ (k : Nat) (u f : Int), 0 < R run n k u f → f ≤ n
  | 0, _, f, h => by
    unfold R at h
    split at h <;> omega
  | k + 1, u, f, h => by
    unfold R at h
    obtain ⟨x, hx, px⟩ := sum_pos h
    obtain ⟨i, _, rfl⟩ := List.mem_map.mp hx
    have := R_le k _ _ px
    omega
theorem R_ord {k : Nat} {u f : Int} (h : 0 ≤ run (u + 1) f) : R run n (k + 1) u f = ((ordI (run (u + 1) f)).map fun x => R run n k (u + 1) (f + x)).sum := by
  rw [sum_ord h]
  rfl
theorem asc_le : ∀ {lg : List (Int × Int)} {a b : Int}, a ≤ b → Asc b lg → Asc a lg
  | [], _, _, _, _ => trivial
  | p :: r, a, b, h, ⟨h1, h2, h3⟩ => ⟨by omega, h2, h3⟩
theorem asc_gt : ∀ {lg : List (Int × Int)} {b : Int}, Asc b lg → ∀ p ∈ lg, b + 1 ≤ p.1
  | [], _, _, p, hp => absurd hp (by simp)
  | q :: r, b, ⟨h1, h2, h3⟩, p, hp => by
    rcases List.mem_cons.mp hp with rfl | hp
    · exact h1
    · have := asc_gt h3 p hp
      omega
theorem at_none : ∀ {lg : List (Int × Int)} {u : Int}, (∀ p ∈ lg, p.1 ≠ u) → atU lg u = 0
  | [], _, _ => rfl
  | p :: r, u, h => by
    unfold atU
    rw [List.lookup_cons]
    have ne := h p (List.mem_cons_self ..)
    rw [show (u == p.1) = false from beq_eq_false_iff_ne.mpr (Ne.symm ne)]
    exact at_none fun q hq => h q (List.mem_cons_of_mem _ hq)
theorem at_head {u x : Int} {r : List (Int × Int)} : atU ((u, x) :: r) u = x := by
  unfold atU
  rw [List.lookup_cons, show (u == u) = true from beq_self_eq_true u]
  rfl
theorem at_tail {p : Int × Int} {r : List (Int × Int)} {u : Int} (h : p.1 ≠ u) : atU (p :: r) u = atU r u := by
  unfold atU
  rw [List.lookup_cons, show (u == p.1) = false from beq_eq_false_iff_ne.mpr (Ne.symm h)]
theorem num_tail : ∀ (k : Nat) (u f : Int) {p : Int × Int} {r : List (Int × Int)}, p.1 ≤ u → numL run n k u f (p :: r) = numL run n k u f r
  | 0, _, _, _, _, _ => rfl
  | k + 1, u, f, p, r, h => by
    unfold numL
    rw [at_tail (show p.1 ≠ u + 1 by omega), num_tail k (u + 1) _ (by omega)]
theorem nth_ok : ∀ (k : Nat) (u f m : Int), 0 ≤ m → m < R run n k u f → Asc u (nthL run n k u f m) ∧ (∀ p ∈ nthL run n k u f m, p.1 ≤ u + k) ∧ certR run n f (nthL run n k u f m) ∧ numL run n k u f (nthL run n k u f m) = m
  | 0, u, f, m, h0, h => by
    unfold R at h
    split at h
    · rename_i e
      exact ⟨trivial, fun p hp => absurd hp (by simp [nthL]), e, by unfold numL; omega⟩
    · omega
  | k + 1, u, f, m, h0, h => by
    have hr := R_run (lt_of_le_of_lt' h0 h)
    rw [R_ord hr] at h
    obtain ⟨p1, p2, p3⟩ := pick_mem _ _ m h0 h
    have pa := pick_ahead _ _ m (ord_pw _) h0 h
    obtain ⟨x0, xr⟩ := ord_of hr p1
    unfold nthL
    generalize pickO (fun x => R run n k (u + 1) (f + x)) (ordI (run (u + 1) f)) m = q at p1 p2 p3 pa x0 xr ⊢
    obtain ⟨i1, i2, i3, i4⟩ := nth_ok k (u + 1) (f + q.1) q.2 p2 p3
    generalize nthL run n k (u + 1) (f + q.1) q.2 = lg at i1 i2 i3 i4 ⊢
    by_cases z : 0 < q.1
    · rw [if_pos z]
      refine ⟨⟨Int.le_refl _, by show 1 ≤ q.1; omega, i1⟩, fun p hp => ?_, ⟨xr, i3⟩, ?_⟩
      · rcases List.mem_cons.mp hp with rfl | hp
        · show u + 1 ≤ u + ((k + 1 : Nat) : Int)
          omega
        · have := i2 p hp
          omega
      · show numL run n (k + 1) u f ((u + 1, q.1) :: lg) = m
        unfold numL
        rw [at_head, num_tail k (u + 1) _ (Int.le_refl _), i4]
        exact pa
    · rw [if_neg z]
      have e0 : q.1 = 0 := by omega
      show Asc u lg ∧ (∀ p ∈ lg, p.1 ≤ u + ((k + 1 : Nat) : Int)) ∧ certR run n f lg ∧ numL run n (k + 1) u f lg = m
      rw [e0, Int.add_zero] at i3 i4
      rw [e0] at pa
      refine ⟨asc_le (by omega) i1, fun p hp => ?_, i3, ?_⟩
      · have := i2 p hp
        omega
      · unfold numL
        rw [at_none (fun p hp => by have := asc_gt i1 p hp; omega), Int.add_zero, i4]
        exact pa
where lt_of_le_of_lt' {a b c : Int} (h1 : a ≤ b) (h2 : b < c) : a < c := by omega
theorem num_ok {I : Int → Int → Prop} (hI : ∀ u f, I u f → 0 ≤ run (u + 1) f) (hS : ∀ u f x, I u f → 0 ≤ x → x ≤ run (u + 1) f → I (u + 1) (f + x)) :
    ∀ (k : Nat) (u f : Int) (lg : List (Int × Int)), I u f → Asc u lg → (∀ p ∈ lg, p.1 ≤ u + k) → certR run n f lg → 0 ≤ numL run n k u f lg ∧ numL run n k u f lg < R run n k u f ∧ nthL run n k u f (numL run n k u f lg) = lg
  | 0, u, f, lg, _, ha, hu, hc => by
    match lg, ha, hu, hc with
    | [], _, _, hc =>
      have hc' : f = n := hc
      unfold numL R
      rw [if_pos hc']
      exact ⟨by omega, by omega, rfl⟩
    | p :: r, ⟨h1, _, _⟩, hu, _ =>
      have := hu p (List.mem_cons_self ..)
      omega
  | k + 1, u, f, lg, hi, ha, hu, hc => by
    have hr := hI u f hi
    have key : ∀ (x : Int) (r : List (Int × Int)), 0 ≤ x → x ≤ run (u + 1) f → atU lg (u + 1) = x → numL run n k (u + 1) (f + x) lg = numL run n k (u + 1) (f + x) r → Asc (u + 1) r → (∀ p ∈ r, p.1 ≤ (u + 1) + k) → certR run n (f + x) r → lg = (if 0 < x then [(u + 1, x)] else []) ++ r →
        0 ≤ numL run n (k + 1) u f lg ∧ numL run n (k + 1) u f lg < R run n (k + 1) u f ∧ nthL run n (k + 1) u f (numL run n (k + 1) u f lg) = lg := fun x r x0 xr e1 e2 a2 u2 c2 e3 => by
      obtain ⟨j1, j2, j3⟩ := num_ok hI hS k (u + 1) (f + x) r (hS u f x hi x0 xr) a2 u2 c2
      have en : numL run n (k + 1) u f lg = ((aheadO (ordI (run (u + 1) f)) x).map fun x => R run n k (u + 1) (f + x)).sum + numL run n k (u + 1) (f + x) r := by
        show ((aheadO (ordI (run (u + 1) f)) (atU lg (u + 1))).map fun x => R run n k (u + 1) (f + x)).sum + numL run n k (u + 1) (f + atU lg (u + 1)) lg = _
        rw [e1, e2]
      obtain ⟨q1, q2, q3⟩ := pick_of (fun x => R run n k (u + 1) (f + x)) (ordI (run (u + 1) f)) x (numL run n k (u + 1) (f + x) r) (ord_pw _) (fun y _ => R_nn _ _ _) (ord_mem x0 xr) j1 j2
      rw [en, R_ord hr]
      refine ⟨q2, q3, ?_⟩
      unfold nthL
      rw [q1]
      show (if 0 < x then [(u + 1, x)] else []) ++ nthL run n k (u + 1) (f + x) (numL run n k (u + 1) (f + x) r) = lg
      rw [j3, ← e3]
    match lg, ha, hu, hc with
    | [], _, _, hc => exact key 0 [] (Int.le_refl 0) hr rfl rfl trivial (fun p hp => absurd hp (by simp)) (by rw [Int.add_zero]; exact hc) rfl
    | p :: r, ⟨h1, h2, h3⟩, hu, hc =>
      by_cases e : p.1 = u + 1
      · obtain ⟨v, x⟩ := p
        have e' : v = u + 1 := e
        subst e'
        have hc' : x ≤ run (u + 1) f ∧ certR run n (f + x) r := hc
        exact key x r (by have : 1 ≤ x := h2; omega) hc'.1 at_head (num_tail k (u + 1) _ (Int.le_refl _)) h3 (fun q hq => by have := hu q (List.mem_cons_of_mem _ hq); omega) hc'.2 (by rw [if_pos (show 0 < x by have : 1 ≤ x := h2; omega)]; rfl)
      · have gt : ∀ q ∈ p :: r, u + 2 ≤ q.1 := fun q hq => by
          have := asc_gt (lg := p :: r) (b := u + 1) ⟨by omega, h2, h3⟩ q hq
          omega
        exact key 0 (p :: r) (Int.le_refl 0) hr (at_none fun q hq => by have := gt q hq; omega) rfl ⟨by omega, h2, h3⟩ (fun q hq => by have := hu q hq; omega) (by rw [Int.add_zero]; exact hc) rfl
def ltP (p q : Int × Int) : Bool := if p.1 = q.1 then decide (p.2 < q.2) else decide (p.1 < q.1)
def ltL : List (Int × Int) → List (Int × Int) → Bool
  | [], [] => false
  | [], _ :: _ => true
  | _ :: _, [] => false
  | p :: r, q :: s => if p = q then ltL r s else ltP p q
theorem ltL_self : ∀ (l : List (Int × Int)), ltL l l = false
  | [] => rfl
  | p :: r => by
    unfold ltL
    rw [if_pos rfl]
    exact ltL_self r
theorem nth_mono : ∀ (k : Nat) (u f m1 m2 : Int), 0 ≤ m1 → m1 < m2 → m2 < R run n k u f → ltL (nthL run n k u f m1) (nthL run n k u f m2) = true
  | 0, u, f, m1, m2, h0, h1, h => by
    unfold R at h
    split at h <;> omega
  | k + 1, u, f, m1, m2, h0, h1, h => by
    have hr := R_run (show 0 < R run n (k + 1) u f by omega)
    rw [R_ord hr] at h
    obtain ⟨a1, a2, a3⟩ := pick_mem _ _ m1 h0 (Int.lt_trans h1 h)
    obtain ⟨b1, b2, b3⟩ := pick_mem _ _ m2 (by omega) h
    have mo := pick_mono _ _ m1 m2 (ord_pw _) h0 h1 h
    obtain ⟨x0, xr⟩ := ord_of hr a1
    obtain ⟨y0, yr⟩ := ord_of hr b1
    unfold nthL
    generalize pickO (fun x => R run n k (u + 1) (f + x)) (ordI (run (u + 1) f)) m1 = p at a1 a2 a3 mo x0 xr ⊢
    generalize pickO (fun x => R run n k (u + 1) (f + x)) (ordI (run (u + 1) f)) m2 = q at b1 b2 b3 mo y0 yr ⊢
    rcases mo with ⟨e, lt⟩ | rel
    · have ih := nth_mono k (u + 1) (f + p.1) p.2 q.2 a2 lt (by rw [e]; exact b3)
      rw [← e]
      by_cases z : 0 < p.1
      · rw [if_pos z]
        show (if (u + 1, p.1) = (u + 1, p.1) then _ else _) = true
        rw [if_pos rfl]
        exact ih
      · rw [if_neg z]
        exact ih
    · have p1 : 0 < p.1 := by have := rel.1; omega
      rw [if_pos p1]
      rcases rel.2 with e | lt
      · rw [e, if_neg (by decide)]
        have fn : f + p.1 ≤ n := R_le k (u + 1) (f + p.1) (Int.lt_of_le_of_lt a2 a3)
        have bb : q.2 < R run n k (u + 1) (f + 0) := by rw [← e]; exact b3
        obtain ⟨i1, i2, i3, i4⟩ := nth_ok k (u + 1) (f + 0) q.2 b2 bb
        show ltL ((u + 1, p.1) :: _) (nthL run n k (u + 1) (f + 0) q.2) = true
        generalize nthL run n k (u + 1) (f + 0) q.2 = lg at i1 i3 ⊢
        match lg, i1, i3 with
        | [], _, i3 =>
          have : f + 0 = n := i3
          omega
        | s :: r, ⟨g1, _, _⟩, _ =>
          have ne : ¬ ((u + 1, p.1) : Int × Int) = s := fun z => by
            rw [← z] at g1
            have g2 : (u + 1) + 1 ≤ u + 1 := g1
            omega
          show (if ((u + 1, p.1) : Int × Int) = s then _ else ltP (u + 1, p.1) s) = true
          rw [if_neg ne]
          unfold ltP
          rw [if_neg (show ¬ u + 1 = s.1 by omega)]
          exact decide_eq_true (show u + 1 < s.1 by omega)
      · have q1 : 0 < q.1 := by omega
        rw [if_pos q1]
        show (if ((u + 1, p.1) : Int × Int) = (u + 1, q.1) then _ else ltP (u + 1, p.1) (u + 1, q.1)) = true
        rw [if_neg (fun z => by have := (Prod.mk.inj z).2; omega)]
        unfold ltP
        rw [if_pos rfl]
        exact decide_eq_true lt
end Vk
set_option maxHeartbeats 4000000
/-! f(a, b, k = c) of a def with one keyword-only parameter, also where what it raises is caught -/
namespace Vk
open PySem PySem.Spec PyProof.Rows L2
/-- a def of the module's top with one keyword-only parameter, its default dv -/
structure DfK (K : PySem.W.Frag) (mg : Str → Option Value) (x : Str) (st : Stmt) (ps : List Str) (kn : Str) (dv : V) : Prop where
  ex : ∃ f fd, mg x = some (.ref f) ∧ FunD K x x (defArgs st) (defBody st) (defScope st) [] [(kn, dv)] f fd ∧ KBn K fd (ps ++ [kn]) ps.length [kn] (fun us ws => us ++ ws) (fun vs zs => vs ++ zs) ∧ ∃ ds, Vals [dv] ds ∧ Binds K fd (ps ++ [kn]) ds
/-- its promise -/
structure ClK (P : Program) (w : World) (K : PySem.W.Frag) (mg : Str → Option Value) (base : Heap) (CX : CXT) (k : Nat) (x : Str) (ps : List Str) (kn : Str) (dv : V) (sp : Sp) : Prop where
  ex : ∃ f fd, mg x = some (.ref f) ∧ PySem.W.keepIn K (.ref f) = true ∧ KBn K fd (ps ++ [kn]) ps.length [kn] (fun us ws => us ++ ws) (fun vs zs => vs ++ zs) ∧ (∃ ds, Vals [dv] ds ∧ Binds K fd (ps ++ [kn]) ds) ∧ FnOk P w K mg base CX k f fd (ps ++ [kn]) sp
section
variable {P : Program} {w : World} {K : PySem.W.Frag} {mg : Str → Option Value} {base : Heap}
theorem clK {CX : CXT} {x kn : Str} {st : Stmt} {N ps : List Str} {k : Nat} {dv : V} {sp : Sp} (D : DfK K mg x st ps kn dv) (S : FnScope N (ps ++ [kn]) (defScope st)) (len : ∀ vs H Q E, sp vs H Q E → vs.length = (ps ++ [kn]).length)
    (body : ∀ (f : Addr) (cdv : Value) (A : Around) (outer : List Env) (s : Shared) (H : Hp) (vs : List V) (Q : VK) (E : XK), Room k (A.deeper (envOfC x (defScope st) s.heap.objs.size f cdv)) → sp vs H Q E →
      ∃ t, PSs (cxOf CX P w K mg base N x (defScope st) f cdv A outer s H E) (defBody st) t ∧ t { nx := fun _ H' => Q .non H', rt := Q } (start N vs) H) : ClK P w K mg base CX (k + 1) x ps kn dv sp := by
  obtain ⟨f, fd, hm, F, kb, db⟩ := D.ex
  exact ⟨f, fd, hm, F.kp, kb, db, F.ok S len (body f)⟩
/-- binding, from the def as it stands -/
theorem dfk_mk {x kn : Str} {st : Stmt} {f D : Addr} {oc doc pm cdv ct : Value} {od an : Option Addr} {osl : Array (Option Value)} {dv : V} {u : Value} (m : mg x = some (.ref f))
    (l : K.lookup f = some ⟨oc, od, .func (PySem.W.fnOf x x (defArgs st) (defBody st) (defScope st) .none (.ref D) doc pm an cdv ct), osl⟩) (c : PySem.W.codeIn K cdv x = true) (kp : PySem.W.keepIn K (.ref f) = true) (n : PySem.W.nsIn K D kn = some (some u)) (r : RelV dv u) {p1 p2 : Str}
    (hb : ∀ (doc pm : Value) (an : Option Addr) (cdv ct a b z : Value), bindArgs (PySem.W.fnOf x x (defArgs st) (defBody st) (defScope st) .none (.ref D) doc pm an cdv ct) ⟨[a, b], [(kn, z)]⟩ = pure [(p1, a), (p2, b), (kn, z)])
    (hd : ∀ (doc pm : Value) (an : Option Addr) (cdv ct a b z : Value), KwChain D [(kn, z)] (bindArgs (PySem.W.fnOf x x (defArgs st) (defBody st) (defScope st) .none (.ref D) doc pm an cdv ct) ⟨[a, b], []⟩) [(p1, a), (p2, b), (kn, z)]) : DfK K mg x st [p1, p2] kn dv := by
  have F : FunD K x x (defArgs st) (defBody st) (defScope st) [] [(kn, dv)] f (PySem.W.fnOf x x (defArgs st) (defBody st) (defScope st) .none (.ref D) doc pm an cdv ct) :=
    ⟨⟨oc, od, .none, .ref D, doc, pm, an, cdv, ct, osl, rfl, l, c, .inl ⟨rfl, rfl⟩, .inr ⟨D, rfl, fun q hq => by
      rw [List.mem_singleton.mp hq]
      exact ⟨u, n, r⟩⟩⟩, kp⟩
  refine ⟨f, _, m, F, ⟨fun s us ws X l1 l2 => ?_, fun r1 r2 => r1.append r2⟩, [u], .cons r .nil, fun s us X hl => ?_⟩
  · match us, ws, l1, l2 with
    | [a, b], [z], _, _ => exact .of_eq (hb doc pm an cdv ct a b z)
  · have two : us.length = 2 := by
      rw [List.length_append] at hl
      simp only [List.length_cons, List.length_nil, List.length_append] at hl
      omega
    match us, two with
    | [a, b], _ =>
      refine BindsTo.of_looks fun M => KwChain.looks X (fun q hq => ?_) (hd doc pm an cdv ct a b u)
      rw [List.mem_singleton.mp hq]
      exact n
end
/-- the call with a keyword, where W takes what is raised -/
def tCallK (sp : Sp) (ex : L2.St → XK) (n : Nat) (t tk : TA) : TE := fun σ H Q => t σ H fun vs H1 => tk σ H1 fun zs H2 => vs.length = n ∧ zs.length = 1 ∧ sp (vs ++ zs) H2 Q (ex σ)
section
variable {X : Cx} {CX : CXT} {k n : Nat} {fa : Addr} {fdat : FuncData} {names : List Str} {kn : Str} {sp : Sp} {ex : L2.St → XK} {x : Str} {p pos : Pos} {e1 : Expr} {es1 : List Expr} {kws1 : List Keyword} {ta1 tk1 : TA}
theorem pe_callK (fn : FnOk X.prog X.w X.K X.mg X.base CX k fa fdat names sp) (room : Room k X.A) (gx : Gl X x) (mx : X.mg x = some (.ref fa)) (kx : PySem.W.keepIn X.K (.ref fa) = true) (kb : KBn X.K fdat names n [kn] (fun us ws => us ++ ws) (fun vs zs => vs ++ zs)) (px : ∀ σ, PassesAt CX X σ (ex σ))
    (args : PA X (e1 :: es1) ta1) (kargs : PK X kws1 tk1) (all1 : (backToKw pos (keywordEach kws1 X.env)).all (·.1.isSome) = true := by rfl) (names1 : (backToKw pos (keywordEach kws1 X.env)).filterMap (·.1) = [kn] := by rfl)
    (nodebug : (x == ("__debug__" : Str)) = false := by decide) (first1 : starEach (e1 :: es1) X.env = (false, eval e1 X.env) :: starEach es1 X.env := by rfl)
    (plain1 : ((backTo pos (starEach (e1 :: es1) X.env)).any (·.1) || (backToKw pos (keywordEach kws1 X.env)).any (·.1.isNone)) = false := by rfl) :
    PE X (.Call (.Name x p) (e1 :: es1) kws1 pos) (tCallK sp ex n ta1 tk1) := ⟨fun pins s σ H Q I h => by
  refine wpAny_Call_Name_kw (ld_glob I gx mx ?_ nodebug)
  refine PySem.W.callWith_KW (h₀ := X.base) I.ok.mod.kin kx all1 (thn (args.run pos pins s σ H _ I h) fun us s1 got => ?_) plain1 first1
  obtain ⟨vs, H1, I1, rv, q⟩ := got
  refine thn (kargs.run pos pins s1 σ H1 _ I1 q) fun ws s2 got2 => ?_
  obtain ⟨zs, H2, I2, rz, n1, n2, q2⟩ := got2
  refine ⟨I2.kIn, ?_⟩
  rw [names1]
  have len1 : us.length = n := rv.length.symm.trans n1
  have len2 : ws.length = [kn].length := rz.length.symm.trans n2
  refine wpAny_call (codeAny_mono (fn.run X.A X.stack s2 H2 ⟨us, [kn].zip ws⟩ (us ++ ws) (vs ++ zs) Q (ex σ) room I2.env0 (kb.to s2 us ws I2.kIn len1 len2) (kb.rel rv rz) q2) fun res s3 hq => ?_)
  match res, hq with
  | .error er, hq => exact px σ pins H2 s2 er s3 I2 hq
  | .ok (.ret u), hq => exact I2.after hq
  | .ok .next, hq => exact False.elim hq
  | .ok .brk, hq => exact False.elim hq
  | .ok .cont, hq => exact False.elim hq⟩
end
end Vk
set_option maxHeartbeats 4000000
namespace Vk
open PySem PySem.Spec PyProof.Rows L2 GxR
theorem passE0 {X : Cx} : Passes (L2.CX X.prog X.w) X E0 := fun _ _ _ _ _ _ _ ⟨_, _, _, _, _, _, _, _, _, _, _, _, h⟩ => False.elim h
section
variable {P : Program} {w : World} {K : PySem.W.Frag} {mg : Str → Option Value} {base : Heap}
def spFirst (K : PySem.W.Frag) (T C : Addr) : Sp := fun vs H Q E => ∃ (v u : V) (js : List PyData) (d : PyData) (c : Int), vs = [v, u, .int c] ∧ Dp K H v (.tuple js) ∧ js.all jobD = true ∧ js.length ≤ 900 ∧ jobsPlace (.tuple js) = none ∧ TabG H T ∧ Dp K H u d ∧ lenLog d ≤ 50000 ∧
  (∀ lg, logPlace d = none → d = .tuple (lg.map pairP) → ∀ v' H', Same H H' → Dp K H' v' (certD js c 0 lg) → Q v' H') ∧
  (∀ i, logPlace d = some i → ∀ (dx : Addr) (H' : Hp), Same H H' → H' dx = some (.xd [(("place" : Str), .int i)]) → E (.ref C) (some dx) H')
theorem scFirst : FnScope ["jobs", "log", "processors", "finished", "unit", "finishes", "running"] ([("jobs" : Str), "log"] ++ [("processors" : Str)]) (defScope sFirst) := ⟨rfl, rfl, rfl, by decide +kernel, rfl, by decide +kernel, by decide +kernel⟩
theorem ok_first {T C C0 : Addr} (D : DfK K mg "first_fault" sFirst ["jobs", "log"] "processors" (.int 1)) (B : Blt mg) (CJ : Cl P w K mg base (L2.CX P w) 5 "check_jobs" ["jobs"] (spCheck K T C0)) (CL : Cl P w K mg base (L2.CX P w) 3 "check_log" ["log"] (spCheckLog K C))
    (RU : Cl P w K mg base CX0 4 "count_running" ["jobs", "unit", "finished", "processors"] (spRunning K)) : ClK P w K mg base (L2.CX P w) 6 "first_fault" ["jobs", "log"] "processors" (.int 1) (spFirst K T C) := by
  refine clK D scFirst (fun vs H Q E h => ?_) (fun f cdv A outer s H vs Q E hr h => ?_)
  · obtain ⟨v, u, js, d, c, rfl, _⟩ := h
    rfl
  · obtain ⟨v, u, js, d, c, rfl, hd, okj, l9, jp, tg, hu, ll, kN, kE⟩ := h
    obtain ⟨fJ, fdJ, mJ, kpJ, bJ, FJ⟩ := CJ.ex
    obtain ⟨fL, fdL, mL, kpL, bL, FL⟩ := CL.ex
    refine ⟨_, pss_cons (ps_expr (pe_call (E := E) FJ hr rfl mJ kpJ bJ .nil (passes_call (W := fun cls d _ H => E cls d H) (takes_of rfl rfl rfl rfl) (fun _ _ _ _ h => h)) (pa_cons (pv 0) pa_nil)))
      (pss_cons (ps_expr (pe_call (E := E) FL (hr.mono (by decide)) rfl mL kpL bL .nil (passes_call (W := fun cls d _ H => E cls d H) (takes_of rfl rfl rfl rfl) (fun _ _ _ _ h => h)) (pa_cons (pv 1) pa_nil)))
      (pss_cons (ps_set (i := 3) scFirst.nd rfl (Or.inl rfl) pe_int)
      (pss_cons (ps_for (passes_of rfl) rfl (pi_tup (pv 1)) (pg_tup rfl (pgs_cons (pg_name (i := 4) scFirst.nd rfl (.inl rfl)) (pgs_cons (pg_name (i := 5) scFirst.nd rfl (.inl rfl)) pgs_nil)))
        (pss_cons (ps_set (i := 6) scFirst.nd rfl (Or.inl rfl) (pc RU hr (by decide) (pa_cons (pv 0) (pa_cons (pv 4) (pa_cons (pv 3) (pa_cons (pv 2) pa_nil))))))
        (pss_cons (ps_if (pt_cmpR op_gt (pv 5) (pv 6) (nomark _)) (pss_one (ps_ret (pe_tup (pa_cons pe_str (pa_cons (pv 4) (pa_cons (pv 6) pa_nil)))))) pss_nil)
        (pss_one (ps_aug (i := 3) scFirst.nd rfl (Or.inl rfl) (pv 5) ip_add)))))
      (pss_one (ps_ret (pe_ifExp (pt_cmpR op_eq (pv 3) (pe_callB call_len_seq (by rfl) B.len PySem.boot_len (pa_cons (pv 0) pa_nil)) (nomark _)) pe_non
        (pe_tup (pa_cons pe_str (pa_cons (pe_op op_sub (pe_callB call_len_seq (by rfl) B.len PySem.boot_len (pa_cons (pv 0) pa_nil)) (pv 3)) pa_nil))))))))), ?_⟩
    have nj : niceJobs (.tuple js) := ⟨fun d hd => nice_of (List.all_eq_true.mp okj d hd), l9⟩
    refine ⟨_, rfl, v, .tuple js, rfl, hd, nj, tg, fun _ H1 s1 => ?_, fun i e => absurd (jp.symm.trans e) (fun z => nomatch z)⟩
    refine ⟨_, rfl, u, d, rfl, dp_same s1 hu, ll, fun ln H2 s2 => ?_, fun i e dx H2 s2 hx => kE i e dx H2 (s1.trans s2) hx⟩
    obtain ⟨lg, rfl, asc⟩ := log_pairs ln
    have k := kN lg ln rfl
    have s12 := s1.trans s2
    obtain ⟨pl, xs, rfl, ql, rl⟩ := dp_tuple (dp_same s12 hu)
    obtain ⟨pj, ys, rfl, qj, rj⟩ := dp_tuple (dp_same s12 hd)
    have xl := dps_len rl
    have yl := dps_len rj
    rw [List.length_map] at xl
    have dj : Dp K H2 (.ref pj) (.tuple js) := .tup qj rj
    refine ⟨_, rfl, pl, rfl, ⟨_, ql⟩, for_it (walk_tup (K := K) (a := pl) (xs := xs)) (fun i σ G => ∃ (f : Int) (u4 u5 u6 : Option V), σ = [some (.ref pj), some (.ref pl), some (.int c), some (.int f), u4, u5, u6] ∧ Same H2 G ∧ certD js c 0 lg = certD js c f (lg.drop i))
      ⟨0, none, none, none, rfl, Same.refl H2, rfl⟩ (fun i σ G _ ⟨_, _, _, _, _, s, _⟩ => same_seqT s ql) ?_ ?_⟩
    · rintro i y1 σ G0 G hi ⟨f, u4, u5, u6, rfl, sG, ec⟩ ⟨rfl, hy1⟩
      obtain ⟨d1, hd1, dd1⟩ := dps_getV rl hy1
      rw [List.getElem?_map] at hd1
      obtain ⟨p, hp, rfl⟩ := Option.map_eq_some_iff.mp hd1
      have dr : lg.drop i = p :: lg.drop (i + 1) := by
        obtain ⟨h1, h2⟩ := List.getElem?_eq_some_iff.mp hp
        rw [List.drop_eq_getElem_cons h1, h2]
      rw [dr] at ec
      replace ec : certD js c 0 lg = if runI js p.1 f c < p.2 then .tuple [.str "crowded", .int p.1, .int (runI js p.1 f c)] else certD js c (f + p.2) (lg.drop (i + 1)) := ec
      obtain ⟨pp, xv, yv, rfl, qp, dx, dy⟩ := dp_two (dp_same sG dd1)
      have ex := dp_int dx
      subst ex
      have ey := dp_int dy
      subst ey
      refine ⟨pp, _, rfl, qp, rfl, _, _, rfl, _, _, rfl, rfl, ?_⟩
      refine ⟨_, rfl, _, rfl, _, rfl, _, rfl, .ref pj, js, p.1, f, c, rfl, dp_same sG dj, okj, l9, fun G1 s3 => ?_⟩
      have sG1 := sG.trans s3
      refine ⟨_, rfl, _, rfl, _, _, rfl, rfl, _, rfl, ?_⟩
      by_cases hc : runI js p.1 f c < p.2
      · rw [decide_eq_true (show p.2 > runI js p.1 f c from hc)]
        rw [if_pos hc] at ec
        refine iteT ⟨_, rfl, _, rfl, (by show 3 ≤ sizeLine; decide), fun t nt => ?_⟩
        refine k _ _ (s12.trans (sG1.trans (same_new nt))) ?_
        rw [ec]
        exact .tup (SqT.of upd_same) (.cons (.str _) (.cons (.int _) (.cons (.int _) .nil)))
      · rw [decide_eq_false (show ¬ p.2 > runI js p.1 f c from hc)]
        rw [if_neg hc] at ec
        exact iteF ⟨_, rfl, _, rfl, _, _, rfl, rfl, f + p.2, _, _, _, rfl, sG1, ec⟩
    · rintro σ G ⟨f, u4, u5, u6, rfl, sG, ec⟩
      rw [xl, List.drop_length] at ec
      replace ec : certD js c 0 lg = if f = (js.length : Int) then .none else .tuple [.str "unfinished", .int ((js.length : Int) - f)] := ec
      refine ⟨_, rfl, _, rfl, pj, ys, rfl, .inr (same_seqT sG qj), rfl, _, rfl, ?_⟩
      rw [yl]
      by_cases hf : f = (js.length : Int)
      · rw [show decide (V.int f = V.int ((js.length : Nat) : Int)) = true from decide_eq_true (by rw [hf])]
        rw [if_pos hf] at ec
        refine iteT (k _ _ (s12.trans sG) ?_)
        rw [ec]
        exact .non
      · rw [show decide (V.int f = V.int ((js.length : Nat) : Int)) = false from decide_eq_false (fun e => hf (V.int.inj e))]
        rw [if_neg hf] at ec
        refine iteF ⟨_, rfl, pj, ys, rfl, .inr (same_seqT sG qj), _, rfl, _, _, rfl, rfl, (by show 2 ≤ sizeLine; decide), fun t nt => ?_⟩
        refine k _ _ (s12.trans (sG.trans (same_new nt))) ?_
        rw [ec, yl]
        exact .tup (SqT.of upd_same) (.cons (.str _) (.cons (.int _) .nil))
end
end Vk
set_option maxHeartbeats 4000000
/-! comb(n, k) of math, by a global that holds the built-in; the rows of its triangle -/
namespace Vk
open PySem PySem.Spec PyProof.Rows L2
def rComb : List V → Hp → VK → Prop := fun xs H Q => ∃ i j : Int, xs = [.int i, .int j] ∧ 0 ≤ i ∧ 0 ≤ j ∧ i < 2 ^ 64 ∧ j ≤ 9000 ∧ Q (.int (PySem.W.mcComb i j)) H
section
variable {X : Cx} {nm : String} {x : Str} {p pos : Pos} {r : List V → Hp → VK → Prop} {e1 : Expr} {es1 : List Expr} {ta1 : TA}
theorem call_comb : CallR X (.builtin "math.comb") rComb := by
  rintro pins s σ H xs us Q I rv ⟨i, j, rfl, i0, j0, i64, j9, go⟩
  obtain ⟨u1, u2, rfl, ⟨t1, rfl⟩, ⟨t2, rfl⟩⟩ := vals2 rv
  exact PySem.W.mc_comb i0 j0 i64 (.inl j9) fun _ => ⟨.int _, H, I.tok _, ⟨_, rfl⟩, go⟩
/-- x(..), where the global x holds a built-in -/
theorem pe_callG (cr : CallR X (.builtin nm) r) (gx : Gl X x) (mx : X.mg x = some (.builtin nm)) (args : PA X (e1 :: es1) ta1) (nodebug : (x == ("__debug__" : Str)) = false := by decide)
    (first1 : starEach (e1 :: es1) X.env = (false, eval e1 X.env) :: starEach es1 X.env := by rfl) (plain1 : (backTo pos (starEach es1 X.env)).any (·.1) = false := by rfl) : PE X (.Call (.Name x p) (e1 :: es1) [] pos) (tCB r ta1) :=
  ⟨fun pins s σ H Q I h => wpAny_Call_Name_kw (ld_glob I gx mx (PyProof.Rows.callWith_builtin1 (thn (args.run pos pins s σ H _ I h) fun us s1 ⟨vs, H1, I1, rv, go⟩ => cr pins s1 σ H1 vs us Q I1 rv go) first1 plain1) nodebug)⟩
end
/-- a row of the triangle -/
def pasR : Nat → List Int
  | 0 => [1]
  | n + 1 => List.zipWith (· + ·) (pasR n ++ [0]) ([0] ++ pasR n)
theorem pasR_len : ∀ n, (pasR n).length = n + 1
  | 0 => rfl
  | n + 1 => by
    show (List.zipWith (· + ·) (pasR n ++ [0]) ([0] ++ pasR n)).length = _
    rw [List.length_zipWith, List.length_append, List.length_append, pasR_len n]
    show min (n + 1 + 1) (1 + (n + 1)) = _
    omega
theorem comb_pas {i j : Int} (i0 : 0 ≤ i) (i8 : i ≤ 8) (j0 : 0 ≤ j) (ji : j ≤ i) : (pasR i.toNat)[j.toNat]? = some (PySem.W.mcComb i j) := by
  have all : ∀ a : Fin 9, ∀ b : Fin 9, b.1 ≤ a.1 → (pasR a.1)[b.1]? = some (PySem.W.mcComb (a.1 : Int) (b.1 : Int)) := by decide +kernel
  have z := all ⟨i.toNat, by omega⟩ ⟨j.toNat, by omega⟩ (show j.toNat ≤ i.toNat by omega)
  simp only [] at z
  rw [Int.toNat_of_nonneg i0, Int.toNat_of_nonneg j0] at z
  exact z
theorem comb_small {i j : Int} (i0 : 0 ≤ i) (i8 : i ≤ 8) (j0 : 0 ≤ j) (ji : j ≤ i) : 0 ≤ PySem.W.mcComb i j ∧ PySem.W.mcComb i j ≤ 70 := by
  have all : ∀ a : Fin 9, ∀ b : Fin 9, b.1 ≤ a.1 → 0 ≤ PySem.W.mcComb (a.1 : Int) (b.1 : Int) ∧ PySem.W.mcComb (a.1 : Int) (b.1 : Int) ≤ 70 := by decide +kernel
  have z := all ⟨i.toNat, by omega⟩ ⟨j.toNat, by omega⟩ (show j.toNat ≤ i.toNat by omega)
  simp only [] at z
  rw [Int.toNat_of_nonneg i0, Int.toNat_of_nonneg j0] at z
  exact z
end Vk
set_option maxHeartbeats 8000000
namespace Vk
open PySem PySem.Spec PyProof.Rows L2 GxR
/-- the pairs of a unit: how many finish, in how many ways -/
def outD (r : Int) : List PyData := (List.range (r + 1).toNat).map fun (x : Nat) => .tuple [.int (x : Int), .int (PySem.W.mcComb r (x : Int))]
theorem rgV_len {a b : Int} : (rgV a b).length = (b - a).toNat := by
  unfold rgV
  rw [List.length_map, List.length_range]
theorem pres_le {js : List PyData} {u f c : Int} : runI js u f c ≤ (js.length : Int) - f := by
  have h1 := run_le (js := js) (u := u) (f := f) (c := c)
  have h2 := count_le js (u - 1) f
  unfold presI at h1
  omega
theorem pres_ge {js : List PyData} {u f c : Int} (h : 0 ≤ c) : 0 ≤ runI js u f c ∨ -f ≤ runI js u f c := by
  unfold runI presI
  split <;> omega
theorem ord_rg {r : Int} : rgV 1 (r + 1) ++ [V.int 0] = (ordI r).map V.int := by
  unfold ordI rgV
  rw [List.map_append, List.map_map, show (r + 1 - 1).toNat = r.toNat by omega]
  congr 1
  refine List.map_congr_left fun i _ => ?_
  show V.int (1 + (i : Int)) = V.int ((i : Int) + 1)
  rw [Int.add_comm]
section
variable {P : Program} {w : World} {K : PySem.W.Frag} {mg : Str → Option Value} {base : Heap}
def spOutcomes (K : PySem.W.Frag) : Sp := fun vs H Q _ => ∃ (v : V) (js : List PyData) (u f c : Int), vs = [v, .int u, .int f, .int c] ∧ Dp K H v (.tuple js) ∧ js.all jobD = true ∧ js.length ≤ 900 ∧ 0 ≤ f ∧ f ≤ 100000 ∧ 0 ≤ c ∧ ∀ (D : Addr) (H' : Hp), Same H H' → Dp K H' (.ref D) (.list (outD (runI js u f c))) → Q (.ref D) H'
theorem scOutcomes : FnScope ["jobs", "unit", "finished", "processors", "running", "finishes"] ["jobs", "unit", "finished", "processors"] (defScope sOutcomes) := ⟨rfl, rfl, rfl, by decide +kernel, rfl, by decide +kernel, by decide +kernel⟩
theorem ok_outcomes (D : Df K mg "outcomes" sOutcomes ["jobs", "unit", "finished", "processors"]) (B : Blt mg) (mc : mg "comb" = some (.builtin "math.comb")) (RU : Cl P w K mg base CX0 4 "count_running" ["jobs", "unit", "finished", "processors"] (spRunning K)) :
    Cl P w K mg base CX0 5 "outcomes" ["jobs", "unit", "finished", "processors"] (spOutcomes K) := by
  refine cl0 D scOutcomes (fun vs H Q E h => ?_) (fun f cdv A outer s H vs Q E hr h => ?_)
  · obtain ⟨v, js, u, f, c, rfl, _⟩ := h
    rfl
  · obtain ⟨v, js, u, fi, c, rfl, hd, okj, l9, f0, f9, c0, k⟩ := h
    refine ⟨_, pss_cons (ps_set (i := 4) scOutcomes.nd rfl (Or.inr rfl) (pc RU hr (by decide) (pa_cons (pv 0) (pa_cons (pv 1) (pa_cons (pv 2) (pa_cons (pv 3) pa_nil))))))
      (pss_one (ps_ret (pe_lc (own := [("finishes", 5)]) (g := gName 5) (tt := tYes) (te := _) (by rfl) scOutcomes.nd (pi_range1 rfl B.range (pa_cons (pe_op op_add (pv 4) pe_int) pa_nil))
        (blkOk_by (own := [("finishes", 5)]) (N := ["jobs", "unit", "finished", "processors", "running", "finishes"]) (sc := defScope sOutcomes) (by decide +kernel)) (fun _ _ _ _ _ => pg_name (i := 5) scOutcomes.nd rfl (Or.inl rfl)) (fun _ _ _ _ _ => pts_nil)
        (fun _ _ _ _ _ => pe_tup (pa_cons (pv 5) (pa_cons (pe_callG call_comb rfl mc (pa_cons (pv 4) (pa_cons (pv 5) pa_nil))) pa_nil)))))), ?_⟩
    refine ⟨_, rfl, _, rfl, _, rfl, _, rfl, v, js, u, fi, c, rfl, hd, okj, l9, fun H1 s1 => ?_⟩
    have rl := pres_le (js := js) (u := u) (f := fi) (c := c)
    have rg := pres_ge (js := js) (u := u) (f := fi) (c := c) c0
    generalize runI js u fi c = r at rl rg k ⊢
    refine ⟨_, rfl, _, _, rfl, rfl, r + 1, rfl, by omega, by omega, fun D0 nD => ?_⟩
    refine lc_range (n := (r + 1).toNat) (fun i Hc => ∃ acc, Same H1 (Off D0 Hc) ∧ Hc D0 = some (.lst acc) ∧ DpAll K (Off D0 Hc) acc ((List.range i).map fun (x : Nat) => .tuple [.int (x : Int), .int (PySem.W.mcComb r (x : Int))]))
      ⟨[], by rw [off_upd, off_none nD]; exact Same.refl _, upd_same, .nil⟩ ?_ ?_
    · rintro i Hc hi ⟨acc, sc, hD, da⟩
      have al := dps_len da
      rw [List.length_map, List.length_range] at al
      refine ⟨rfl, _, rfl, _, rfl, _, rfl, _, _, rfl, by omega, by omega, by omega, by omega, (by show 2 ≤ sizeLine; decide), fun t nt => ?_⟩
      have tD : t ≠ D0 := (ne_of_none hD nt).symm
      have st := same_new (o := .tup [V.int (0 + (i : Int)), V.int (PySem.W.mcComb r (0 + (i : Int)))]) nt
      refine ⟨acc, st.at hD, by rw [al]; exact Nat.lt_of_lt_of_le (show i < 1000 by omega) (by decide), acc ++ [.ref t], ?_, upd_same, ?_⟩
      · rw [off_upd]
        exact sc.trans (off_mono st)
      · rw [off_upd, List.range_succ, List.map_append]
        refine dps_app (dps_same (off_mono st) da) (.cons ?_ .nil)
        rw [Int.zero_add]
        exact .tup (SqT.of (by rw [off_ne tD, upd_same])) (.cons (.int _) (.cons (.int _) .nil))
    · rintro Hc ⟨acc, sc, hD, da⟩
      exact k D0 Hc (s1.trans (sc.trans (off_sub D0 Hc))) (.lst (SqL.of hD) (dps_same (off_sub D0 Hc) da))
def spInOrder (K : PySem.W.Frag) : Sp := fun vs H Q _ => ∃ (v : V) (js : List PyData) (u f c : Int), vs = [v, .int u, .int f, .int c] ∧ Dp K H v (.tuple js) ∧ js.all jobD = true ∧ js.length ≤ 900 ∧ 0 ≤ f ∧ f ≤ 100000 ∧ 0 ≤ c ∧ ∀ (D : Addr) (H' : Hp), Same H H' → H' D = some (.lst ((ordI (runI js u f c)).map V.int)) → Q (.ref D) H'
theorem scInOrder : FnScope ["jobs", "unit", "finished", "processors", "running"] ["jobs", "unit", "finished", "processors"] (defScope sInOrder) := ⟨rfl, rfl, rfl, by decide +kernel, rfl, by decide +kernel, by decide +kernel⟩
theorem ok_inOrder (D : Df K mg "in_order" sInOrder ["jobs", "unit", "finished", "processors"]) (B : Blt mg) (RU : Cl P w K mg base CX0 4 "count_running" ["jobs", "unit", "finished", "processors"] (spRunning K)) :
    Cl P w K mg base CX0 5 "in_order" ["jobs", "unit", "finished", "processors"] (spInOrder K) := by
  refine cl0 D scInOrder (fun vs H Q E h => ?_) (fun f cdv A outer s H vs Q E hr h => ?_)
  · obtain ⟨v, js, u, f, c, rfl, _⟩ := h
    rfl
  · obtain ⟨v, js, u, fi, c, rfl, hd, okj, l9, f0, f9, c0, k⟩ := h
    refine ⟨_, pss_cons (ps_set (i := 4) scInOrder.nd rfl (Or.inl rfl) (pc RU hr (by decide) (pa_cons (pv 0) (pa_cons (pv 1) (pa_cons (pv 2) (pa_cons (pv 3) pa_nil))))))
      (pss_one (ps_ret (pe_op op_cat (pe_listRg rfl rfl B.list (prg_2 rfl B.range pe_int (pe_op op_add (pv 4) pe_int))) (pe_lst (pa_cons pe_int pa_nil))))), ?_⟩
    refine ⟨_, rfl, _, rfl, _, rfl, _, rfl, v, js, u, fi, c, rfl, hd, okj, l9, fun H1 s1 => ?_⟩
    have rl := pres_le (js := js) (u := u) (f := fi) (c := c)
    have rg := pres_ge (js := js) (u := u) (f := fi) (c := c) c0
    generalize runI js u fi c = r at rl rg k ⊢
    refine ⟨_, rfl, _, _, rfl, rfl, _, _, rfl, rfl, ⟨by omega, by omega, by omega, by omega, by omega⟩, fun q nq => ?_⟩
    have sq := same_new (o := .lst (rgV 1 (r + 1))) nq
    refine ⟨(by show 1 ≤ sizeLine; decide), fun q2 nq2 => ?_⟩
    have sq2 := same_new (o := .lst [V.int 0]) nq2
    refine ⟨q, q2, _, _, rfl, rfl, sq2.at upd_same, upd_same, ?_, fun t nt => ?_⟩
    · rw [rgV_len]
      exact Nat.le_trans (show (r + 1 - 1).toNat + 1 ≤ 1000 by omega) (by decide)
    refine k t _ (((s1.trans sq).trans sq2).trans (same_new nt)) ?_
    rw [upd_same, ord_rg]
end
end Vk
set_option maxHeartbeats 8000000
namespace Vk
open PySem PySem.Spec PyProof.Rows L2 GxR
theorem off_both {K : PySem.W.Frag} {G : Hp} {q : Addr} {o : HO} {vs : List V} {ds : List PyData} {v : V} {d : PyData} (n : G q = none) (h1 : DpAll K G vs ds) (h2 : Dp K G v d) : DpAll K (Off q (upd G q o)) vs ds ∧ Dp K (Off q (upd G q o)) v d := by
  rw [off_upd, off_none n]
  exact ⟨h1, h2⟩
theorem at_new {G : Hp} {p : Addr} {o : HO} (_s : Same G (upd G p o)) : upd G p o p = some o := upd_same
theorem atI_lastR {α : Type} {xs : List α} (h : 0 < xs.length) : atI xs (-1) = xs[xs.length - 1]? := by
  unfold atI ixN
  rw [if_neg (by decide), if_pos (by omega)]
  show xs[((xs.length : Int) + -1).toNat]? = _
  congr 1
  omega
theorem dps_revR {K : PySem.W.Frag} {H : Hp} : ∀ {vs : List V} {ds : List PyData}, DpAll K H vs ds → DpAll K H vs.reverse ds.reverse
  | _, _, .nil => .nil
  | _, _, .cons h r => by
    rw [List.reverse_cons, List.reverse_cons]
    exact dps_app (dps_revR r) (.cons h .nil)
theorem dp_lstR {K : PySem.W.Frag} {H : Hp} {v : V} {ds : List PyData} (h : Dp K H v (.list ds)) : ∃ p xs, v = .ref p ∧ SqL K H p xs ∧ DpAll K H xs ds := by
  cases h with
  | lst q r => exact ⟨_, _, rfl, q, r⟩
theorem out_at {r : Int} {j : Nat} {d : PyData} (h : (outD r)[j]? = some d) : j < (r + 1).toNat ∧ d = .tuple [.int (j : Int), .int (PySem.W.mcComb r (j : Int))] := by
  unfold outD at h
  rw [List.getElem?_map] at h
  obtain ⟨x, hx, rfl⟩ := Option.map_eq_some_iff.mp h
  obtain ⟨h1, h2⟩ := List.getElem?_eq_some_iff.mp hx
  rw [List.length_range] at h1
  rw [List.getElem_range] at h2
  subst h2
  exact ⟨h1, rfl⟩
/-- a row of rests: k units left, at moment u -/
def rowI (run : Int → Int → Int) (n k : Nat) (u : Int) : List Int := (List.range (n + 1)).map fun (f : Nat) => R run (n : Int) k u (f : Int)
def rowD (run : Int → Int → Int) (n k : Nat) (u : Int) : PyData := .list ((rowI run n k u).map PyData.int)
theorem dps_ints {K : PySem.W.Frag} {H : Hp} : ∀ (l : List Int), DpAll K H (l.map V.int) (l.map PyData.int)
  | [] => .nil
  | x :: l => .cons (.int x) (dps_ints l)
theorem ints_dps {K : PySem.W.Frag} {H : Hp} : ∀ {vs : List V} {l : List Int}, DpAll K H vs (l.map PyData.int) → vs = l.map V.int
  | _, [], .nil => rfl
  | _, x :: l, .cons h r => by
    rw [List.map_cons, ints_dps r, dp_int h]
theorem row0 {run : Int → Int → Int} {n : Nat} {u : Int} : (List.replicate n [V.int 0]).flatten ++ [V.int 1] = (rowI run n 0 u).map V.int := by
  unfold rowI
  rw [List.range_succ, List.map_append, List.map_append]
  congr 1
  · have e : (List.range n).map (fun (f : Nat) => R run (n : Int) 0 u (f : Int)) = List.replicate n 0 := by
      rw [List.eq_replicate_iff]
      refine ⟨by rw [List.length_map, List.length_range], fun b hb => ?_⟩
      obtain ⟨f, hf, rfl⟩ := List.mem_map.mp hb
      have := List.mem_range.mp hf
      unfold R
      rw [if_neg (by omega)]
    rw [e, List.map_replicate]
    exact List.flatten_replicate_singleton
  · unfold R
    simp
theorem row_len {run : Int → Int → Int} {n k : Nat} {u : Int} : (rowI run n k u).length = n + 1 := by
  unfold rowI
  rw [List.length_map, List.length_range]
theorem row_at {run : Int → Int → Int} {n k : Nat} {u f : Int} (h0 : 0 ≤ f) (h : f ≤ n) : atI ((rowI run n k u).map V.int) f = some (.int (R run (n : Int) k u f)) := by
  have e : (((rowI run n k u).map V.int))[f.toNat]? = some (.int (R run (n : Int) k u f)) := by
    unfold rowI
    rw [List.map_map, List.getElem?_map, List.getElem?_range (by omega)]
    show some (V.int (R run (n : Int) k u ((f.toNat : Nat) : Int))) = _
    rw [Int.toNat_of_nonneg h0]
  have z := atI_nat e
  rw [Int.toNat_of_nonneg h0] at z
  exact z
/-- the rows as they are made, from the last moment on -/
def downD (run : Int → Int → Int) (n : Nat) (la : Int) (m : Nat) : List PyData := (List.range m).map fun (i : Nat) => rowD run n i (la - (i : Int))
theorem down_last {run : Int → Int → Int} {n : Nat} {la : Int} {m : Nat} : (downD run n la (m + 1))[m]? = some (rowD run n m (la - (m : Int))) := by
  unfold downD
  rw [List.getElem?_map, List.getElem?_range (by omega)]
  rfl
theorem down_succ {run : Int → Int → Int} {n : Nat} {la : Int} {m : Nat} : downD run n la (m + 1) = downD run n la m ++ [rowD run n m (la - (m : Int))] := by
  unfold downD
  rw [List.range_succ, List.map_append]
  rfl
def restsD (run : Int → Int → Int) (n : Nat) (la : Nat) : List PyData := (downD run n (la : Int) (la + 1)).reverse
theorem rests_at {run : Int → Int → Int} {n la u : Nat} (h : u ≤ la) : (restsD run n la)[u]? = some (rowD run n (la - u) (u : Int)) := by
  unfold restsD
  have l : (downD run n (la : Int) (la + 1)).length = la + 1 := by unfold downD; rw [List.length_map, List.length_range]
  rw [List.getElem?_reverse (by omega), l]
  unfold downD
  rw [List.getElem?_map, List.getElem?_range (by omega), show la + 1 - 1 - u = la - u by omega]
  show some (rowD run n (la - u) ((la : Int) - ((la - u : Nat) : Int))) = _
  rw [show ((la : Int) - ((la - u : Nat) : Int)) = (u : Int) by omega]
section
variable {P : Program} {w : World} {K : PySem.W.Frag} {mg : Str → Option Value} {base : Heap}
def spRests (K : PySem.W.Frag) : Sp := fun vs H Q _ => ∃ (v : V) (js : List PyData) (la : Nat) (c : Int), vs = [v, .int (la : Nat), .int c] ∧ Dp K H v (.tuple js) ∧ js.all jobD = true ∧ js.length ≤ 900 ∧ la ≤ 1000 ∧ 0 ≤ c ∧ ∀ (D : Addr) (H' : Hp), Same H H' → Dp K H' (.ref D) (.list (restsD (fun u f => runI js u f c) js.length la)) → Q (.ref D) H'
theorem scRests : FnScope ["jobs", "last", "processors", "rests", "unit", "behind", "finished", "finishes", "_"] ["jobs", "last", "processors"] (defScope sRests) := ⟨rfl, rfl, rfl, by decide +kernel, rfl, by decide +kernel, by decide +kernel⟩
theorem ok_rests (D : Df K mg "rests_of" sRests ["jobs", "last", "processors"]) (B : Blt mg) (sm : mg "sum" = none) (OU : Cl P w K mg base CX0 5 "outcomes" ["jobs", "unit", "finished", "processors"] (spOutcomes K)) :
    Cl P w K mg base CX0 6 "rests_of" ["jobs", "last", "processors"] (spRests K) := by
  refine cl0 D scRests (fun vs H Q E h => ?_) (fun f cdv A outer s H vs Q E hr h => ?_)
  · obtain ⟨v, js, la, c, rfl, _⟩ := h
    rfl
  · obtain ⟨v, js, la, c, rfl, hd, okj, l9, la9, c0, k⟩ := h
    refine ⟨_, pss_cons (ps_set (i := 3) scRests.nd rfl (Or.inl rfl) (pe_lst (pa_cons (pe_op op_cat (pe_op op_rep (pe_lst (pa_cons pe_int pa_nil)) (pe_callB call_len_seq (by rfl) B.len PySem.boot_len (pa_cons (pv 0) pa_nil))) (pe_lst (pa_cons pe_int pa_nil))) pa_nil)))
      (pss_cons (ps_for PassesOwn.never rfl (pi_range3 rfl B.range (pa_cons (pv 1) (pa_cons pe_int (pa_cons (pe_un un_neg pe_int) pa_nil)))) (pg_name (i := 4) scRests.nd rfl (Or.inr rfl))
        (pss_cons (ps_set (i := 5) scRests.nd rfl (Or.inr rfl) (pe_ix ix_list (pv 3) (pe_un un_neg pe_int) (fun _ _ => rfl)))
        (pss_one (ps_expr (pe_bm PySem.F.plainAttrs_list PySem.F.slot_list_append PySem.F.type_list_append mt_append (pv 3) (pa_cons
          (pe_lc (own := [("finished", 6)]) (g := gName 6) (tt := tYes) (te := (tCB (rSum K) (tCons (tLc (iList K (tCal (spOutcomes K) (tCons (tVar 0) (tCons (tVar 4) (tCons (tVar 6) (tCons (tVar 2) tNil)))))) (gTup K 2 (gCons (gName 7) (gCons (gName 8) gNil))) tYes (tOp (rIxL K) (tVar 5) (tOp (rI0 fun i j => .int (i + j)) (tVar 6) (tVar 7))) [7, 8]) tNil))) (by rfl) scRests.nd (pi_range1 rfl B.range (pa_cons (pe_op op_add (pe_callB call_len_seq (by rfl) B.len PySem.boot_len (pa_cons (pv 0) pa_nil)) pe_int) pa_nil))
            (blkOk_by (own := [("finished", 6)]) (N := ["jobs", "last", "processors", "rests", "unit", "behind", "finished", "finishes", "_"]) (sc := defScope sRests) (by decide +kernel)) (fun _ _ _ _ _ => pg_name (i := 6) scRests.nd rfl (Or.inr rfl)) (fun _ _ _ _ _ => pts_nil)
            (fun _ _ _ _ _ => pe_callB (cr_sum rfl) (by rfl) sm (by decide +kernel) (pa_cons
              (pe_lc (own := [("finishes", 7), ("_", 8)]) (g := gTup K 2 (gCons (gName 7) (gCons (gName 8) gNil))) (tt := tYes) (te := (tOp (rIxL K) (tVar 5) (tOp (rI0 fun i j => .int (i + j)) (tVar 6) (tVar 7)))) (by rfl) scRests.nd (pi_list (pc OU hr (by decide) (pa_cons (pv 0) (pa_cons (pv 4) (pa_cons (pv 6) (pa_cons (pv 2) pa_nil))))))
                (blkOk_by (own := [("finishes", 7), ("_", 8)]) (N := ["jobs", "last", "processors", "rests", "unit", "behind", "finished", "finishes", "_"]) (sc := { kind := .function, names := [(".0", .local), ("finished", .cell), ("sum", .globalImplicit), ("outcomes", .globalImplicit), ("behind", .cell), ("jobs", .cell), ("processors", .cell), ("unit", .cell)], isGenerator := false, isCoroutine := false }) (by decide +kernel)) (fun _ _ _ _ _ => pg_tup rfl (pgs_cons (pg_name (i := 7) scRests.nd rfl (Or.inl rfl)) (pgs_cons (pg_name (i := 8) scRests.nd rfl (Or.inl rfl)) pgs_nil))) (fun _ _ _ _ _ => pts_nil)
                (fun _ _ _ _ _ => pe_ix ix_list (pv 5) (pe_op op_add (pv 6) (pv 7)) (fun _ _ => rfl))) pa_nil))) pa_nil))))))
      (pss_one (ps_ret (pe_revL (pv 3))))), ?_⟩
    obtain ⟨pj, xs, rfl, qj, rj⟩ := dp_tuple hd
    have xl := dps_len rj
    generalize hrun : (fun u f => runI js u f c) = run at k
    have runE : ∀ u f, runI js u f c = run u f := fun u f => by rw [← hrun]
    -- the last row
    refine ⟨(by show 1 ≤ sizeLine; decide), fun q1 n1 => ?_⟩
    have a1 := same_new (o := .lst [V.int 0]) n1
    refine ⟨_, rfl, pj, xs, rfl, .inr (same_seqT a1 qj), q1, _, [V.int 0], rfl, rfl, upd_same, by omega, by omega, ?_, fun q2 n2 => ?_⟩
    · show 1 * ((xs.length : Nat) : Int).toNat ≤ sizeLine
      exact Nat.le_trans (show 1 * ((xs.length : Nat) : Int).toNat ≤ 1000 by omega) (by decide)
    rw [show ((xs.length : Nat) : Int).toNat = js.length by omega]
    have a2 := same_new (o := .lst (List.replicate js.length [V.int 0]).flatten) n2
    refine ⟨(by show 1 ≤ sizeLine; decide), fun q3 n3 => ?_⟩
    have a3 := same_new (o := .lst [V.int 1]) n3
    refine ⟨q2, q3, _, _, rfl, rfl, a3.at upd_same, upd_same, ?_, fun q4 n4 => ?_⟩
    · have e : ((List.replicate js.length [V.int 0]).flatten ++ [V.int 1]).length = js.length + 1 := by
        rw [row0 (run := run) (u := 0), List.length_map, row_len]
      rw [List.length_append] at e
      rw [e]
      exact Nat.le_trans (show js.length + 1 ≤ 1000 by omega) (by decide)
    rw [row0 (run := run) (n := js.length) (u := ((la : Nat) : Int))]
    have a4 := same_new (o := .lst ((rowI run js.length 0 ((la : Nat) : Int)).map V.int)) n4
    have d4 := Dp.lst (K := K) (SqL.of (at_new a4)) (dps_ints (rowI run js.length 0 ((la : Nat) : Int)))
    refine ⟨(by show 1 ≤ sizeLine; decide), fun q5 n5 => ?_⟩
    have a5 := same_new (o := .lst [V.ref q4]) n5
    have s0 := (((a1.trans a2).trans a3).trans a4).trans a5
    have hq0 := at_new a5
    have edr0 : ∀ {Hx : Hp}, Dp K Hx (.ref q4) (rowD run js.length 0 ((la : Nat) : Int)) → DpAll K Hx [V.ref q4] (downD run js.length ((la : Nat) : Int) 1) := fun {Hx} d4 => by
      have e : downD run js.length ((la : Nat) : Int) 1 = [rowD run js.length 0 ((la : Nat) : Int)] := by
        unfold downD
        show [rowD run js.length 0 (((la : Nat) : Int) - ((0 : Nat) : Int))] = _
        rw [show ((la : Nat) : Int) - ((0 : Nat) : Int) = (la : Int) by omega]
      rw [e]
      exact .cons d4 .nil
    have edr := edr0 d4
    have hq5 : H q5 = none := Same.free (((a1.trans a2).trans a3).trans a4) n5
    have edj := dp_same (((a1.trans a2).trans a3).trans a4) (Dp.tup qj rj)
    obtain ⟨dr0, dj0⟩ := off_both (o := .lst [V.ref q4]) n5 edr edj
    clear a5
    generalize upd _ q5 (.lst [V.ref q4]) = G0 at s0 hq0 dr0 dj0 ⊢
    refine ⟨_, rfl, _, rfl, ((la : Nat) : Int), 0, -1, (((la : Nat) : Int) - 0).toNat, rfl, RgC.neg (by omega) (by omega) (by decide) (by decide), ?_⟩
    refine for_it (D := { nx := _, rt := Q }) (walk_rangeC (lo := ((la : Nat) : Int)) (c := -1) (n := (((la : Nat) : Int) - 0).toNat)) (fun i σ G => ∃ (u4 u5 : Option V) (rows : List V), σ = [some (.ref pj), some (.int (la : Nat)), some (.int c), some (.ref q5), u4, u5, none, none, none] ∧ Same (Off q5 G0) (Off q5 G) ∧ G q5 = some (.lst rows) ∧ DpAll K (Off q5 G) rows (downD run js.length ((la : Nat) : Int) (i + 1)))
      ⟨none, none, _, rfl, Same.refl _, hq0, dr0⟩ (fun _ _ _ _ _ => trivial) ?_ ?_
    · rintro i x σ Gx G hi ⟨u4, u5, rows, rfl, sG, hq, dr⟩ ⟨rfl, rfl⟩
      have rl := dps_len dr
      have rl2 : rows.length = i + 1 := by
        rw [rl]
        unfold downD
        rw [List.length_map, List.length_range]
      obtain ⟨rowv, hrow, drow⟩ : ∃ rowv, rows[i]? = some rowv ∧ Dp K (Off q5 G) rowv (rowD run js.length i (((la : Nat) : Int) - (i : Int))) := by
        have h1 : i < rows.length := by omega
        obtain ⟨d, hd1, hd2⟩ := dps_getV dr (List.getElem?_eq_getElem h1)
        rw [down_last] at hd1
        cases hd1
        exact ⟨_, List.getElem?_eq_getElem h1, hd2⟩
      obtain ⟨pr, vs0, rfl, qr, dvs⟩ := dp_lstR drow
      have evs := ints_dps dvs
      subst evs
      refine ⟨_, rfl, _, rfl, q5, rows, -1, .ref pr, rfl, rfl, SqL.of hq, by rw [atI_lastR (by omega), rl2]; exact hrow, ?_⟩
      have djG := dp_same sG dj0
      obtain ⟨_, xs', e, qjG, rjG⟩ := dp_tuple djG
      cases e
      have xl' := dps_len rjG
      refine ⟨_, rfl, .inl ⟨rfl, _, SqL.of hq⟩, _, rfl, pj, xs', rfl, .inr (same_seqT (off_sub q5 G) qjG), _, _, rfl, rfl, ((xs'.length : Nat) : Int) + 1, rfl, by omega, by omega, fun D1 nD1 => ?_⟩
      have Dq : D1 ≠ q5 := fun e => by rw [e, hq] at nD1; cases nD1
      generalize hU : ((la : Nat) : Int) + ((i : Nat) : Int) * -1 = U
      have eU : ((la : Nat) : Int) - (i : Int) = U := by omega
      rw [eU] at qr dvs
      refine lc_range (n := (((xs'.length : Nat) : Int) + 1).toNat) (fun m Hc => Same G (Off D1 Hc) ∧ Hc D1 = some (.lst (((List.range m).map fun (f : Nat) => R run (js.length : Int) (i + 1) (U - 1) (f : Int)).map V.int)))
        ⟨by rw [off_upd, off_none nD1]; exact Same.refl _, upd_same⟩ ?_ ?_
      · rintro m Hc hm ⟨sc, hD⟩
        have sGH := sc.trans (off_sub D1 Hc)
        refine ⟨rfl, _, rfl, _, rfl, _, rfl, _, rfl, .ref pj, js, U, 0 + (m : Int), c, by rw [← hU]; rfl, dp_same ((off_sub q5 G).trans sGH) djG, okj, l9, by omega, by omega, c0, fun L H3 s3 dL => ?_⟩
        obtain ⟨pL, ys, e, qL, dys⟩ := dp_lstR dL
        cases e
        have yl := dps_len dys
        refine ⟨L, rfl, ⟨_, qL⟩, fun D2 nD2 => ?_⟩
        have hD3 := s3.at hD
        have D12 : D1 ≠ D2 := ne_of_none hD3 nD2
        have qr3 := ((off_sub q5 G).trans (sGH.trans s3)).seq qr
        refine lc_it (walk_list (K := K) (a := L) (xs := ys)) (fun j Hd => Same H3 (Off D2 Hd) ∧ Hd D2 = some (.lst (((List.range j).map fun (x : Nat) => R run (js.length : Int) i U ((m : Int) + (x : Int))).map V.int)))
          ⟨by rw [off_upd, off_none nD2]; exact Same.refl _, upd_same⟩ (fun j Hd _ ⟨sd, _⟩ => (sd.trans (off_sub D2 Hd)).seq qL) ?_ ?_
        · rintro j y Hd0 Hd hj ⟨sd, hD2⟩ ⟨rfl, hy⟩
          have s3d := sd.trans (off_sub D2 Hd)
          obtain ⟨dd, hdd, ddy⟩ := dps_getV dys hy
          obtain ⟨jr, rfl⟩ := out_at hdd
          obtain ⟨pp, xv, yv, rfl, qp, dx, dy⟩ := dp_two (dp_same s3d ddy)
          have exv := dp_int dx
          subst exv
          have rle := pres_le (js := js) (u := U) (f := 0 + (m : Int)) (c := c)
          refine ⟨pp, _, rfl, qp, rfl, _, _, rfl, _, _, rfl, rfl, rfl, _, rfl, _, rfl, _, rfl, _, _, rfl, rfl, pr, _, _, _, rfl, rfl, s3d.seq qr3, row_at (by omega) (by omega), _, hD2, ?_, ?_, ?_⟩
          · rw [List.length_map, List.length_map, List.length_range]
            exact Nat.lt_of_lt_of_le (show j < 1000 by omega) (by decide)
          · rw [off_upd]
            exact sd
          · rw [upd_same, List.range_succ, List.map_append, List.map_append, Int.zero_add]
            rfl
        · rintro Hd ⟨sd, hD2⟩
          have s3d := sd.trans (off_sub D2 Hd)
          refine ⟨D2, _, rfl, SqL.of hD2, _, s3d.at hD3, ?_, ?_, ?_⟩
          · rw [List.length_map, List.length_map, List.length_range]
            exact Nat.lt_of_lt_of_le (show m < 1000 by omega) (by decide)
          · rw [off_upd]
            exact sc.trans ((off_mono s3).trans (off_mono s3d))
          · rw [upd_same, List.range_succ, List.map_append, List.map_append]
            have es : ((List.range ys.length).map fun (x : Nat) => R run (js.length : Int) i U ((m : Int) + (x : Int))).sum = R run (js.length : Int) (i + 1) (U - 1) (m : Int) := by
              show _ = ((List.range (run (U - 1 + 1) (m : Int) + 1).toNat).map fun (x : Nat) => R run (js.length : Int) i (U - 1 + 1) ((m : Int) + (x : Int))).sum
              rw [show U - 1 + 1 = U by omega, yl]
              unfold outD
              rw [List.length_map, List.length_range, runE, Int.zero_add]
            rw [es]
            rfl
      · rintro Hc ⟨sc, hD⟩
        have sGH := sc.trans (off_sub D1 Hc)
        have hqc := sGH.at hq
        refine ⟨q5, _, _, rfl, rfl, hqc, by rw [rl2]; exact Nat.lt_of_lt_of_le (show i + 1 < 2000 by omega) (by decide), ?_⟩
        refine ⟨_, _, rows ++ [.ref D1], rfl, ?_, upd_same, ?_⟩
        · rw [off_upd]
          exact sG.trans (off_mono sGH)
        · rw [off_upd, down_succ]
          refine dps_app (dps_same (off_mono sGH) dr) (.cons ?_ .nil)
          have e1 : ((la : Nat) : Int) - ((i + 1 : Nat) : Int) = U - 1 := by omega
          rw [e1]
          have e2 : (((xs'.length : Nat) : Int) + 1).toNat = js.length + 1 := by omega
          rw [e2] at hD
          exact .lst (SqL.of (off_at hD Dq)) (dps_ints _)
    · rintro σ G ⟨u4, u5, rows, rfl, sG, hq, dr⟩
      refine ⟨_, rfl, q5, rows, rfl, SqL.of hq, fun p np => ?_⟩
      have sp := same_new (o := .lst rows.reverse) np
      refine k p _ ?_ (.lst (SqL.of upd_same) ?_)
      · have z := (off_mono (a := q5) s0).trans (sG.trans (off_sub q5 G))
        rw [off_none hq5] at z
        exact z.trans sp
      · unfold restsD
        rw [show la + 1 = (((la : Nat) : Int) - 0).toNat + 1 by omega]
        exact dps_same ((off_sub q5 G).trans sp) (dps_revR dr)
end
end Vk
set_option maxHeartbeats 4000000
/-! f(a, b, k = c, ..) of a def with some keyword-only parameters: the keywords ks are written, the others by default; what is raised goes to W -/
namespace Vk
open PySem PySem.Spec PyProof.Rows L2
/-- a def of the module's top, called with n positional values and the keywords ks; gV: the values of its parameters ps -/
structure DfM (K : PySem.W.Frag) (mg : Str → Option Value) (x : Str) (st : Stmt) (ps : List Str) (n : Nat) (ks : List Str) (gV : List V → List V → List V) : Prop where
  ex : ∃ f fd kws g, mg x = some (.ref f) ∧ FunD K x x (defArgs st) (defBody st) (defScope st) [] kws f fd ∧ KBn K fd ps n ks g gV
structure ClM (P : Program) (w : World) (K : PySem.W.Frag) (mg : Str → Option Value) (base : Heap) (CX : CXT) (k : Nat) (x : Str) (ps : List Str) (n : Nat) (ks : List Str) (gV : List V → List V → List V) (sp : Sp) : Prop where
  ex : ∃ f fd g, mg x = some (.ref f) ∧ PySem.W.keepIn K (.ref f) = true ∧ KBn K fd ps n ks g gV ∧ FnOk P w K mg base CX k f fd ps sp
section
variable {P : Program} {w : World} {K : PySem.W.Frag} {mg : Str → Option Value} {base : Heap}
theorem clM {CX : CXT} {x : Str} {st : Stmt} {N ps ks : List Str} {n k : Nat} {gV : List V → List V → List V} {sp : Sp} (D : DfM K mg x st ps n ks gV) (S : FnScope N ps (defScope st)) (len : ∀ vs H Q E, sp vs H Q E → vs.length = ps.length)
    (body : ∀ (f : Addr) (cdv : Value) (A : Around) (outer : List Env) (s : Shared) (H : Hp) (vs : List V) (Q : VK) (E : XK), Room k (A.deeper (envOfC x (defScope st) s.heap.objs.size f cdv)) → sp vs H Q E →
      ∃ t, PSs (cxOf CX P w K mg base N x (defScope st) f cdv A outer s H E) (defBody st) t ∧ t { nx := fun _ H' => Q .non H', rt := Q } (start N vs) H) : ClM P w K mg base CX (k + 1) x ps n ks gV sp := by
  obtain ⟨f, fd, kws, g, hm, F, kb⟩ := D.ex
  exact ⟨f, fd, g, hm, F.kp, kb, F.ok S len (body f)⟩
/-- both promises of one def -/
theorem fn_or {CX : CXT} {k : Nat} {f : Addr} {fd : FuncData} {ps : List Str} {sp1 sp2 : Sp} (F1 : FnOk P w K mg base CX k f fd ps sp1) (F2 : FnOk P w K mg base CX k f fd ps sp2) : FnOk P w K mg base CX k f fd ps (fun vs H Q E => sp1 vs H Q E ∨ sp2 vs H Q E) :=
  ⟨fun vs H Q E h => h.elim (F1.len vs H Q E) (F2.len vs H Q E), fun A outer s H args us vs Q E hr he hb hv hs => hs.elim (F1.run A outer s H args us vs Q E hr he hb hv) (F2.run A outer s H args us vs Q E hr he hb hv)⟩
end
def tCallM (sp : Sp) (ex : L2.St → XK) (n m : Nat) (gV : List V → List V → List V) (t tk : TA) : TE := fun σ H Q => t σ H fun vs H1 => tk σ H1 fun zs H2 => vs.length = n ∧ zs.length = m ∧ sp (gV vs zs) H2 Q (ex σ)
section
variable {X : Cx} {CX : CXT} {k n : Nat} {fa : Addr} {fdat : FuncData} {names ks : List Str} {sp : Sp} {ex : L2.St → XK} {x : Str} {p pos : Pos} {e1 : Expr} {es1 : List Expr} {kws1 : List Keyword} {ta1 tk1 : TA} {g : List Value → List Value → List Value} {gV : List V → List V → List V}
theorem pe_callM (fn : FnOk X.prog X.w X.K X.mg X.base CX k fa fdat names sp) (room : Room k X.A) (gx : Gl X x) (mx : X.mg x = some (.ref fa)) (kx : PySem.W.keepIn X.K (.ref fa) = true) (kb : KBn X.K fdat names n ks g gV) (px : ∀ σ, PassesAt CX X σ (ex σ))
    (args : PA X (e1 :: es1) ta1) (kargs : PK X kws1 tk1) (all1 : (backToKw pos (keywordEach kws1 X.env)).all (·.1.isSome) = true := by rfl) (names1 : (backToKw pos (keywordEach kws1 X.env)).filterMap (·.1) = ks := by rfl)
    (nodebug : (x == ("__debug__" : Str)) = false := by decide) (first1 : starEach (e1 :: es1) X.env = (false, eval e1 X.env) :: starEach es1 X.env := by rfl)
    (plain1 : ((backTo pos (starEach (e1 :: es1) X.env)).any (·.1) || (backToKw pos (keywordEach kws1 X.env)).any (·.1.isNone)) = false := by rfl) :
    PE X (.Call (.Name x p) (e1 :: es1) kws1 pos) (tCallM sp ex n ks.length gV ta1 tk1) := ⟨fun pins s σ H Q I h => by
  refine wpAny_Call_Name_kw (ld_glob I gx mx ?_ nodebug)
  refine PySem.W.callWith_KW (h₀ := X.base) I.ok.mod.kin kx all1 (thn (args.run pos pins s σ H _ I h) fun us s1 got => ?_) plain1 first1
  obtain ⟨vs, H1, I1, rv, q⟩ := got
  refine thn (kargs.run pos pins s1 σ H1 _ I1 q) fun ws s2 got2 => ?_
  obtain ⟨zs, H2, I2, rz, n1, n2, q2⟩ := got2
  refine ⟨I2.kIn, ?_⟩
  rw [names1]
  have len1 : us.length = n := rv.length.symm.trans n1
  have len2 : ws.length = ks.length := rz.length.symm.trans n2
  refine wpAny_call (codeAny_mono (fn.run X.A X.stack s2 H2 ⟨us, ks.zip ws⟩ (g us ws) (gV vs zs) Q (ex σ) room I2.env0 (kb.to s2 us ws I2.kIn len1 len2) (kb.rel rv rz) q2) fun res s3 hq => ?_)
  match res, hq with
  | .error er, hq => exact px σ pins H2 s2 er s3 I2 hq
  | .ok (.ret u), hq => exact I2.after hq
  | .ok .next, hq => exact False.elim hq
  | .ok .brk, hq => exact False.elim hq
  | .ok .cont, hq => exact False.elim hq⟩
/-- what is never reached -/
theorem pe_dead {e : Expr} : PE X e (fun _ _ _ => False) := ⟨fun _ _ _ _ _ _ h => h.elim⟩
theorem pss_dead {ss : List Stmt} : PSs X ss (fun _ _ _ => False) := ⟨fun _ _ _ _ _ _ h => h.elim⟩
theorem pt_dead {e : Expr} : PT X e (fun _ _ _ => False) := ⟨fun _ _ _ _ _ _ h => h.elim⟩
end
end Vk
set_option maxHeartbeats 4000000
/-! dict(t) of a tuple of pairs: the tuple is kept whole from where tuple(xs) makes it -/
namespace Vk
open PySem PySem.Spec PyProof.Rows L2
/-- a tuple of its own, kept whole -/
def Whole (H : Hp) (a : Addr) (ys : List V) : Prop := ∃ o : Obj, H a = some (.frz o (.tup ys)) ∧ o.dict = none
theorem Whole.same {H H' : Hp} {a : Addr} {ys : List V} (s : Same H H') (h : Whole H a ys) : Whole H' a ys := by
  obtain ⟨o, e, d⟩ := h
  exact ⟨o, s.at e, d⟩
theorem Whole.tup {K : PySem.W.Frag} {H : Hp} {a : Addr} {ys : List V} (h : Whole H a ys) : SqT K H a ys := by
  obtain ⟨o, e, _⟩ := h
  exact .inl (.inr ⟨o, e⟩)
section
variable {X : Cx}
theorem call_tupleF : CallR X (.type "tuple") (fun xs H Q => ∃ p ys, xs = [.ref p] ∧ SqL X.K H p ys ∧ ∀ (l : Addr) (o : Obj), H l = none → o.dict = none → Q (.ref l) (upd H l (.frz o (.tup ys)))) := by
  intro pins s σ H xs us Q I r h
  obtain ⟨p, ys, rfl, hq, q⟩ := h
  obtain ⟨u, rfl, rx⟩ := vals1 r
  cases rx
  obtain ⟨its, rv, pl, hz⟩ := I.list hq
  have lz := rv.length
  refine call_tuple_list pl.isList (fun g kp => ?_) (by simp only [List.size_toArray] <;> omega)
  have I1 : Inv X pins σ H { s with heap := g } := I.kept (t' := s.toks) kp
  have here : (g.push { cls := .type "tuple", data := .seq its.toArray }).get? g.objs.size = some { cls := .type "tuple", data := .seq its.toArray } := Heap.get?_push_size _ rfl
  have I2 : Inv X pins σ (upd H g.objs.size (.frz { cls := .type "tuple", data := .seq its.toArray } (.tup ys))) { s with heap := g.push { cls := .type "tuple", data := .seq its.toArray } } :=
    I1.laid (t' := s.toks) (fun b o e => Heap.get?_push_of_some _ e) (Nat.le_refl _) (show ObjOk X.prog X.w _ _ _ (.frz _ (.tup ys)) from ⟨here, hz, its, rv, IsTup.new _ _⟩)
  exact ⟨.ref g.objs.size, _, I2, rfl, q _ _ (I1.hok.fresh (Nat.le_refl _)) rfl⟩
/-- the pairs of a tuple, as the machine holds them -/
theorem pairsV {pins : List (Addr × Obj)} {σ : L2.St} {H : Hp} {s : Shared} (I : Inv X pins σ H s) : ∀ {ps : List Addr} {kvs : List (Key × V)}, Paired (fun p kv => SqT X.K H p [kV kv.1, kv.2]) ps kvs →
    ∃ (pv : List (Value × Value)) (prs : List (Key × Value)), KV kvs prs ∧ pv.length = ps.length ∧ prs.length = ps.length ∧ (∀ (j : Nat) (k v : Value), pv[j]? = some (k, v) → ∃ b, ps[j]? = some b ∧ PairAt s.heap b k v) ∧
      ∀ (j : Nat) (k v : Value), pv[j]? = some (k, v) → ∃ x, prs[j]? = some (x, v) ∧ keyIs x k = true
  | _, _, .nil => ⟨[], [], .nil, rfl, rfl, fun j k v e => by simp at e, fun j k v e => by simp at e⟩
  | _, _, .cons (a := p) (b := kv) h t => by
    obtain ⟨pv, prs, r, l1, l2, h1, h2⟩ := pairsV I t
    obtain ⟨its, rv, ht, _⟩ := I.tuple h
    obtain ⟨u, y, ei, ru, ry⟩ := vals2 rv
    subst ei
    refine ⟨(u, y) :: pv, (kv.1, y) :: prs, .cons ⟨rfl, ry⟩ r, by rw [List.length_cons, List.length_cons, l1], by rw [List.length_cons, List.length_cons, l2], fun j k v e => ?_, fun j k v e => ?_⟩
    · cases j with
      | zero =>
        cases (Option.some.inj e)
        exact ⟨p, rfl, .inl ht⟩
      | succ j => exact h1 j k v (by simpa using e)
    · cases j with
      | zero =>
        cases (Option.some.inj e)
        exact ⟨kv.1, rfl, kV_is (P := X.prog) (w := X.w) ru⟩
      | succ j => exact h2 j k v (by simpa using e)
theorem call_dictT (hcalm : X.calm = true) : CallR X (.type "dict") (fun xs H Q => ∃ (a : Addr) (ps : List Addr) (kvs : List (Key × V)), xs = [.ref a] ∧ Whole H a (ps.map V.ref) ∧ Paired (fun p kv => SqT X.K H p [kV kv.1, kv.2]) ps kvs ∧
    ∀ p, H p = none → Q (.ref p) (upd H p (.dK (mergeK [] kvs)))) := by
  intro pins s σ H xs us Q I r q
  obtain ⟨a, ps, kvs, ex, ⟨o, hA, od⟩, hp, q⟩ := q
  subst ex
  obtain ⟨u, eu, rx⟩ := vals1 r
  subst eu
  cases rx
  obtain ⟨ho, hz, its, rv, o2, ho2, hc, n, hdat⟩ := (show ObjOk X.prog X.w H s.heap a (.frz o (.tup (ps.map V.ref))) from I.hok a _ hA)
  have eo : o = o2 := Option.some.inj (ho.symm.trans ho2)
  subst eo
  have ei := refs_at rv
  subst ei
  rw [List.length_map] at hz
  obtain ⟨pv, prs, rel, l1, l2, h1, h2⟩ := pairsV I hp
  have items : PairItems s.heap (ps.map Value.ref).toArray (fun j => ps.getD j 0) pv := ⟨by simp [l1], fun j k v e => by
    obtain ⟨b, hb, pa⟩ := h1 j k v e
    have eb : ps.getD j 0 = b := by rw [List.getD_eq_getElem?_getD, hb]; rfl
    dsimp only
    rw [eb]
    exact ⟨by simp [hb], pa⟩⟩
  refine PySem.call_dict_pairs (knd := mixKind X.prog X.w) (kvs := prs) (PairArg.tuple a (ps.map Value.ref).toArray (fun j => ps.getD j 0) pv) (I.ok.hd hcalm) ⟨⟨o, n, ho, hc, od, hdat⟩, items⟩ ⟨l2.trans l1.symm, fun i key v e => h2 i key v e⟩ (by rw [l1]; exact hz) fun h' tk hd' k => ?_
  have hm : (s.heap.objs.size == sysModules) = false := beq_eq_false_iff_ne.mpr (Nat.ne_of_gt I.big)
  have lm : (mergeK [] kvs).length ≤ sizeLine := by
    refine Nat.le_trans (length_mergeK kvs []) ?_
    rw [List.length_nil, Nat.zero_add, rel.length, l2]
    exact hz
  exact ⟨.ref s.heap.objs.size, upd H s.heap.objs.size (.dK (mergeK [] kvs)), I.laid (t' := tk) (fun b o e => k b o (fun z => nomatch z) e) (Nat.le_refl _) (show ObjOk X.prog X.w _ _ _ (.dK (mergeK [] kvs)) from ⟨lm, hm, merged [] prs, KV.merge rel .nil, hd'⟩), rfl, q _ (I.hok.fresh (Nat.le_refl _))⟩
end
end Vk
set_option maxHeartbeats 8000000
namespace Vk
open PySem PySem.Spec PyProof.Rows L2 GxR
abbrev sNumberInit : Stmt := inClass (top 11) 0
theorem rests_row {K : PySem.W.Frag} {H : Hp} {p : Addr} {run : Int → Int → Int} {n la : Nat} (h : Dp K H (.ref p) (.list (restsD run n la))) {u : Int} (u0 : 0 ≤ u) (ul : u ≤ (la : Int)) :
    ∃ xs q, SqL K H p xs ∧ atI xs u = some (.ref q) ∧ SqL K H q ((rowI run n (la - u.toNat) u).map V.int) := by
  obtain ⟨p', xs, e, qp, rp⟩ := dp_lstR h
  cases e
  have hu : u.toNat ≤ la := by omega
  have len := dps_len rp
  have l2 : (restsD run n la).length = la + 1 := by
    unfold restsD downD
    rw [List.length_reverse, List.length_map, List.length_range]
  have h1 : u.toNat < xs.length := by omega
  obtain ⟨d, hd, dd⟩ := dps_getV rp (List.getElem?_eq_getElem h1)
  rw [rests_at hu] at hd
  cases hd
  obtain ⟨q, vs, e2, qq, dvs⟩ := dp_lstR dd
  have ev := ints_dps dvs
  subst ev
  have z := atI_nat (List.getElem?_eq_getElem h1)
  rw [Int.toNat_of_nonneg u0] at z
  rw [e2] at z
  rw [Int.toNat_of_nonneg u0] at qq
  exact ⟨xs, q, qp, z, qq⟩
section
variable {P : Program} {w : World} {K : PySem.W.Frag} {mg : Str → Option Value} {base : Heap}
theorem scNumberInit : FnScope ["self", "number"] ["self", "number"] (defScope sNumberInit) := ⟨rfl, rfl, rfl, by decide +kernel, rfl, by decide +kernel, by decide +kernel⟩
theorem ok_numberInit {C fI : Addr} {fd : FuncData} (F : Fun K "__init__" "NoNumber.__init__" sNumberInit fI fd) (T : OexC K C) (no : PySem.W.findIn K (.ref C) "number" = some none) : FnOk P w K mg base CX0 1 fI fd ["self", "number"] (spIni C "number") := by
  refine F.ok scNumberInit (fun vs H Q E h => ?_) (fun cdv A outer s H vs Q E hr h => ?_)
  · obtain ⟨a, v, rfl, _⟩ := h
    rfl
  · obtain ⟨a, v, rfl, ha, k⟩ := h
    refine ⟨_, pss_one (ps_ost (pv 0) (pv 1)), ?_⟩
    exact ⟨_, rfl, _, rfl, a, C, rfl, T, no, .inl ⟨ha, fun dx n1 n2 => k dx n1 n2⟩⟩
theorem erc_number {C : Addr} (g : mg "NoNumber" = some (.ref C)) (T : OexC K C) (no : PySem.W.findIn K (.ref C) "number" = some none) (N : Nit K "NoNumber" "NoNumber.__init__" "number" sNumberInit C) : ErC P w K mg base "NoNumber" "number" C := by
  obtain ⟨fI, fd, h1, h2, h3, h4⟩ := N.ex
  exact ⟨g, T, fI, fd, h1, h2, h4, ok_numberInit h3 T no⟩
def JobsOk (K : PySem.W.Frag) (T : Addr) (H : Hp) (v : V) (js : List PyData) (la : Nat) (c : Int) : Prop := Dp K H v (.tuple js) ∧ js.all jobD = true ∧ js.length ≤ 900 ∧ jobsPlace (.tuple js) = none ∧ TabG H T ∧ la ≤ 1000 ∧ 0 ≤ c
theorem JobsOk.same {T : Addr} {H H' : Hp} {v : V} {js : List PyData} {la : Nat} {c : Int} (h : JobsOk K T H v js la c) (s : Same H H') : JobsOk K T H' v js la c := ⟨dp_same s h.1, h.2.1, h.2.2.1, h.2.2.2.1, s.tab T h.2.2.2.2.1, h.2.2.2.2.2.1, h.2.2.2.2.2.2⟩
def runJ (js : List PyData) (c : Int) : Int → Int → Int := fun u f => runI js u f c
def spCountLogs (K : PySem.W.Frag) (T : Addr) : Sp := fun vs H Q _ => ∃ (v : V) (js : List PyData) (la : Nat) (c : Int), vs = [v, .int (la : Nat), .int c] ∧ JobsOk K T H v js la c ∧ ∀ H', Same H H' → Q (.int (R (runJ js c) (js.length : Int) la 0 0)) H'
theorem scCountLogs : FnScope ["jobs", "last", "processors"] ["jobs", "last", "processors"] (defScope sCountLogs) := ⟨rfl, rfl, rfl, by decide +kernel, rfl, by decide +kernel, by decide +kernel⟩
theorem ok_countLogs {T C0 : Addr} (D : DfM K mg "count_logs" sCountLogs ["jobs", "last", "processors"] 2 ["processors"] (fun vs zs => vs ++ zs)) (CJ : Cl P w K mg base (L2.CX P w) 5 "check_jobs" ["jobs"] (spCheck K T C0)) (RS : Cl P w K mg base CX0 6 "rests_of" ["jobs", "last", "processors"] (spRests K)) :
    ClM P w K mg base (L2.CX P w) 7 "count_logs" ["jobs", "last", "processors"] 2 ["processors"] (fun vs zs => vs ++ zs) (spCountLogs K T) := by
  refine clM D scCountLogs (fun vs H Q E h => ?_) (fun f cdv A outer s H vs Q E hr h => ?_)
  · obtain ⟨v, js, la, c, rfl, _⟩ := h
    rfl
  · obtain ⟨v, js, la, c, rfl, ⟨hd, okj, l9, jp, tg, la9, c0⟩, k⟩ := h
    obtain ⟨fJ, fdJ, mJ, kpJ, bJ, FJ⟩ := CJ.ex
    refine ⟨_, pss_cons (ps_expr (pe_call (E := E) FJ (hr.mono (by decide)) rfl mJ kpJ bJ .nil (passes_call (W := fun cls d _ H => E cls d H) (takes_of rfl rfl rfl rfl) (fun _ _ _ _ h => h)) (pa_cons (pv 0) pa_nil)))
      (pss_one (ps_ret (pe_ix ix_list (pe_ix ix_list (pc RS hr (by decide) (pa_cons (pv 0) (pa_cons (pv 1) (pa_cons (pv 2) pa_nil)))) pe_int (fun _ _ => rfl)) pe_int (fun _ _ => rfl)))), ?_⟩
    have nj : niceJobs (.tuple js) := ⟨fun d hd => nice_of (List.all_eq_true.mp okj d hd), l9⟩
    refine ⟨_, rfl, v, .tuple js, rfl, hd, nj, tg, fun _ H1 s1 => ?_, fun i e => absurd (jp.symm.trans e) (fun z => nomatch z)⟩
    refine ⟨_, rfl, _, rfl, _, rfl, v, js, la, c, rfl, dp_same s1 hd, okj, l9, la9, c0, fun p H2 s2 dp => ?_⟩
    obtain ⟨xs, q, qp, hat, qq⟩ := rests_row dp (u := 0) (by decide) (by omega)
    have ra := row_at (run := runJ js c) (n := js.length) (k := la) (u := 0) (f := 0) (by decide) (by omega)
    exact ⟨p, xs, 0, .ref q, rfl, rfl, qp, hat, q, _, 0, _, rfl, rfl, qq, ra, k H2 (s1.trans s2)⟩
def spNthLog (K : PySem.W.Frag) (T C : Addr) : Sp := fun vs H Q E => ∃ (v : V) (js : List PyData) (la : Nat) (m c : Int), vs = [v, .int (la : Nat), .int m, .int c] ∧ JobsOk K T H v js la c ∧ 0 ≤ m ∧
  (m < R (runJ js c) (js.length : Int) la 0 0 → ∀ p xs H', Same H H' → Whole H' p xs → DpAll K H' xs ((nthL (runJ js c) (js.length : Int) la 0 0 m).map pairP) → Q (.ref p) H') ∧
  (R (runJ js c) (js.length : Int) la 0 0 ≤ m → ∀ (dx : Addr) (H' : Hp), Same H H' → H' dx = some (.xd [(("number" : Str), .int m)]) → E (.ref C) (some dx) H')
theorem scNthLog : FnScope ["jobs", "last", "number", "processors", "rests", "log", "finished", "unit", "finishes", "many"] ["jobs", "last", "number", "processors"] (defScope sNthLog) := ⟨rfl, rfl, rfl, by decide +kernel, rfl, by decide +kernel, by decide +kernel⟩
theorem ok_nthLog {T C C0 : Addr} (D : DfM K mg "nth_log" sNthLog ["jobs", "last", "number", "processors"] 3 ["processors"] (fun vs zs => vs ++ zs)) (B : Blt mg) (CJ : Cl P w K mg base (L2.CX P w) 5 "check_jobs" ["jobs"] (spCheck K T C0)) (RS : Cl P w K mg base CX0 6 "rests_of" ["jobs", "last", "processors"] (spRests K))
    (I : Cl P w K mg base CX0 1 "is_integer" ["value", "least"] (spInteger K)) (IO : Cl P w K mg base CX0 5 "in_order" ["jobs", "unit", "finished", "processors"] (spInOrder K)) (ER : ErC P w K mg base "NoNumber" "number" C) :
    ClM P w K mg base (L2.CX P w) 7 "nth_log" ["jobs", "last", "number", "processors"] 3 ["processors"] (fun vs zs => vs ++ zs) (spNthLog K T C) := by
  refine clM D scNthLog (fun vs H Q E h => ?_) (fun f cdv A outer s H vs Q E hr h => ?_)
  · obtain ⟨v, js, la, m, c, rfl, _⟩ := h
    rfl
  · obtain ⟨v, js, la, m, c, rfl, ⟨hd, okj, l9, jp, tg, la9, c0⟩, m0, kN, kE⟩ := h
    obtain ⟨fJ, fdJ, mJ, kpJ, bJ, FJ⟩ := CJ.ex
    refine ⟨_, pss_cons (ps_expr (pe_call (E := E) FJ (hr.mono (by decide)) rfl mJ kpJ bJ .nil (passes_call (W := fun cls d _ H => E cls d H) (takes_of rfl rfl rfl rfl) (fun _ _ _ _ h => h)) (pa_cons (pv 0) pa_nil)))
      (pss_cons (ps_set (i := 4) scNthLog.nd rfl (Or.inl rfl) (pc RS hr (by decide) (pa_cons (pv 0) (pa_cons (pv 1) (pa_cons (pv 3) pa_nil)))))
      (pss_cons (ps_if (PW.pt (pw_or (pt_not (pt_val (pc I hr (by decide) (pa_cons (pv 2) (pa_cons pe_int pa_nil))))) (pw_or1 (pt_cmpR op_ge (pv 2) (pe_ix ix_list (pe_ix ix_list (pv 4) pe_int (fun _ _ => rfl)) pe_int (fun _ _ => rfl)) (nomark _))))) (pss_one (ps_raiseE ER rfl hr (by decide) (takes_of rfl rfl rfl rfl) (pv 2))) pss_nil)
      (pss_cons (ps_set (i := 5) scNthLog.nd rfl (Or.inl rfl) (pe_lst pa_nil))
      (pss_cons (ps_set (i := 6) scNthLog.nd rfl (Or.inl rfl) pe_int)
      (pss_cons (ps_for (passes_of rfl) rfl (pi_range2 rfl B.range (pa_cons pe_int (pa_cons (pe_op op_add (pv 1) pe_int) pa_nil))) (pg_name (i := 7) scNthLog.nd rfl (Or.inl rfl))
        (pss_cons (ps_for (passes_of rfl) rfl (pi_list (pc IO hr (by decide) (pa_cons (pv 0) (pa_cons (pv 7) (pa_cons (pv 6) (pa_cons (pv 3) pa_nil)))))) (pg_name (i := 8) scNthLog.nd rfl (Or.inl rfl))
          (pss_cons (ps_set (i := 9) scNthLog.nd rfl (Or.inl rfl) (pe_ix ix_list (pe_ix ix_list (pv 4) (pv 7) (fun _ _ => rfl)) (pe_op op_add (pv 6) (pv 8)) (fun _ _ => rfl)))
          (pss_cons (ps_if (pt_cmpR op_lt (pv 2) (pv 9) (nomark _)) (pss_one ps_break) pss_nil)
          (pss_one (ps_aug (i := 2) scNthLog.nd rfl (Or.inl rfl) (pv 9) ip_sub)))))
        (pss_one (ps_if (pt_cmpR op_gt (pv 8) pe_int (nomark _))
          (pss_cons (ps_expr (pe_bm PySem.F.plainAttrs_list PySem.F.slot_list_append PySem.F.type_list_append mt_append (pv 5) (pa_cons (pe_tup (pa_cons (pv 7) (pa_cons (pv 8) pa_nil))) pa_nil)))
          (pss_one (ps_aug (i := 6) scNthLog.nd rfl (Or.inl rfl) (pv 8) ip_add))) pss_nil))))
      (pss_one (ps_ret (pe_callTy call_tupleF (by rfl) B.tuple (by decide +kernel) (pa_cons (pv 5) pa_nil))))))))), ?_⟩
    have nj : niceJobs (.tuple js) := ⟨fun d hd => nice_of (List.all_eq_true.mp okj d hd), l9⟩
    generalize hrun : runJ js c = run at kN kE
    have runE : ∀ u f, runI js u f c = run u f := fun u f => by rw [← hrun]; rfl
    have runL : ∀ u f, run u f ≤ (js.length : Int) - f := fun u f => by rw [← runE]; exact pres_le
    refine ⟨_, rfl, v, .tuple js, rfl, hd, nj, tg, fun _ H1 s1 => ?_, fun i e => absurd (jp.symm.trans e) (fun z => nomatch z)⟩
    refine ⟨_, rfl, _, rfl, _, rfl, v, js, la, c, rfl, dp_same s1 hd, okj, l9, la9, c0, fun rp H2 s2 drp => ?_⟩
    have drp : Dp K H2 (.ref rp) (.list (restsD run js.length la)) := by rw [← hrun]; exact drp
    have s12 := s1.trans s2
    refine ⟨_, rfl, .int m, .int m, 0, rfl, .int m, _, rfl, ?_⟩
    rw [show integerD 0 (.int m) = true from decide_eq_true m0]
    obtain ⟨xs0, q0, qp0, hat0, qq0⟩ := rests_row drp (u := 0) (by decide) (by omega)
    have ra0 := row_at (run := run) (n := js.length) (k := la) (u := 0) (f := 0) (by decide) (by omega)
    refine iteF ⟨_, rfl, _, rfl, rp, xs0, 0, .ref q0, rfl, rfl, qp0, hat0, q0, _, 0, _, rfl, rfl, qq0, ra0, _, _, rfl, rfl, _, rfl, ?_⟩
    by_cases hge : R run (js.length : Int) la 0 0 ≤ m
    · rw [decide_eq_true (show m ≥ R run (js.length : Int) la 0 0 from hge)]
      refine iteT ⟨_, rfl, ?_⟩
      exact raise_go fun dx H5 s5 _ hx => kE hge dx H5 (s12.trans s5) hx
    rw [decide_eq_false (show ¬ m ≥ R run (js.length : Int) la 0 0 from hge)]
    have k := kN (by omega)
    refine iteF ⟨(by show 0 ≤ sizeLine; decide), fun l nl => ?_⟩
    have hl0 : upd H2 l (.lst []) l = some (.lst []) := upd_same
    have sl0 : Same H2 (Off l (upd H2 l (.lst []))) := by rw [off_upd, off_none nl]; exact Same.refl _
    generalize upd H2 l (.lst []) = G0 at hl0 sl0 ⊢
    refine ⟨_, rfl, _, _, rfl, rfl, 1, ((la : Nat) : Int) + 1, rfl, ⟨by omega, by omega, by omega, by omega⟩, ?_⟩
    refine for_it (D := { nx := _, rt := Q }) (walk_range (lo := 1) (n := (((la : Nat) : Int) + 1 - 1).toNat)) (fun i σ G => ∃ (f mm : Int) (xs : List V) (lg : List (Int × Int)) (u7 u8 u9 : Option V), σ = [some v, some (.int (la : Nat)), some (.int mm), some (.int c), some (.ref rp), some (.ref l), some (.int f), u7, u8, u9] ∧ Same H2 (Off l G) ∧ G l = some (.lst xs) ∧ DpAll K (Off l G) xs (lg.map pairP) ∧ lg.length ≤ i ∧ 0 ≤ f ∧ f ≤ (js.length : Int) ∧ 0 ≤ mm ∧ mm < R run (js.length : Int) (la - i) (i : Int) f ∧ nthL run (js.length : Int) la 0 0 m = lg ++ nthL run (js.length : Int) (la - i) (i : Int) f mm)
      ⟨0, m, [], [], none, none, none, rfl, sl0, hl0, .nil, Nat.le_refl _, by decide, by omega, m0, by rw [Nat.sub_zero]; exact Int.not_le.mp hge, by rw [Nat.sub_zero]; rfl⟩ (fun _ _ _ _ _ => trivial) ?_ ?_
    · rintro i x σ Gx G hi ⟨f, mm, xs, lg, u7, u8, u9, rfl, sG, hl, dl, ll, f0, fn, mm0, mmR, eq⟩ ⟨rfl, rfl⟩
      obtain ⟨kk, ek⟩ : ∃ kk, la - i = kk + 1 := ⟨la - i - 1, by omega⟩
      rw [ek] at mmR eq
      have hr0 := R_run (Int.lt_of_le_of_lt mm0 mmR)
      rw [R_ord hr0] at mmR
      have sGH := sG.trans (off_sub l G)
      have eU : (1 : Int) + ((i : Nat) : Int) = (i : Int) + 1 := by omega
      refine ⟨_, rfl, _, rfl, _, rfl, _, rfl, v, js, (i : Int) + 1, f, c, by rw [← eU]; rfl, dp_same (s12.trans sGH) hd, okj, l9, f0, by omega, c0, fun L H3 s3 hL => ⟨L, rfl, ⟨_, SqL.of hL⟩, ?_⟩⟩
      rw [runE] at hL
      have kd : la - (i + 1) = kk := by omega
      have ord0 : ∀ x ∈ ordI (run ((i : Int) + 1) f), 0 ≤ x ∧ x ≤ run ((i : Int) + 1) f := fun x hx => ord_of hr0 hx
      have nthE : nthL run (js.length : Int) (kk + 1) (i : Int) f mm = (if 0 < (pickO (fun x => R run (js.length : Int) kk ((i : Int) + 1) (f + x)) (ordI (run ((i : Int) + 1) f)) mm).1 then [((i : Int) + 1, (pickO (fun x => R run (js.length : Int) kk ((i : Int) + 1) (f + x)) (ordI (run ((i : Int) + 1) f)) mm).1)] else []) ++ nthL run (js.length : Int) kk ((i : Int) + 1) (f + (pickO (fun x => R run (js.length : Int) kk ((i : Int) + 1) (f + x)) (ordI (run ((i : Int) + 1) f)) mm).1) (pickO (fun x => R run (js.length : Int) kk ((i : Int) + 1) (f + x)) (ordI (run ((i : Int) + 1) f)) mm).2 := rfl
      rw [nthE] at eq
      generalize hos : ordI (run ((i : Int) + 1) f) = os at mmR eq hL ord0
      generalize hg : (fun x => R run (js.length : Int) kk ((i : Int) + 1) (f + x)) = g at mmR eq
      have gE : ∀ x, g x = R run (js.length : Int) kk ((i : Int) + 1) (f + x) := fun x => by rw [← hg]
      have osl : (os.map V.int).length = os.length := List.length_map ..
      refine for_it (walk_list (K := K) (a := L) (xs := os.map V.int)) (fun j σ J => ∃ (mj : Int) (w8 w9 : Option V), σ = [some v, some (.int (la : Nat)), some (.int mj), some (.int c), some (.ref rp), some (.ref l), some (.int f), some (.int (1 + ((i : Nat) : Int))), w8, w9] ∧ Same H3 J ∧ 0 ≤ mj ∧ mj < ((os.drop j).map g).sum ∧ pickO g os mm = pickO g (os.drop j) mj)
        ⟨mm, u8, u9, rfl, Same.refl H3, mm0, mmR, rfl⟩ (fun j σ J _ ⟨_, _, _, _, sJ, _⟩ => SqL.of (sJ.at hL)) ?_ ?_
      · rintro j y σ J0 J hj ⟨mj, w8, w9, rfl, sJ, mj0, mjS, ep⟩ ⟨rfl, hy⟩
        rw [List.getElem?_map] at hy
        obtain ⟨x, hx, rfl⟩ := Option.map_eq_some_iff.mp hy
        have dr : os.drop j = x :: os.drop (j + 1) := by
          obtain ⟨h1, h2⟩ := List.getElem?_eq_some_iff.mp hx
          rw [List.drop_eq_getElem_cons h1, h2]
        rw [dr] at mjS ep
        rw [List.map_cons, List.sum_cons] at mjS
        replace ep : pickO g os mm = if mj < g x then (x, mj) else pickO g (os.drop (j + 1)) (mj - g x) := ep
        obtain ⟨x0, xr⟩ := ord0 x (List.mem_of_getElem? hx)
        have xn := runL ((i : Int) + 1) f
        have s3J := s3.trans sJ
        obtain ⟨xs1, q1, qp1, hat1, qq1⟩ := rests_row (dp_same (sGH.trans s3J) drp) (u := (1 : Int) + (i : Nat)) (by omega) (by omega)
        have ra1 := row_at (run := run) (n := js.length) (k := la - ((1 : Int) + (i : Nat)).toNat) (u := (1 : Int) + (i : Nat)) (f := f + x) (by omega) (by omega)
        rw [show la - ((1 : Int) + (i : Nat)).toNat = kk by omega] at qq1 ra1
        have gx : R run (js.length : Int) kk ((1 : Int) + (i : Nat)) (f + x) = g x := by rw [gE, eU]
        rw [gx] at ra1
        refine ⟨_, rfl, _, rfl, rp, xs1, _, .ref q1, rfl, rfl, qp1, hat1, _, rfl, _, rfl, _, _, rfl, rfl, q1, _, _, _, rfl, rfl, qq1, ra1, ?_⟩
        refine ⟨_, rfl, _, rfl, _, _, rfl, rfl, _, rfl, ?_⟩
        have hlJ := s3J.at hl
        by_cases hlt : mj < g x
        · rw [decide_eq_true hlt]
          rw [if_pos hlt] at ep
          rw [ep] at eq
          refine iteT ?_
          refine ⟨_, rfl, _, _, rfl, rfl, _, rfl, ?_⟩
          by_cases xp : 0 < x
          · rw [decide_eq_true (show x > 0 from xp)]
            rw [if_pos xp] at eq
            refine iteT ⟨_, rfl, .inl ⟨rfl, _, SqL.of hlJ⟩, _, rfl, _, rfl, (by show 2 ≤ sizeLine; decide), fun t nt => ?_⟩
            have st := same_new (o := .tup [V.int (1 + ((i : Nat) : Int)), .int x]) nt
            have tl : l ≠ t := ne_of_none hlJ nt
            have xl := dps_len dl
            rw [List.length_map] at xl
            refine ⟨l, _, _, rfl, rfl, st.at hlJ, by rw [xl]; exact Nat.lt_of_le_of_lt (show lg.length ≤ 1000 by omega) (by decide), ?_⟩
            have offm : Same (Off l G) (Off l (upd J t (.tup [V.int (1 + ((i : Nat) : Int)), .int x]))) := off_mono (s3J.trans st)
            refine ⟨_, rfl, _, rfl, _, _, rfl, rfl, f + x, mj, xs ++ [.ref t], lg ++ [((i : Int) + 1, x)], _, _, _, rfl, ?_, upd_same, ?_, by rw [List.length_append]; show lg.length + 1 ≤ i + 1; omega, by omega, by omega, mj0, ?_, ?_⟩
            · rw [off_upd]
              exact sG.trans offm
            · rw [off_upd, List.map_append]
              refine dps_app (dps_same offm dl) (.cons ?_ .nil)
              rw [← eU]
              exact .tup (SqT.of (by rw [off_ne (Ne.symm tl), upd_same])) (.cons (.int _) (.cons (.int _) .nil))
            · rw [kd]
              show mj < R run (js.length : Int) kk ((i : Int) + 1) (f + x)
              rw [← gE]
              exact hlt
            · rw [kd, eq, List.append_assoc]
              rfl
          · rw [decide_eq_false (show ¬ x > 0 from xp)]
            rw [if_neg xp] at eq
            have ex : x = 0 := by omega
            subst ex
            refine iteF ⟨f, mj, xs, lg, _, _, _, rfl, sG.trans (off_mono s3J), hlJ, dps_same (off_mono s3J) dl, by omega, f0, fn, mj0, ?_, ?_⟩
            · have z := gE 0
              rw [Int.add_zero] at z
              rw [kd]
              show mj < R run (js.length : Int) kk ((i : Int) + 1) f
              rw [← z]
              exact hlt
            · rw [kd, eq, Int.add_zero]
              rfl
        · rw [decide_eq_false hlt]
          rw [if_neg hlt] at ep
          exact iteF ⟨_, rfl, _, rfl, _, _, rfl, rfl, mj - g x, _, _, rfl, sJ, by omega, by omega, ep⟩
      · rintro σ J ⟨mj, w8, w9, rfl, sJ, mj0, mjS, ep⟩
        rw [osl, List.drop_length] at mjS
        exact absurd mjS (by show ¬ mj < 0; omega)
    · rintro σ G ⟨f, mm, xs, lg, u7, u8, u9, rfl, sG, hl, dl, ll, f0, fn, mm0, mmR, eq⟩
      have e0 : la - (((la : Nat) : Int) + 1 - 1).toNat = 0 := by omega
      rw [e0] at eq
      replace eq : nthL run (js.length : Int) la 0 0 m = lg ++ [] := eq
      rw [List.append_nil] at eq
      refine ⟨_, rfl, l, xs, rfl, SqL.of hl, fun tp o ntp od => ?_⟩
      have stp := same_new (o := .frz o (.tup xs)) ntp
      have wt : Whole (upd G tp (.frz o (.tup xs))) tp xs := ⟨o, upd_same, od⟩
      refine k _ xs _ (s12.trans ((sG.trans (off_sub l G)).trans stp)) wt ?_
      rw [eq]
      exact dps_same ((off_sub l G).trans stp) dl
end
end Vk
set_option maxHeartbeats 8000000
namespace Vk
open PySem PySem.Spec PyProof.Rows L2 GxR
/-! the mathematics of a log's number, step by step -/
theorem cert_R {js : List PyData} {c : Int} : ∀ {lg : List (Int × Int)} {f : Int}, certD js c f lg = .none → certR (runJ js c) (js.length : Int) f lg
  | [], f, h => by
    have z : (if f = (js.length : Int) then PyData.none else .tuple [.str "unfinished", .int ((js.length : Int) - f)]) = .none := h
    by_cases e : f = (js.length : Int)
    · exact e
    · rw [if_neg e] at z
      cases z
  | p :: r, f, h => by
    have z : (if runI js p.1 f c < p.2 then PyData.tuple [.str "crowded", .int p.1, .int (runI js p.1 f c)] else certD js c (f + p.2) r) = .none := h
    by_cases e : runI js p.1 f c < p.2
    · rw [if_pos e] at z
      cases z
    · rw [if_neg e] at z
      exact ⟨Int.not_lt.mp e, cert_R z⟩
theorem R_cert {js : List PyData} {c : Int} : ∀ {lg : List (Int × Int)} {f : Int}, certR (runJ js c) (js.length : Int) f lg → certD js c f lg = .none
  | [], f, h => by
    show (if f = (js.length : Int) then PyData.none else .tuple [.str "unfinished", .int ((js.length : Int) - f)]) = .none
    rw [if_pos (show f = (js.length : Int) from h)]
  | p :: r, f, h => by
    show (if runI js p.1 f c < p.2 then PyData.tuple [.str "crowded", .int p.1, .int (runI js p.1 f c)] else certD js c (f + p.2) r) = .none
    have h1 : p.2 ≤ runI js p.1 f c := h.1
    rw [if_neg (Int.not_lt.mpr h1)]
    exact R_cert h.2
/-- one unit of a log that goes on: what finishes in it, what is left -/
theorem step_R {run : Int → Int → Int} {n : Int} {k : Nat} {u f : Int} {lg : List (Int × Int)} (ha : Asc u lg) (hu : ∀ p ∈ lg, p.1 ≤ u + ((k + 1 : Nat) : Int)) (hc : certR run n f lg) :
    ∃ r, 0 ≤ atU lg (u + 1) ∧ (atU lg (u + 1) = 0 ∨ atU lg (u + 1) ≤ run (u + 1) f) ∧ Asc (u + 1) r ∧ (∀ p ∈ r, p.1 ≤ (u + 1) + (k : Int)) ∧ certR run n (f + atU lg (u + 1)) r ∧ (∀ v, u + 1 < v → atU lg v = atU r v) ∧
      numL run n (k + 1) u f lg = ((aheadO (ordI (run (u + 1) f)) (atU lg (u + 1))).map fun x => R run n k (u + 1) (f + x)).sum + numL run n k (u + 1) (f + atU lg (u + 1)) r := by
  match lg, ha, hu, hc with
  | [], _, _, hc =>
    refine ⟨[], Int.le_refl 0, .inl rfl, trivial, fun p hp => absurd hp (by simp), ?_, fun _ _ => rfl, rfl⟩
    show certR run n (f + 0) []
    rw [Int.add_zero]
    exact hc
  | (v, x) :: r, ⟨h1, h2, h3⟩, hu, hc =>
    by_cases e : v = u + 1
    · subst e
      have hx : 1 ≤ x := h2
      rw [at_head]
      refine ⟨r, by omega, .inr hc.1, h3, fun q hq => by have := hu q (List.mem_cons_of_mem _ hq); omega, hc.2, fun w hw => at_tail (by show ¬ u + 1 = w; omega), ?_⟩
      show ((aheadO (ordI (run (u + 1) f)) (atU ((u + 1, x) :: r) (u + 1))).map fun x => R run n k (u + 1) (f + x)).sum + numL run n k (u + 1) (f + atU ((u + 1, x) :: r) (u + 1)) ((u + 1, x) :: r) = _
      rw [at_head, num_tail k (u + 1) _ (Int.le_refl _)]
    · have gt : ∀ q ∈ (v, x) :: r, u + 2 ≤ q.1 := fun q hq => by
        have := asc_gt (lg := (v, x) :: r) (b := u + 1) ⟨by omega, h2, h3⟩ q hq
        omega
      have e0 : atU ((v, x) :: r) (u + 1) = 0 := at_none fun q hq => by have := gt q hq; omega
      rw [e0]
      refine ⟨(v, x) :: r, Int.le_refl 0, .inl rfl, ⟨by have : u + 1 ≤ v := h1; show u + 1 + 1 ≤ v; omega, h2, h3⟩, fun q hq => by have := hu q hq; omega, by rw [Int.add_zero]; exact hc, fun _ _ => rfl, ?_⟩
      show ((aheadO (ordI (run (u + 1) f)) (atU ((v, x) :: r) (u + 1))).map fun x => R run n k (u + 1) (f + x)).sum + numL run n k (u + 1) (f + atU ((v, x) :: r) (u + 1)) ((v, x) :: r) = _
      rw [e0]
/-- the dictionary of a log -/
def kvL (lg : List (Int × Int)) : List (Key × V) := lg.map fun p => (Sum.inl p.1, V.int p.2)
theorem merge_val : ∀ (lg : List (Int × Int)) (acc : List (Key × V)) (u : Int), (∀ p ∈ lg, p.1 ≠ u) → valV (mergeK acc (kvL lg)) (Sum.inl u) = valV acc (Sum.inl u)
  | [], acc, u, _ => rfl
  | p :: r, acc, u, h => by
    show valV (mergeK (putK acc (Sum.inl p.1) (V.int p.2)) (kvL r)) (Sum.inl u) = _
    rw [merge_val r _ u fun q hq => h q (List.mem_cons_of_mem _ hq), valV_put, if_neg]
    intro e
    exact h p (List.mem_cons_self ..) (Sum.inl.inj e).symm
theorem merge_at : ∀ {lg : List (Int × Int)} {b : Int} (acc : List (Key × V)) (u : Int), Asc b lg → valV acc (Sum.inl u) = none → (valV (mergeK acc (kvL lg)) (Sum.inl u)).getD (.int 0) = .int (atU lg u)
  | [], b, acc, u, _, h => by
    show (valV acc (Sum.inl u)).getD (.int 0) = .int 0
    rw [h]
    rfl
  | (v, x) :: r, b, acc, u, ha, h => by
    show (valV (mergeK (putK acc (Sum.inl v) (V.int x)) (kvL r)) (Sum.inl u)).getD (.int 0) = _
    by_cases e : v = u
    · subst e
      rw [at_head, merge_val r _ v (fun q hq => by have : v + 1 ≤ q.1 := asc_gt ha.2.2 q hq; omega), valV_put, if_pos rfl]
      rfl
    · rw [at_tail (show (v, x).1 ≠ u from e)]
      refine merge_at _ u ha.2.2 ?_
      rw [valV_put, if_neg (fun z => e (Sum.inl.inj z).symm)]
      exact h
/-- where an element of the order stands: ahead of it the others -/
theorem ahead_ix : ∀ {os : List Int} {x : Int}, x ∈ os → os[(aheadO os x).length]? = some x ∧ aheadO os x = os.take (aheadO os x).length ∧ ∀ (m : Nat) z, m < (aheadO os x).length → os[m]? = some z → z ≠ x
  | [], x, h => absurd h (by simp)
  | y :: ys, x, h => by
    by_cases e : y = x
    · subst e
      have z : aheadO (y :: ys) y = [] := by
        unfold aheadO
        rw [List.takeWhile_cons_of_neg (by simp)]
      rw [z]
      exact ⟨rfl, rfl, fun m z hm => absurd hm (Nat.not_lt_zero m)⟩
    · have h2 : x ∈ ys := by
        rcases List.mem_cons.mp h with z | z
        · exact absurd z.symm e
        · exact z
      have ea : aheadO (y :: ys) x = y :: aheadO ys x := by
        unfold aheadO
        rw [List.takeWhile_cons_of_pos (by simpa using e)]
      obtain ⟨i1, i2, i3⟩ := ahead_ix h2
      rw [ea]
      refine ⟨i1, ?_, fun m z hm hz => ?_⟩
      · show y :: aheadO ys x = y :: ys.take (aheadO ys x).length
        rw [← i2]
      · cases m with
        | zero =>
          cases (Option.some.inj hz)
          exact e
        | succ m => exact i3 m z (Nat.lt_of_succ_lt_succ hm) hz
theorem ahead_mem {os : List Int} {x y : Int} (h : y ∈ aheadO os x) : y ∈ os := List.mem_of_mem_takeWhile h
where List.mem_of_mem_takeWhile {os : List Int} {p : Int → Bool} {y : Int} (h : y ∈ os.takeWhile p) : y ∈ os := (List.takeWhile_sublist p).subset h
end Vk
set_option maxHeartbeats 8000000
namespace Vk
open PySem PySem.Spec PyProof.Rows L2 GxR
section
variable {P : Program} {w : World} {K : PySem.W.Frag} {mg : Str → Option Value} {base : Heap}
/-- a log, whole, in its unit's time, possible -/
structure LogOk (K : PySem.W.Frag) (H : Hp) (p : Addr) (xs : List V) (js : List PyData) (c : Int) (la : Nat) (lg : List (Int × Int)) : Prop where
  wh : Whole H p xs
  dps : DpAll K H xs (lg.map pairP)
  len : lg.length ≤ 900
  asc : Asc 0 lg
  ok : certD js c 0 lg = .none
  inT : ∀ q ∈ lg, q.1 ≤ (la : Int)
theorem LogOk.dp {H : Hp} {p : Addr} {xs : List V} {js : List PyData} {c : Int} {la : Nat} {lg : List (Int × Int)} (h : LogOk K H p xs js c la lg) : Dp K H (.ref p) (.tuple (lg.map pairP)) := .tup h.wh.tup h.dps
theorem LogOk.same {H H' : Hp} {p : Addr} {xs : List V} {js : List PyData} {c : Int} {la : Nat} {lg : List (Int × Int)} (h : LogOk K H p xs js c la lg) (s : Same H H') : LogOk K H' p xs js c la lg := ⟨h.wh.same s, dps_same s h.dps, h.len, h.asc, h.ok, h.inT⟩
def spNumLog (K : PySem.W.Frag) (T : Addr) : Sp := fun vs H Q _ => ∃ (v : V) (js : List PyData) (la : Nat) (c : Int) (p : Addr) (xs : List V) (lg : List (Int × Int)), vs = [v, .ref p, .int (la : Nat), .int c] ∧ JobsOk K T H v js la c ∧ LogOk K H p xs js c la lg ∧
  ∀ H', Same H H' → Q (.int (numL (runJ js c) (js.length : Int) la 0 0 lg)) H'
theorem scNumLog : FnScope ["jobs", "log", "last", "processors", "rests", "by_unit", "number", "finished", "unit", "finishes", "order", "ahead", "other"] ["jobs", "log", "last", "processors"] (defScope sNumLog) := ⟨rfl, rfl, rfl, by decide +kernel, rfl, by decide +kernel, by decide +kernel⟩
theorem pairs_refs {H : Hp} : ∀ {xs : List V} {lg : List (Int × Int)}, DpAll K H xs (lg.map pairP) → ∃ ps : List Addr, xs = ps.map V.ref ∧ Paired (fun p kv => SqT K H p [kV kv.1, kv.2]) ps (kvL lg)
  | _, [], h => by
    cases h
    exact ⟨[], rfl, .nil⟩
  | _, q :: r, h => by
    obtain _ | ⟨h1, h2⟩ := h
    obtain ⟨ps, rfl, pp⟩ := pairs_refs h2
    obtain ⟨p, x, y, rfl, qp, dx, dy⟩ := dp_two h1
    have ex := dp_int dx
    subst ex
    have ey := dp_int dy
    subst ey
    exact ⟨p :: ps, rfl, .cons qp pp⟩
theorem pairs_inj : ∀ {a b : List (Int × Int)}, a.map pairP = b.map pairP → a = b
  | [], [], _ => rfl
  | [], _ :: _, h => by cases h
  | _ :: _, [], h => by cases h
  | (x, y) :: r, (x', y') :: s, h => by
    obtain ⟨h1, h2⟩ := List.cons.inj h
    have e1 : PyData.tuple [.int x, .int y] = .tuple [.int x', .int y'] := h1
    cases e1
    rw [pairs_inj h2]
theorem cert_le {run : Int → Int → Int} {n : Int} : ∀ {r : List (Int × Int)} {b f : Int}, Asc b r → certR run n f r → f ≤ n
  | [], _, f, _, h => by
    have e : f = n := h
    omega
  | p :: r, _, f, ha, h => by
    have h1 : 1 ≤ p.2 := ha.2.1
    have := cert_le ha.2.2 h.2
    omega
theorem dps_end {K : PySem.W.Frag} {H : Hp} : ∀ {vs : List V} {ds : List PyData} {d : PyData}, DpAll K H vs (ds ++ [d]) → ∃ us z, vs = us ++ [z] ∧ Dp K H z d
  | _, [], _, h => by
    obtain _ | ⟨h1, h2⟩ := h
    cases h2
    exact ⟨[], _, rfl, h1⟩
  | _, e :: ds, _, h => by
    obtain _ | ⟨h1, h2⟩ := h
    obtain ⟨us, z, e2, hz⟩ := dps_end h2
    exact ⟨_ :: us, z, by rw [e2]; rfl, hz⟩
theorem last_in {lg : List (Int × Int)} {q : Int × Int} (h : (lg.map pairP)[lg.length - 1]? = some (pairP q)) : q ∈ lg := by
  rw [List.getElem?_map] at h
  obtain ⟨z, hz, e⟩ := Option.map_eq_some_iff.mp h
  have := List.mem_of_getElem? hz
  obtain ⟨a, b⟩ := z
  obtain ⟨a', b'⟩ := q
  have e1 : PyData.tuple [.int a, .int b] = .tuple [.int a', .int b'] := e
  cases e1
  exact this
theorem ok_numLog {T C C0 CL0 : Addr} (D : DfM K mg "number_of_log" sNumLog ["jobs", "log", "last", "processors"] 3 ["processors"] (fun vs zs => vs ++ zs)) (B : Blt mg) (md : mg "dict" = none) (sm : mg "sum" = none) (CJ : Cl P w K mg base (L2.CX P w) 5 "check_jobs" ["jobs"] (spCheck K T C0)) (CL : Cl P w K mg base (L2.CX P w) 3 "check_log" ["log"] (spCheckLog K CL0))
    (FI : ClK P w K mg base (L2.CX P w) 6 "first_fault" ["jobs", "log"] "processors" (.int 1) (spFirst K T CL0)) (RS : Cl P w K mg base CX0 6 "rests_of" ["jobs", "last", "processors"] (spRests K)) (IO : Cl P w K mg base CX0 5 "in_order" ["jobs", "unit", "finished", "processors"] (spInOrder K)) (ER : ErC P w K mg base "NoNumber" "number" C) :
    ClM P w K mg base (L2.CX P w) 7 "number_of_log" ["jobs", "log", "last", "processors"] 3 ["processors"] (fun vs zs => vs ++ zs) (spNumLog K T) := by
  refine clM D scNumLog (fun vs H Q E h => ?_) (fun f cdv A outer s H vs Q E hr h => ?_)
  · obtain ⟨v, js, la, c, p, xs, lg, rfl, _⟩ := h
    rfl
  · obtain ⟨v, js, la, c, p, xs, lg, rfl, ⟨hd, okj, l9, jp, tg, la9, c0⟩, LG, k⟩ := h
    obtain ⟨fJ, fdJ, mJ, kpJ, bJ, FJ⟩ := CJ.ex
    obtain ⟨fL, fdL, mL, kpL, bL, FL⟩ := CL.ex
    obtain ⟨fF, fdF, mF, kpF, kbF, _, FF⟩ := FI.ex
    refine ⟨_, pss_cons (ps_expr (pe_call (E := E) FJ (hr.mono (by decide)) rfl mJ kpJ bJ .nil (passes_call (W := fun cls d _ H => E cls d H) (takes_of rfl rfl rfl rfl) (fun _ _ _ _ h => h)) (pa_cons (pv 0) pa_nil)))
      (pss_cons (ps_expr (pe_call (E := E) FL (hr.mono (by decide)) rfl mL kpL bL .nil (passes_call (W := fun cls d _ H => E cls d H) (takes_of rfl rfl rfl rfl) (fun _ _ _ _ h => h)) (pa_cons (pv 1) pa_nil)))
      (pss_cons (ps_if (PW.pt (pw_or (pt_cmpR op_notN (pe_callK (ex := fun _ => E) FF hr rfl mF kpF kbF (fun σ => fun pins H s e s' I h => passes_call (W := fun cls d _ H => E cls d H) (takes_of rfl rfl rfl rfl) (fun _ _ _ _ h => h) pins σ H s e s' I h) (pa_cons (pv 0) (pa_cons (pv 1) pa_nil)) (pk_cons (pv 3) pk_nil)) pe_non (nomark _))
          (pw_or1 (PW.pt (pw_and (pt_truth (pv 1) (by intro _; rfl)) (pw_and1 (pt_cmpR op_gt (pe_ix ix_tup (pe_ix ix_tup (pv 1) (pe_un un_neg pe_int) (fun _ _ => rfl)) pe_int (fun _ _ => rfl)) (pv 2) (nomark _)))))))) (pss_one (ps_raiseE ER rfl hr (by decide) (takes_of rfl rfl rfl rfl) pe_non)) pss_nil)
      (pss_cons (ps_set (i := 4) scNumLog.nd rfl (Or.inr rfl) (pc RS hr (by decide) (pa_cons (pv 0) (pa_cons (pv 2) (pa_cons (pv 3) pa_nil)))))
      (pss_cons (ps_set (i := 5) scNumLog.nd rfl (Or.inl rfl) (pe_callTy (call_dictT rfl) (by rfl) md (by decide +kernel) (pa_cons (pv 1) pa_nil)))
      (pss_cons (ps_asg2 pe_int (pg_name (i := 6) scNumLog.nd rfl (Or.inl rfl)) (pg_name (i := 7) scNumLog.nd rfl (Or.inr rfl)))
      (pss_cons (ps_for (passes_of rfl) rfl (pi_range2 rfl B.range (pa_cons pe_int (pa_cons (pe_op op_add (pv 2) pe_int) pa_nil))) (pg_name (i := 8) scNumLog.nd rfl (Or.inr rfl))
        (pss_cons (ps_set (i := 9) scNumLog.nd rfl (Or.inl rfl) (pe_dget2 (hu_of hr) (pv 5) (pv 8) pe_int ⟨rfl, rfl, rfl, rfl⟩))
        (pss_cons (ps_set (i := 10) scNumLog.nd rfl (Or.inl rfl) (pc IO hr (by decide) (pa_cons (pv 0) (pa_cons (pv 8) (pa_cons (pv 7) (pa_cons (pv 3) pa_nil))))))
        (pss_cons (ps_set (i := 11) scNumLog.nd rfl (Or.inl rfl) (pe_slice sl_list (pv 10) po_none (po_some (pe_bm PySem.F.plainAttrs_list PySem.F.slot_list_index PySem.F.type_list_index mt_index (pv 10) (pa_cons (pv 9) pa_nil)))))
        (pss_cons (ps_aug (i := 6) scNumLog.nd rfl (Or.inl rfl) (pe_callB (cr_sum rfl) (by rfl) sm (by decide +kernel) (pa_cons
          (pe_lc (own := [("other", 12)]) (g := gName 12) (tt := tYes) (te := tOp (rIxL K) (tOp (rIxL K) (tVar 4) (tVar 8)) (tOp (rI0 fun i j => .int (i + j)) (tVar 7) (tVar 12))) (by rfl) scNumLog.nd (pi_list (pv 11))
            (blkOk_by (own := [("other", 12)]) (N := ["jobs", "log", "last", "processors", "rests", "by_unit", "number", "finished", "unit", "finishes", "order", "ahead", "other"]) (sc := defScope sNumLog) (by decide +kernel)) (fun _ _ _ _ _ => pg_name (i := 12) scNumLog.nd rfl (Or.inl rfl)) (fun _ _ _ _ _ => pts_nil)
            (fun _ _ _ _ _ => pe_ix ix_list (pe_ix ix_list (pv 4) (pv 8) (fun _ _ => rfl)) (pe_op op_add (pv 7) (pv 12)) (fun _ _ => rfl))) pa_nil)) ip_add)
        (pss_one (ps_aug (i := 7) scNumLog.nd rfl (Or.inr rfl) (pv 9) ip_add)))))))
      (pss_one (ps_ret (pv 6))))))))), ?_⟩
    have nj : niceJobs (.tuple js) := ⟨fun d hd => nice_of (List.all_eq_true.mp okj d hd), l9⟩
    have lnn := log_none LG.asc
    have ll : lenLog (.tuple (lg.map pairP)) ≤ 50000 := by
      show (lg.map pairP).length ≤ 50000
      rw [List.length_map]
      exact Nat.le_trans LG.len (by decide)
    generalize hrun : runJ js c = run at k
    have runE : ∀ u f, runI js u f c = run u f := fun u f => by rw [← hrun]; rfl
    have runL : ∀ u f, run u f ≤ (js.length : Int) - f := fun u f => by rw [← runE]; exact pres_le
    refine ⟨_, rfl, v, .tuple js, rfl, hd, nj, tg, fun _ H1 s1 => ?_, fun i e => absurd (jp.symm.trans e) (fun z => nomatch z)⟩
    refine ⟨_, rfl, .ref p, _, rfl, dp_same s1 LG.dp, ll, fun _ H2 s2 => ?_, fun i e => absurd (lnn.symm.trans e) (fun z => nomatch z)⟩
    have s12 := s1.trans s2
    refine ⟨_, rfl, _, rfl, _, rfl, rfl, rfl, v, .ref p, js, _, c, rfl, dp_same s12 hd, okj, l9, jp, s12.tab T tg, dp_same s12 LG.dp, ll, fun lg' ln' ed fv H3 s3 df => ?_, fun i e => absurd (lnn.symm.trans e) (fun z => nomatch z)⟩
    have e9 := pairs_inj (PyData.tuple.inj ed)
    subst e9
    rw [LG.ok] at df
    have ev := dp_none df
    subst ev
    have s13 := s12.trans s3
    refine ⟨rfl, _, rfl, iteF ?_⟩
    have qt : SqT K H3 p xs := (LG.wh.same s13).tup
    have rt := dps_same s13 LG.dps
    have xl := dps_len rt
    rw [List.length_map] at xl
    apply cutR (α := L2.St → Hp → Prop) (F := fun R => R [some v, some (.ref p), some (.int (la : Nat)), some (.int c), none, none, none, none, none, none, none, none, none] H3)
    · intro hR
      rcases List.eq_nil_or_concat lg with e | ⟨l0, q, e⟩
      · subst e
        have ex : xs = [] := List.eq_nil_of_length_eq_zero xl
        subst ex
        exact ⟨_, rfl, false, .inr (.inl ⟨_, qt, rfl⟩), iteF (iteF hR)⟩
      · have en : xs ≠ [] := fun z => by rw [z, e] at xl; simp at xl
        refine ⟨_, rfl, true, .inr (.inl ⟨_, qt, by cases xs with | nil => exact absurd rfl en | cons _ _ => rfl⟩), iteT ?_⟩
        have rt2 := rt
        rw [e, List.concat_eq_append, List.map_append] at rt2
        obtain ⟨ys, z, exs, dz⟩ := dps_end rt2
        obtain ⟨pp, xv, yv, rfl, qp, dx, dy⟩ := dp_two dz
        have ex := dp_int dx
        subst ex
        have hq : q.1 ≤ (la : Int) := LG.inT q (by rw [e, List.concat_eq_append]; simp)
        refine ⟨_, rfl, _, rfl, p, xs, _, .ref pp, rfl, rfl, qt, by rw [exs]; exact atI_last _ _, pp, _, 0, _, rfl, rfl, qp, rfl, _, rfl, _, _, rfl, rfl, _, rfl, ?_⟩
        rw [decide_eq_false (show ¬ q.1 > ((la : Nat) : Int) from by omega)]
        exact iteF hR
    obtain ⟨ps, exs, pp⟩ := pairs_refs rt
    refine ⟨_, rfl, _, rfl, _, rfl, v, js, la, c, rfl, dp_same s13 hd, okj, l9, la9, c0, fun rp H4 s4 drp => ?_⟩
    have drp : Dp K H4 (.ref rp) (.list (restsD run js.length la)) := by rw [← hrun]; exact drp
    have s14 := s13.trans s4
    obtain ⟨ps, exs4, pp4⟩ := pairs_refs (dps_same s14 LG.dps)
    have wh4 := LG.wh.same s14
    rw [exs4] at wh4
    refine ⟨_, rfl, p, ps, kvL lg, rfl, wh4, pp4, fun d nd => ?_⟩
    have s5 := same_new (o := .dK (mergeK [] (kvL lg))) nd
    have hd5 : upd H4 d (.dK (mergeK [] (kvL lg))) d = some (.dK (mergeK [] (kvL lg))) := upd_same
    generalize upd H4 d (.dK (mergeK [] (kvL lg))) = H5 at s5 hd5 ⊢
    have s15 := s14.trans s5
    have dv : ∀ u, (valV (mergeK [] (kvL lg)) (Sum.inl u)).getD (.int 0) = .int (atU lg u) := fun u => merge_at [] u LG.asc rfl
    refine ⟨_, rfl, _, _, rfl, rfl, 1, ((la : Nat) : Int) + 1, rfl, ⟨by omega, by omega, by omega, by omega⟩, ?_⟩
    have cR : certR run (js.length : Int) 0 lg := by
      rw [← hrun]
      exact cert_R LG.ok
    refine for_it (D := { nx := _, rt := Q }) (walk_range (lo := 1) (n := (((la : Nat) : Int) + 1 - 1).toNat)) (fun i σ G => ∃ (f num : Int) (r : List (Int × Int)) (u8 u9 u10 u11 : Option V), σ = [some v, some (.ref p), some (.int (la : Nat)), some (.int c), some (.ref rp), some (.ref d), some (.int num), some (.int f), u8, u9, u10, u11, none] ∧ Same H5 G ∧ Asc (i : Int) r ∧ (∀ q ∈ r, q.1 ≤ (la : Int)) ∧ certR run (js.length : Int) f r ∧ 0 ≤ f ∧ (∀ x, (i : Int) < x → atU lg x = atU r x) ∧ num + numL run (js.length : Int) (la - i) (i : Int) f r = numL run (js.length : Int) la 0 0 lg)
      ⟨0, 0, lg, none, none, none, none, rfl, Same.refl H5, LG.asc, LG.inT, cR, Int.le_refl 0, fun _ _ => rfl, by rw [Nat.sub_zero, Int.zero_add]; rfl⟩ (fun _ _ _ _ _ => trivial) ?_ ?_
    · rintro i x σ Gx G hi ⟨f, num, r, u8, u9, u10, u11, rfl, sG, ha, hin, hc, f0, hat, eq⟩ ⟨rfl, rfl⟩
      obtain ⟨kk, ek⟩ : ∃ kk, la - i = kk + 1 := ⟨la - i - 1, by omega⟩
      rw [ek] at eq
      have eU : (1 : Int) + ((i : Nat) : Int) = (i : Int) + 1 := by omega
      obtain ⟨r', x0, xr, ha', hin', hc', hat', en⟩ := step_R (k := kk) ha (fun q hq => by have := hin q hq; omega) hc
      have hin2 : ∀ q ∈ r', q.1 ≤ (la : Int) := fun q hq => by have := hin' q hq; omega
      have ex : atU lg ((i : Int) + 1) = atU r ((i : Int) + 1) := hat _ (by omega)
      have fn := cert_le ha hc
      have fn' := cert_le ha' hc'
      rw [en] at eq
      rw [← ex] at x0 xr hc' eq fn'
      generalize hx : atU lg ((i : Int) + 1) = x at x0 xr hc' eq fn'
      have s1G := s15.trans sG
      refine ⟨_, rfl, d, rfl, .inl ⟨_, .inl (sG.at hd5)⟩, _, rfl, _, DGet.k (k := (.inl (1 + ((i : Nat) : Int)) : Key)) (sG.at hd5), ?_⟩
      rw [dv, eU, hx]
      refine ⟨_, rfl, _, rfl, _, rfl, _, rfl, v, js, (i : Int) + 1, f, c, by rw [← eU]; rfl, dp_same s1G hd, okj, l9, f0, by omega, c0, fun L G1 s6 hL => ?_⟩
      rw [runE] at hL
      have xm : x ∈ ordI (run ((i : Int) + 1) f) := by
        rcases xr with e | e
        · rw [e]
          exact List.mem_append_right _ (List.mem_singleton.mpr rfl)
        · exact ord_mem x0 e
      obtain ⟨ix1, ix2, ix3⟩ := ahead_ix xm
      have ord0 : ∀ y ∈ aheadO (ordI (run ((i : Int) + 1) f)) x, 0 ≤ y ∧ (y = 0 ∨ y ≤ run ((i : Int) + 1) f) := fun y hy => by
        rcases List.mem_append.mp (ahead_mem hy) with z | z
        · obtain ⟨j, hj, rfl⟩ := List.mem_map.mp z
          have := List.mem_range.mp hj
          exact ⟨by omega, .inr (by omega)⟩
        · have := List.mem_singleton.mp z
          exact ⟨by omega, .inl this⟩
      generalize hos : ordI (run ((i : Int) + 1) f) = os at hL xm ix1 ix2 ix3 ord0 eq
      have allF : (os.map V.int).all flatV = true := List.all_eq_true.mpr fun z hz => by
        obtain ⟨y, _, rfl⟩ := List.mem_map.mp hz
        rfl
      refine ⟨_, rfl, ?_⟩
      dsimp only [tNoPart]
      refine ⟨_, rfl, .inl ⟨rfl, _, SqL.of hL⟩, _, rfl, L, os.map V.int, .int x, (aheadO os x).length, .int x, rfl, rfl, SqL.of hL, rfl, allF, by rw [List.getElem?_map, ix1]; rfl, (show (x == x) = true from beq_self_eq_true x), fun m z hm hz => ?_, _, rfl, L, os.map V.int, rfl, SqL.of hL, fun ap nap => ?_⟩
      · rw [List.getElem?_map] at hz
        obtain ⟨y, hy, rfl⟩ := Option.map_eq_some_iff.mp hz
        show (y == x) = false
        exact beq_eq_false_iff_ne.mpr (ix3 m y hm hy)
      have ecut : cutV (os.map V.int) none (some ((aheadO os x).length : Int)) = (aheadO os x).map V.int := by
        unfold cutV
        rw [HT.sIx_none, HT.sIx_nat, List.drop_zero, Nat.sub_zero, List.length_map]
        have hl : (aheadO os x).length ≤ os.length := by
          have z := congrArg List.length ix2
          rw [List.length_take] at z
          omega
        rw [Nat.min_eq_left hl, ← List.map_take, ← ix2]
      rw [ecut]
      have sa := same_new (o := .lst ((aheadO os x).map V.int)) nap
      have ha0 : upd G1 ap (.lst ((aheadO os x).map V.int)) ap = some (.lst ((aheadO os x).map V.int)) := upd_same
      generalize upd G1 ap (.lst ((aheadO os x).map V.int)) = G2 at sa ha0 ⊢
      have s2G := (s1G.trans s6).trans sa
      have ol : os.length ≤ 2000 := by
        rw [← hos]
        unfold ordI
        rw [List.length_append, List.length_map, List.length_range]
        have := runL ((i : Int) + 1) f
        show _ + 1 ≤ 2000
        omega
      have al : (aheadO os x).length ≤ 2000 := by
        have z := congrArg List.length ix2
        rw [List.length_take] at z
        omega
      refine ⟨_, rfl, _, rfl, ap, rfl, ⟨_, SqL.of ha0⟩, fun D0 nD => ?_⟩
      refine lc_list (K := K) (a := ap) (xs := (aheadO os x).map V.int) (fun j Hc => Same G2 (Off D0 Hc) ∧ Hc D0 = some (.lst (((aheadO os x).take j).map fun y => V.int (R run (js.length : Int) kk ((i : Int) + 1) (f + y)))))
        ⟨by rw [off_upd, off_none nD]; exact Same.refl _, upd_same⟩ (fun j Hc _ ⟨sc, _⟩ => SqL.of ((sc.trans (off_sub D0 Hc)).at ha0)) ?_ ?_
      · rintro j y Hc hj ⟨sc, hD⟩
        rw [List.getElem?_map] at hj
        obtain ⟨z, hz, rfl⟩ := Option.map_eq_some_iff.mp hj
        obtain ⟨z0, zr⟩ := ord0 z (List.mem_of_getElem? hz)
        have rl := runL ((i : Int) + 1) f
        have sH := sc.trans (off_sub D0 Hc)
        obtain ⟨xs1, q1, qp1, hat1, qq1⟩ := rests_row (dp_same ((s5.trans sG).trans ((s6.trans sa).trans sH)) drp) (u := (1 : Int) + (i : Nat)) (by omega) (by omega)
        have ra1 := row_at (run := run) (n := js.length) (k := la - ((1 : Int) + (i : Nat)).toNat) (u := (1 : Int) + (i : Nat)) (f := f + z) (by omega) (by omega)
        rw [show la - ((1 : Int) + (i : Nat)).toNat = kk by omega] at qq1 ra1
        rw [eU] at ra1
        refine ⟨rfl, _, rfl, _, rfl, rp, xs1, _, .ref q1, rfl, rfl, qp1, hat1, _, rfl, _, rfl, _, _, rfl, rfl, q1, _, _, _, rfl, rfl, (by rw [eU] at qq1; exact qq1), ra1, _, hD, ?_, ?_, ?_⟩
        · rw [List.length_map, List.length_take]
          exact Nat.lt_of_le_of_lt (show min j (aheadO os x).length ≤ 2000 by omega) (by decide)
        · rw [off_upd]
          exact sc
        · rw [upd_same, List.take_add_one, hz, List.map_append]
          rfl
      · rintro Hc ⟨sc, hD⟩
        rw [List.length_map, List.take_length] at hD
        have hD2 : Hc D0 = some (.lst (((aheadO os x).map fun y => R run (js.length : Int) kk ((i : Int) + 1) (f + y)).map V.int)) := by
          rw [hD, List.map_map]
          rfl
        refine ⟨D0, _, rfl, SqL.of hD2, _, _, rfl, rfl, _, rfl, _, rfl, _, _, rfl, rfl, ?_⟩
        have kd : la - (i + 1) = kk := by omega
        refine ⟨f + x, _, r', _, _, _, _, rfl, (sG.trans (s6.trans sa)).trans (sc.trans (off_sub D0 Hc)), ?_, hin2, hc', by omega, fun w hw => ?_, ?_⟩
        · have e : ((i + 1 : Nat) : Int) = (i : Int) + 1 := by omega
          rw [e]
          exact ha'
        · rw [hat w (by omega)]
          exact hat' w (by omega)
        · rw [kd]
          have e : ((i + 1 : Nat) : Int) = (i : Int) + 1 := by omega
          rw [e, ← eq]
          exact Int.add_assoc _ _ _
    · rintro σ G ⟨f, num, r, u8, u9, u10, u11, rfl, sG, ha, hin, hc, f0, hat, eq⟩
      have e0 : la - (((la : Nat) : Int) + 1 - 1).toNat = 0 := by omega
      rw [e0] at eq
      replace eq : num + 0 = numL run (js.length : Int) la 0 0 lg := eq
      refine ⟨_, rfl, ?_⟩
      rw [show num = numL run (js.length : Int) la 0 0 lg by omega]
      exact k _ (s15.trans sG)
end
end Vk
set_option maxHeartbeats 8000000
namespace Vk
open PySem PySem.Spec PyProof.Rows L2 GxR
section
variable {P : Program} {w : World} {K : PySem.W.Frag} {mg : Str → Option Value} {base : Heap}
def spZero (K : PySem.W.Frag) (T : Addr) : Sp := fun vs H Q _ => ∃ (v : V) (js : List PyData) (la : Nat) (c : Int), vs = [v, .int (la : Nat), .int c] ∧ JobsOk K T H v js la c ∧ R (runJ js c) (js.length : Int) la 0 0 ≤ 0 ∧ ∀ H', Same H H' → Q (.bl true) H'
theorem scZero : FnScope ["jobs", "last", "cores", "caught", "e"] ["jobs", "last", "cores"] (defScope sZero) := ⟨rfl, rfl, rfl, by decide +kernel, rfl, by decide +kernel, by decide +kernel⟩
theorem ok_zero {T C : Addr} (D : Df K mg "_law_zero_right" sZero ["jobs", "last", "cores"]) (N : Kn K mg C 8) (NL : ClM P w K mg base (L2.CX P w) 7 "nth_log" ["jobs", "last", "number", "processors"] 3 ["processors"] (fun vs zs => vs ++ zs) (spNthLog K T C)) (KI : Cl P w K mg base CX0 1 "_law_kind" ["caught"] (spKind8 C)) :
    Cl P w K mg base CX0 8 "_law_zero_right" ["jobs", "last", "cores"] (spZero K T) := by
  refine cl0 D scZero (fun vs H Q E h => ?_) (fun f cdv A outer s H vs Q E hr h => ?_)
  · obtain ⟨v, js, la, c, rfl, _⟩ := h
    rfl
  · obtain ⟨v, js, la, c, rfl, J, hR, k⟩ := h
    obtain ⟨S, mS, _, exm⟩ := N.se
    obtain ⟨fN, fdN, gN, mN, kpN, kbN, FN⟩ := NL.ex
    refine ⟨_, pss_cons (ps_set (i := 3) scZero.nd rfl (Or.inl rfl) pe_non)
      (pss_cons (ps_try_keep (i := 4) (c := .ref S) (tb := fun W => tDrop (tCallM (spNthLog K T C) (WE W) 3 [("processors" : Str)].length (fun vs zs => vs ++ zs) (tCons (tVar 0) (tCons (tVar 1) (tCons (tC (.int 0)) tNil))) (tCons (tVar 2) tNil))) (ts := fun _ _ _ => tAsg (tVar 4) (gName 3)) rfl rfl rfl scZero.nd rfl rfl rfl mS (by decide)
          (fun W pn xe tk _ => by
            have q := fun σ => passAt tk σ
            exact pss_one (ps_expr (pe_callM FN hr rfl mN kpN kbN q (pa_cons (pv 0) (pa_cons (pv 1) (pa_cons pe_int pa_nil))) (pk_cons (pv 2) pk_nil))))
          (fun a oe cls d pn _ _ => pss_one (ps_set (i := 3) scZero.nd rfl (Or.inl rfl) (by exact (pv 4)))))
      (pss_one (ps_ret (pe_and (pe_cmpR op_notN (pv 3) pe_non (nomark _)) (pe_one (pe_cmpR (op_eqD hr.units) (pc KI hr (by decide) (pa_cons (pv 3) pa_nil)) (pe_tup (pa_cons pe_str (pa_cons pe_int pa_nil))) (nomark _))))))), ?_⟩
    refine ⟨_, rfl, _, rfl, _, rfl, rfl, rfl, v, js, la, 0, c, rfl, J, Int.le_refl 0, fun h => absurd h (by omega), fun _ dx H2 s2 hx => ?_⟩
    refine ⟨exm, fun a na => ⟨_, rfl, fun na2 => ?_⟩⟩
    have s3 := s2.trans (same_new (o := Xco a (.ref C) (some dx)) na2)
    have hx3 : upd H2 a (Xco a (.ref C) (some dx)) dx = some (.xd [(("number" : Str), .int 0)]) := by
      rw [upd_ne (ne_of_none hx na2)]
      exact hx
    refine ⟨_, rfl, rfl, _, rfl, iteT ?_⟩
    refine ⟨_, rfl, a, dx, _, rfl, upd_same, hx3, fun t H4 s4 ht => ?_⟩
    refine ⟨(by show 2 ≤ sizeLine; decide), fun q nq => ?_⟩
    have s6 := s4.trans (same_new (o := .tup [.str ("number" : Str), .int 0]) nq)
    have d1 : Dp K (upd H4 q (.tup [.str ("number" : Str), .int 0])) (.ref t) (.tuple [.str ("number" : Str), .int 0]) := .tup (SqT.of ((same_new nq).at ht)) (.cons (.str _) (.cons (.int _) .nil))
    have d2 : Dp K (upd H4 q (.tup [.str ("number" : Str), .int 0])) (.ref q) (.tuple [.str ("number" : Str), .int 0]) := .tup (SqT.of upd_same) (.cons (.str _) (.cons (.int _) .nil))
    have sh : SeqAt.shaped (.tuple [.str ("number" : Str), .int 0]) = true := by simp [SeqAt.shaped, PyData.canLay0, PyData.canLayAll0, PyData.depth, PyData.depthAll]; decide +kernel
    have eq : PyData.eqv (.tuple [.str ("number" : Str), .int 0]) (.tuple [.str ("number" : Str), .int 0]) = true := SeqAt.eqv_refl _ (SeqAt.canLay_of_shaped sh)
    refine ⟨_, _, d1, d2, sh, sh, ?_⟩
    show Q (.bl (PyData.eqv _ _)) _
    rw [eq]
    exact k _ (s3.trans s6)
end
end Vk
set_option maxHeartbeats 4000000
namespace Vk
open PySem PySem.Spec PyProof.Rows L2 GxR
theorem run_min (js : List PyData) (u f c : Int) : (if presI js u f < c then presI js u f else c) = runI js u f c := by
  unfold runI
  split <;> split <;> omega
section
variable {P : Program} {w : World} {K : PySem.W.Frag} {mg : Str → Option Value} {base : Heap}
def spPresL (K : PySem.W.Frag) : Sp := fun vs H Q _ => ∃ (v : V) (js : List PyData) (u f : Int), vs = [v, .int u, .int f] ∧ Dp K H v (.tuple js) ∧ js.all jobD = true ∧ js.length ≤ 900 ∧ ∀ H', Same H H' → Q (.int (presI js u f)) H'
theorem scPresL : FnScope ["jobs", "unit", "finished", "here", "name", "arrival", "door"] ["jobs", "unit", "finished"] (defScope sPresentL) := ⟨rfl, rfl, rfl, by decide +kernel, rfl, by decide +kernel, by decide +kernel⟩
theorem ok_presL (D : Df K mg "_law_present" sPresentL ["jobs", "unit", "finished"]) (B : Blt mg) : Cl P w K mg base CX0 1 "_law_present" ["jobs", "unit", "finished"] (spPresL K) := by
  refine cl0 D scPresL (fun vs H Q E h => ?_) (fun f cdv A outer s H vs Q E hr h => ?_)
  · obtain ⟨v, js, u, f, rfl, _⟩ := h
    rfl
  · obtain ⟨v, js, u, fi, rfl, hd, okj, l9, k⟩ := h
    refine ⟨_, pss_cons (ps_set (i := 3) scPresL.nd rfl (Or.inl rfl) pe_int)
      (pss_cons (ps_for PassesOwn.never rfl (pi_tup (pv 0)) (pg_tup rfl (pgs_cons (pg_name (i := 4) scPresL.nd rfl (.inl rfl)) (pgs_cons (pg_name (i := 5) scPresL.nd rfl (.inl rfl)) (pgs_cons (pg_name (i := 6) scPresL.nd rfl (.inl rfl)) pgs_nil))))
        (pss_one (ps_set (i := 3) scPresL.nd rfl (Or.inl rfl) (pe_op op_add (pv 3) (pe_callTy call_int1 (by rfl) B.int (by decide +kernel) (pa_cons (pe_cmpR op_le (pe_ix ix_tup (pv 5) pe_int (fun _ _ => rfl))
          (pe_ix ix_list (pe_lst (pa_cons (pe_op op_sub (pv 1) pe_int) (pa_cons (pv 2) pa_nil))) (pe_callTy call_int1 (by rfl) B.int (by decide +kernel) (pa_cons (pe_cmpR op_eq (pe_ix ix_tup (pv 5) pe_int (fun _ _ => rfl)) pe_str (nomark _)) pa_nil)) (fun _ _ => rfl)) (nomark _)) pa_nil))))))
      (pss_one (ps_ret (pe_op op_sub (pv 3) (pv 2))))), ?_⟩
    obtain ⟨pj, xs, rfl, qj, rj⟩ := dp_tuple hd
    have xl := dps_len rj
    refine ⟨_, rfl, pj, rfl, ⟨_, qj⟩, for_it (walk_tup (K := K) (a := pj) (xs := xs)) (fun i σ G => ∃ (u4 u5 u6 : Option V), σ = [some (.ref pj), some (.int u), some (.int fi), some (.int (((js.take i).map arrD).countP (reachA (u - 1) fi) : Nat)), u4, u5, u6] ∧ Same H G)
      ⟨none, none, none, rfl, Same.refl H⟩ (fun i σ G _ ⟨_, _, _, _, s⟩ => same_seqT s qj) ?_ ?_⟩
    · rintro i y1 σ G0 G hi ⟨u4, u5, u6, rfl, sG⟩ ⟨rfl, hy1⟩
      obtain ⟨d1, hd1, dd1⟩ := dps_getV rj hy1
      obtain ⟨n, kd, t, e, rfl, hn, hk⟩ := job_parts (List.all_eq_true.mp okj d1 (List.mem_of_getElem? hd1))
      obtain ⟨p, x, y, z, rfl, q, dn, da, de⟩ := dp_three (dp_same sG dd1)
      obtain ⟨pa, kv, tv, rfl, qa, dk, dt⟩ := dp_two da
      have ek := dp_str dk
      subst ek
      have et := dp_int dt
      subst et
      have e2 : ((js.take (i + 1)).map arrD).countP (reachA (u - 1) fi) = ((js.take i).map arrD).countP (reachA (u - 1) fi) + (if reachA (u - 1) fi (.tuple [.str kd, .int t]) = true then 1 else 0) := by
        rw [List.take_add_one, hd1]
        show ((js.take i ++ [PyData.tuple [.str n, .tuple [.str kd, .int t], .int e]]).map arrD).countP (reachA (u - 1) fi) = _
        rw [List.map_append, List.countP_append]
        show _ + [PyData.tuple [.str kd, .int t]].countP (reachA (u - 1) fi) = _
        rw [List.countP_singleton]
      have er : reachA (u - 1) fi (.tuple [.str kd, .int t]) = decide (t ≤ if atS "at" (.str kd) = true then u - 1 else fi) := rfl
      refine ⟨p, _, rfl, q, rfl, _, _, rfl, _, _, rfl, _, _, rfl, rfl, ?_⟩
      refine ⟨_, rfl, _, rfl, pa, _, _, _, rfl, rfl, qa, rfl, _, rfl, _, _, rfl, rfl, _, rfl, (by show 2 ≤ sizeLine; decide), fun l nl => ?_⟩
      have sl := same_new (o := .lst [.int (u - 1), .int fi]) nl
      refine ⟨_, rfl, pa, _, _, _, rfl, rfl, same_seqT sl qa, rfl, rfl, .inr ⟨_, rfl, ?_⟩⟩
      have fin : ∀ b : Bool, reachA (u - 1) fi (.tuple [.str kd, .int t]) = b → ((((js.take i).map arrD).countP (reachA (u - 1) fi) : Nat) : Int) + (if b = true then 1 else 0) = ((((js.take (i + 1)).map arrD).countP (reachA (u - 1) fi) : Nat) : Int) := fun b hb => by
        rw [e2, hb]
        cases b <;> simp
      rcases hk with rfl | rfl
      · refine ⟨l, _, _, _, rfl, rfl, SqL.of upd_same, atI_nat (j := 0) rfl, _, _, rfl, rfl, .inr ⟨_, rfl, _, _, rfl, rfl, some x, some (.ref pa), some z, ?_, sG.trans sl⟩⟩
        rw [← fin (decide (t ≤ u - 1)) er]
        rfl
      · refine ⟨l, _, _, _, rfl, rfl, SqL.of upd_same, atI_nat (j := 1) rfl, _, _, rfl, rfl, .inr ⟨_, rfl, _, _, rfl, rfl, some x, some (.ref pa), some z, ?_, sG.trans sl⟩⟩
        rw [← fin (decide (t ≤ fi)) er]
        rfl
    · rintro σ G ⟨u4, u5, u6, rfl, sG⟩
      rw [xl, List.take_length]
      exact ⟨_, rfl, _, rfl, _, _, rfl, rfl, k G sG⟩
def spLogFault (K : PySem.W.Frag) : Sp := fun vs H Q _ => ∃ (v : V) (d : PyData), vs = [v] ∧ Dp K H v d ∧ lenLog d ≤ 50000 ∧ ∀ H', Same H H' → Q (optV (logPlace d)) H'
theorem scLogFault : FnScope ["log", "before", "place", "pair"] ["log"] (defScope sLogFault) := ⟨rfl, rfl, rfl, by decide +kernel, rfl, by decide +kernel, by decide +kernel⟩
theorem ok_logFault (D : Df K mg "_law_log_fault" sLogFault ["log"]) (B : Blt mg) (I : Cl P w K mg base CX0 1 "_law_is_int" ["value", "least"] (spInteger K)) : Cl P w K mg base CX0 2 "_law_log_fault" ["log"] (spLogFault K) := by
  refine cl0 D scLogFault (fun vs H Q E h => ?_) (fun f cdv A outer s H vs Q E hr h => ?_)
  · obtain ⟨v, d, rfl, _⟩ := h
    rfl
  · obtain ⟨v, d, rfl, hd, ld, k⟩ := h
    refine ⟨_, pss_cons (ps_if (pt_not (pt_val (pe_callB call_isi (by rfl) B.isi (by decide +kernel) (pa_cons (pv 0) (pa_cons (pe_bltn (v := .ty "tuple") (u := .type "tuple") (by rfl) B.tuple (by decide +kernel) rfl) pa_nil))))) (pss_one (ps_ret pe_int)) pss_nil)
      (pss_cons (ps_set (i := 1) scLogFault.nd rfl (Or.inl rfl) pe_int)
      (pss_cons (ps_for PassesOwn.never rfl (pi_enumT B.enum (pa_cons (pv 0) pa_nil)) (pg_tup rfl (pgs_cons (pg_name (i := 2) scLogFault.nd rfl (.inl rfl)) (pgs_cons (pg_name (i := 3) scLogFault.nd rfl (.inl rfl)) pgs_nil)))
        (pss_cons (ps_if (PW.pt (pw_or (pt_not (pt_val (pe_callB call_isi (by rfl) B.isi (by decide +kernel) (pa_cons (pv 3) (pa_cons (pe_bltn (v := .ty "tuple") (u := .type "tuple") (by rfl) B.tuple (by decide +kernel) rfl) pa_nil))))) (pw_or1 (pt_cmpR op_ne (pe_callB call_len_seq (by rfl) B.len PySem.boot_len (pa_cons (pv 3) pa_nil)) pe_int (nomark _))))) (pss_one (ps_ret (pv 2))) pss_nil)
        (pss_cons (ps_if (PW.pt (pw_or (pt_not (pt_val (pc I hr (by decide) (pa_cons (pe_ix ix_tup (pv 3) pe_int (fun _ _ => rfl)) (pa_cons (pe_op op_add (pv 1) pe_int) pa_nil)))))
            (pw_or1 (pt_not (pt_val (pc I hr (by decide) (pa_cons (pe_ix ix_tup (pv 3) pe_int (fun _ _ => rfl)) (pa_cons pe_int pa_nil))))))))
          (pss_one (ps_ret (pv 2))) pss_nil)
        (pss_one (ps_set (i := 1) scLogFault.nd rfl (Or.inl rfl) (pe_ix ix_tup (pv 3) pe_int (fun _ _ => rfl)))))))
      (pss_one (ps_ret pe_non)))), ?_⟩
    have fin : ∀ o, logPlace d = o → ∀ H', Same H H' → Q (optV o) H' := fun o e H' s' => by
      have z := k H' s'
      rw [e] at z
      exact z
    refine ⟨_, rfl, v, _, _, _, _, rfl, .ty "tuple", dp_ty hd, kit_tup hd, _, rfl, ?_⟩
    cases htup : isTupD d with
    | false =>
      have e2 : logPlace d = some 0 := by
        cases d with
        | tuple ds => cases htup
        | _ => rfl
      exact iteT (fin (some 0) e2 H (Same.refl H))
    | true =>
      obtain ⟨ds, rfl⟩ : ∃ ds, d = .tuple ds := by
        cases d with
        | tuple ls => exact ⟨ls, rfl⟩
        | _ => cases htup
      obtain ⟨pj, xs, rfl, qj, rj⟩ := dp_tuple hd
      have xl := dps_len rj
      have lp : logPlace (.tuple ds) = match badPair 0 0 ds with
        | some i => some (i : Int)
        | none => none := rfl
      refine iteF ⟨_, rfl, pj, xs, rfl, qj, for_it (walk_enumT (K := K) (a := pj) (xs := xs)) (fun i σ G => ∃ (b : Int) (u2 u3 : Option V), σ = [some (.ref pj), some (.int b), u2, u3] ∧ Same H G ∧ badPair 0 0 ds = badPair b i (ds.drop i))
        ⟨0, none, none, rfl, Same.refl H, rfl⟩ (fun i σ G _ ⟨_, _, _, _, s1, _⟩ => same_seqT s1 qj) ?_ ?_⟩
      · rintro i v1 σ G G2 hi ⟨b, u2, u3, rfl, s1, eb⟩ ⟨TT, x1, y1, rfl, nT, rfl, ex, ey⟩
        cases ex
        obtain ⟨d1, hd1, dp1⟩ := dps_getV rj ey
        have s2 := s1.trans (same_new (o := .tup [V.int (i : Nat), y1]) nT)
        have dr : ds.drop i = d1 :: ds.drop (i + 1) := by
          obtain ⟨h1, h2⟩ := List.getElem?_eq_some_iff.mp hd1
          rw [List.drop_eq_getElem_cons h1, h2]
        rw [dr] at eb
        replace eb : badPair 0 0 ds = match pairD b d1 with
          | some p => badPair p.1 (i + 1) (ds.drop (i + 1))
          | none => some i := eb
        refine ⟨TT, _, rfl, SqT.of upd_same, rfl, _, _, rfl, _, _, rfl, rfl, ?_⟩
        have stop : pairD b d1 = none → ∀ H', Same H H' → Q (.int (i : Int)) H' := fun hp H' s' => fin (some (i : Int)) (by rw [lp, eb, hp]) H' s'
        have dp2 := dp_same s2 dp1
        refine ⟨_, rfl, y1, _, _, _, _, rfl, .ty "tuple", dp_ty dp2, kit_tup dp2, _, rfl, ?_⟩
        cases ht1 : isTupD d1 with
        | false =>
          refine iteT (iteT ⟨_, rfl, stop ?_ _ s2⟩)
          cases d1 with
          | tuple _ => cases ht1
          | _ => rfl
        | true =>
        obtain ⟨es, rfl⟩ : ∃ es, d1 = .tuple es := by
          cases d1 with
          | tuple ls => exact ⟨ls, rfl⟩
          | _ => cases ht1
        refine iteF ?_
        cases ht : tupleND 2 (.tuple es) with
        | false =>
          obtain ⟨pp, zs, rfl, q0, r0⟩ := dp_tuple dp2
          have z : ¬ (es.length : Int) = 2 := of_decide_eq_false ht
          refine ⟨_, rfl, pp, zs, rfl, .inr q0, rfl, _, rfl, ?_⟩
          have e3 : (!decide (V.int (zs.length : Nat) = V.int 2)) = true := by
            rw [decide_eq_false (fun y => z (by rw [← dps_len r0]; exact V.int.inj y))]
            rfl
          rw [e3]
          refine iteT ⟨_, rfl, ?_⟩
          exact stop (pair_not ht) _ s2
        | true =>
          obtain ⟨x, y, e5⟩ := tup_two ht
          cases e5
          obtain ⟨pp, xv, yv, rfl, qp, dx', dy'⟩ := dp_two dp2
          refine ⟨_, rfl, pp, _, rfl, .inr qp, rfl, _, rfl, iteF ?_⟩
          refine ⟨_, rfl, pp, _, _, _, rfl, rfl, qp, rfl, _, rfl, _, _, rfl, rfl, xv, x, b + 1, rfl, dx', _, rfl, ?_⟩
          cases h1 : integerD (b + 1) x with
          | false =>
            refine iteT (iteT ⟨_, rfl, ?_⟩)
            exact stop (pair_fst h1) _ s2
          | true =>
            refine iteF ⟨_, rfl, pp, _, _, _, rfl, rfl, qp, rfl, yv, y, 1, rfl, dy', _, rfl, ?_⟩
            cases h2 : integerD 1 y with
            | false =>
              refine iteT ⟨_, rfl, ?_⟩
              exact stop (pair_snd h2) _ s2
            | true =>
              obtain ⟨u, rfl, hu⟩ := int_of h1
              obtain ⟨f, rfl, hf⟩ := int_of h2
              have exv := dp_int dx'
              subst exv
              refine iteF ⟨_, rfl, pp, _, _, _, rfl, rfl, qp, rfl, u, _, _, rfl, s2, ?_⟩
              rw [eb, show pairD b (.tuple [.int u, .int f]) = some (u, f) from pairD_P (p := (u, f)) hu hf]
      · rintro σ G ⟨b, u2, u3, rfl, s1, eb⟩
        rw [xl, List.drop_length] at eb
        exact fin none (by rw [lp, eb]; rfl) G s1
def spCert (K : PySem.W.Frag) : Sp := fun vs H Q _ => ∃ (v u : V) (js : List PyData) (lg : List (Int × Int)) (c : Int), vs = [v, u, .int c] ∧ Dp K H v (.tuple js) ∧ js.all jobD = true ∧ js.length ≤ 900 ∧ Dp K H u (.tuple (lg.map pairP)) ∧ ∀ v' H', Same H H' → Dp K H' v' (certD js c 0 lg) → Q v' H'
theorem scCert : FnScope ["jobs", "log", "cores", "finished", "unit", "finishes", "many"] ["jobs", "log", "cores"] (defScope sCert) := ⟨rfl, rfl, rfl, by decide +kernel, rfl, by decide +kernel, by decide +kernel⟩
theorem ok_cert (D : Df K mg "_law_certificate" sCert ["jobs", "log", "cores"]) (B : Blt mg) (mn : mg "min" = none) (PL : Cl P w K mg base CX0 1 "_law_present" ["jobs", "unit", "finished"] (spPresL K)) : Cl P w K mg base CX0 2 "_law_certificate" ["jobs", "log", "cores"] (spCert K) := by
  refine cl0 D scCert (fun vs H Q E h => ?_) (fun f cdv A outer s H vs Q E hr h => ?_)
  · obtain ⟨v, u, js, lg, c, rfl, _⟩ := h
    rfl
  · obtain ⟨v, u, js, lg, c, rfl, hd, okj, l9, hu, k⟩ := h
    refine ⟨_, pss_cons (ps_set (i := 3) scCert.nd rfl (Or.inl rfl) pe_int)
      (pss_cons (ps_for PassesOwn.never rfl (pi_tup (pv 1)) (pg_tup rfl (pgs_cons (pg_name (i := 4) scCert.nd rfl (.inl rfl)) (pgs_cons (pg_name (i := 5) scCert.nd rfl (.inl rfl)) pgs_nil)))
        (pss_cons (ps_set (i := 6) scCert.nd rfl (Or.inl rfl) (pe_callB (call_min2 rfl) (by rfl) mn (by decide +kernel) (pa_cons (pv 2) (pa_cons (pc PL hr (by decide) (pa_cons (pv 0) (pa_cons (pv 4) (pa_cons (pv 3) pa_nil)))) pa_nil))))
        (pss_cons (ps_if (pt_cmpR op_gt (pv 5) (pv 6) (nomark _)) (pss_one (ps_ret (pe_tup (pa_cons pe_str (pa_cons (pv 4) (pa_cons (pv 6) pa_nil)))))) pss_nil)
        (pss_one (ps_set (i := 3) scCert.nd rfl (Or.inl rfl) (pe_op op_add (pv 3) (pv 5)))))))
      (pss_cons (ps_if (pt_cmpR op_lt (pv 3) (pe_callB call_len_seq (by rfl) B.len PySem.boot_len (pa_cons (pv 0) pa_nil)) (nomark _))
        (pss_one (ps_ret (pe_tup (pa_cons pe_str (pa_cons (pe_op op_sub (pe_callB call_len_seq (by rfl) B.len PySem.boot_len (pa_cons (pv 0) pa_nil)) (pv 3)) pa_nil))))) pss_nil)
      (pss_one (ps_ret pe_non)))), ?_⟩
    obtain ⟨pl, xs, rfl, ql, rl⟩ := dp_tuple hu
    obtain ⟨pj, ys, rfl, qj, rj⟩ := dp_tuple hd
    have xl := dps_len rl
    have yl := dps_len rj
    rw [List.length_map] at xl
    refine ⟨_, rfl, pl, rfl, ⟨_, ql⟩, for_it (walk_tup (K := K) (a := pl) (xs := xs)) (fun i σ G => ∃ (f : Int) (u4 u5 u6 : Option V), σ = [some (.ref pj), some (.ref pl), some (.int c), some (.int f), u4, u5, u6] ∧ Same H G ∧ certD js c 0 lg = certD js c f (lg.drop i) ∧ f ≤ (js.length : Int))
      ⟨0, none, none, none, rfl, Same.refl H, rfl, by omega⟩ (fun i σ G _ ⟨_, _, _, _, _, s, _⟩ => same_seqT s ql) ?_ ?_⟩
    · rintro i y1 σ G0 G hi ⟨f, u4, u5, u6, rfl, sG, ec, fl⟩ ⟨rfl, hy1⟩
      obtain ⟨d1, hd1, dd1⟩ := dps_getV rl hy1
      rw [List.getElem?_map] at hd1
      obtain ⟨p, hp, rfl⟩ := Option.map_eq_some_iff.mp hd1
      have dr : lg.drop i = p :: lg.drop (i + 1) := by
        obtain ⟨h1, h2⟩ := List.getElem?_eq_some_iff.mp hp
        rw [List.drop_eq_getElem_cons h1, h2]
      rw [dr] at ec
      replace ec : certD js c 0 lg = if runI js p.1 f c < p.2 then .tuple [.str "crowded", .int p.1, .int (runI js p.1 f c)] else certD js c (f + p.2) (lg.drop (i + 1)) := ec
      obtain ⟨pp, xv, yv, rfl, qp, dx, dy⟩ := dp_two (dp_same sG dd1)
      have ex := dp_int dx
      subst ex
      have ey := dp_int dy
      subst ey
      refine ⟨pp, _, rfl, qp, rfl, _, _, rfl, _, _, rfl, rfl, ?_⟩
      refine ⟨_, rfl, _, rfl, _, rfl, _, rfl, .ref pj, js, p.1, f, rfl, dp_same sG hd, okj, l9, fun G1 s3 => ?_⟩
      have sG1 := sG.trans s3
      refine ⟨_, _, rfl, ?_⟩
      rw [run_min]
      refine ⟨_, rfl, _, rfl, _, _, rfl, rfl, _, rfl, ?_⟩
      by_cases hc : runI js p.1 f c < p.2
      · rw [decide_eq_true (show p.2 > runI js p.1 f c from hc)]
        rw [if_pos hc] at ec
        refine iteT ⟨_, rfl, _, rfl, (by show 3 ≤ sizeLine; decide), fun t nt => ?_⟩
        refine k _ _ (sG1.trans (same_new nt)) ?_
        rw [ec]
        exact .tup (SqT.of upd_same) (.cons (.str _) (.cons (.int _) (.cons (.int _) .nil)))
      · rw [decide_eq_false (show ¬ p.2 > runI js p.1 f c from hc)]
        rw [if_neg hc] at ec
        have h1 := run_le (js := js) (u := p.1) (f := f) (c := c)
        have h2 := count_le js (p.1 - 1) f
        have h3 : presI js p.1 f = (countA js (p.1 - 1) f : Int) - f := rfl
        exact iteF ⟨_, rfl, _, rfl, _, _, rfl, rfl, f + p.2, _, _, _, rfl, sG1, ec, by omega⟩
    · rintro σ G ⟨f, u4, u5, u6, rfl, sG, ec, fl⟩
      rw [xl, List.drop_length] at ec
      replace ec : certD js c 0 lg = if f = (js.length : Int) then .none else .tuple [.str "unfinished", .int ((js.length : Int) - f)] := ec
      refine ⟨_, rfl, _, rfl, pj, ys, rfl, .inr (same_seqT sG qj), _, _, rfl, rfl, _, rfl, ?_⟩
      rw [yl]
      by_cases hf : f = (js.length : Int)
      · rw [decide_eq_false (show ¬ f < ((js.length : Nat) : Int) by omega)]
        rw [if_pos hf] at ec
        refine iteF (k _ _ sG ?_)
        rw [ec]
        exact .non
      · rw [decide_eq_true (show f < ((js.length : Nat) : Int) by omega)]
        rw [if_neg hf] at ec
        refine iteT ⟨_, rfl, pj, ys, rfl, .inr (same_seqT sG qj), _, rfl, _, _, rfl, rfl, (by show 2 ≤ sizeLine; decide), fun t nt => ?_⟩
        refine k _ _ (sG.trans (same_new nt)) ?_
        rw [ec, yl]
        exact .tup (SqT.of upd_same) (.cons (.str _) (.cons (.int _) .nil))
end
end Vk
set_option maxHeartbeats 8000000
namespace Vk
open PySem PySem.Spec PyProof.Rows L2 GxR
theorem atI_three {x0 x1 x2 : V} {r : Int} (h0 : 0 ≤ r) (h4 : r < 3) : ∃ x, atI [x0, x1, x2] r = some x ∧ (x = x0 ∨ x = x1 ∨ x = x2) := by
  have z : r = 0 ∨ r = 1 ∨ r = 2 := by omega
  rcases z with rfl | rfl | rfl
  · exact ⟨_, rfl, .inl rfl⟩
  · exact ⟨_, rfl, .inr (.inl rfl)⟩
  · exact ⟨_, rfl, .inr (.inr rfl)⟩
theorem arr_parts {a : PyData} (h : arrivalD a = true) : ∃ (k : Str) (t : Int), a = .tuple [.str k, .int t] ∧ (k = "at" ∨ k = "after") := by
  have hj : jobD (.tuple [.str "a", a, .int 0]) = true := by
    show (nameD (.str "a") && (arrivalD a && (integerD 0 (.int 0) && le9 (.int 0)))) = true
    rw [h]
    decide +kernel
  obtain ⟨n, k, t, e, e1, _, hk⟩ := job_parts hj
  cases e1
  exact ⟨k, t, rfl, hk⟩
theorem arr_at {i : Int} (h : 0 ≤ i) : arrivalD (.tuple [.str "at", .int i]) = true := by
  show (if atS "at" (.str "at") = true then integerD 0 (.int i) else (atS "after" (.str "at") && integerD 1 (.int i))) = true
  rw [if_pos (by decide +kernel)]
  exact decide_eq_true h
theorem arr_after {i : Int} (h : 1 ≤ i) : arrivalD (.tuple [.str "after", .int i]) = true := by
  show (if atS "at" (.str "after") = true then integerD 0 (.int i) else (atS "after" (.str "after") && integerD 1 (.int i))) = true
  rw [if_neg (by decide +kernel), show atS "after" (.str "after") = true from by decide +kernel, Bool.true_and]
  exact decide_eq_true h
theorem dps_set {K : PySem.W.Frag} {H : Hp} {v : V} {d : PyData} (hv : Dp K H v d) : ∀ {vs : List V} {ds : List PyData} (j : Nat), DpAll K H vs ds → DpAll K H (vs.set j v) (ds.set j d)
  | _, _, _, .nil => .nil
  | _, _, 0, .cons x r => .cons hv r
  | _, _, j + 1, .cons x r => .cons x (dps_set hv j r)
theorem ixN_nat {n j : Nat} (h : j < n) : ixN n ((0 : Int) + (j : Nat)) = some j := by
  rw [Int.zero_add]
  unfold ixN
  rw [if_pos (by omega), if_pos (by omega)]
  rfl
/-- a number that can be written -/
def bnd (d : PyData) : Prop := ∀ (k : PyData) (t : Int), d = .tuple [k, .int t] → t ≤ 10 ^ 30
theorem bnd_of {k : Str} {i : Int} (h : i ≤ 1000000) : bnd (.tuple [.str k, .int i]) := fun _ _ e => by
  cases e
  have z : (1000000 : Int) ≤ 10 ^ 30 := by decide
  omega
/-- who comes behind so many finishes comes -/
def OkA (ds : List PyData) (j : Nat) : Prop := ∀ m < j, ∀ (k : Str) (t : Int), ds[m]? = some (.tuple [.str k, .int t]) → k = "at" ∨ t ≤ (ds.countP (befA t) : Nat)
theorem OkA.next {ds : List PyData} {i : Nat} {k : Str} {t : Int} (o : OkA ds i) (h : ds[i]? = some (.tuple [.str k, .int t])) (ok : k = "at" ∨ t ≤ (ds.countP (befA t) : Nat)) : OkA ds (i + 1) := fun m hm k' t' h' => by
  by_cases e : m = i
  · subst e
    rw [h] at h'
    cases h'
    exact ok
  · exact o m (by omega) k' t' h'
theorem cnt_set {p : PyData → Bool} {b : PyData} (hb : p b = true) : ∀ (ds : List PyData) (i : Nat), ds.countP p ≤ (ds.set i b).countP p
  | [], _ => Nat.le_refl _
  | x :: ds, 0 => by
    rw [List.set_cons_zero, List.countP_cons, List.countP_cons, if_pos hb]
    split <;> omega
  | x :: ds, i + 1 => by
    rw [List.set_cons_succ, List.countP_cons, List.countP_cons]
    have z := cnt_set hb ds i
    omega
theorem OkA.put {ds : List PyData} {i : Nat} {r : Int} (o : OkA ds i) (hi : i < ds.length) : OkA (ds.set i (.tuple [.str "at", .int r])) (i + 1) := fun m hm k t h => by
  by_cases e : m = i
  · subst e
    rw [List.getElem?_set_self hi] at h
    cases h
    exact .inl rfl
  · rw [List.getElem?_set_ne (fun z => e z.symm)] at h
    rcases o m (by omega) k t h with z | z
    · exact .inl z
    · refine .inr (Int.le_trans z ?_)
      have q := cnt_set (p := befA t) (b := .tuple [.str "at", .int r]) rfl ds i
      omega
theorem not_before {α : Type} : ∀ {l : List α} {j : Nat} {x : α}, l.Nodup → l[j]? = some x → x ∉ l.take j
  | [], _, _, _, h => by cases h
  | y :: l, 0, x, _, _ => by simp
  | y :: l, j + 1, x, nd, h => by
    obtain ⟨n1, n2⟩ := List.nodup_cons.mp nd
    rw [List.getElem?_cons_succ] at h
    rw [List.take_succ_cons, List.mem_cons]
    rintro (e | e)
    · subst e
      exact n1 (List.mem_of_getElem? h)
    · exact not_before n2 h e
/-- jobs without a fault -/
theorem place_none {es : List PyData} (ok : ∀ e ∈ es, jobD e = true) (nd : (es.map nameOf).Nodup) (w : ∀ (k : Str) (t : Int), .tuple [.str k, .int t] ∈ es.map arrD → k = "at" ∨ t ≤ ((es.map arrD).countP (befA t) : Nat)) : jobsPlace (.tuple es) = none := by
  have h1 : eachPlace es = none := find_no fun j hj => by
    unfold badAt
    rw [List.getElem?_eq_getElem hj]
    show (!jobD es[j] || ((es.take j).map nameOf).any (fun y => y == nameOf es[j])) = false
    rw [ok _ (List.getElem_mem hj)]
    refine Bool.eq_false_iff.mpr fun z => ?_
    obtain ⟨y, hy, e⟩ := List.any_eq_true.mp (show ((es.take j).map nameOf).any (fun y => y == nameOf es[j]) = true from z)
    rw [eq_of_beq e, List.map_take] at hy
    exact not_before nd (by rw [List.getElem?_map, List.getElem?_eq_getElem hj]; rfl) hy
  have h2 : waitPlace es = none := find_no fun j hj => by
    unfold waitAt
    rw [List.getElem?_eq_getElem hj]
    have hm := List.getElem_mem hj
    show waitsD es es[j] = false
    obtain ⟨n, k, t, e, e1, _, hk⟩ := job_parts (ok _ hm)
    have ha : PyData.tuple [.str k, .int t] ∈ es.map arrD := List.mem_map.mpr ⟨es[j], hm, by rw [e1]; rfl⟩
    rw [e1, waits_kind hk]
    rcases w k t ha with z | z
    · rw [z]
      rfl
    · rw [decide_eq_false (Int.not_lt.mpr z), Bool.and_false]
  show (match eachPlace es with
    | some i => some (i : Int)
    | none => match waitPlace es with
      | some i => some (i : Int)
      | none => none) = none
  rw [h1, h2]
/-- different names, nobody waits forever -/
def Fine (es : List PyData) : Prop := (es.map nameOf).Nodup ∧ ∀ (k : Str) (t : Int), .tuple [.str k, .int t] ∈ es.map arrD → k = "at" ∨ t ≤ ((es.map arrD).countP (befA t) : Nat)
section
variable {P : Program} {w : World} {K : PySem.W.Frag} {mg : Str → Option Value} {base : Heap}
def JW (K : PySem.W.Frag) (sc a l : Addr) (N : Int) (H : Hp) (len : Nat) (Pz : List PyData → Prop) (G : Hp) : Prop := ∃ (xs : List V) (ds : List PyData), Sto sc a N G ∧ Same (Off l (Off a H)) (Off l (Off a G)) ∧ G l = some (.lst xs) ∧ DpAll K (Off l (Off a G)) xs ds ∧ ds.length = len ∧ (∀ d ∈ ds, arrivalD d = true) ∧ Pz ds
theorem JW.ok0 {K : PySem.W.Frag} {sc a l : Addr} {N : Int} {H G : Hp} {len : Nat} (h : JW K sc a l N H len (fun ds => ∀ d ∈ ds, bnd d) G) : JW K sc a l N H len (fun ds => OkA ds 0 ∧ ∀ d ∈ ds, bnd d) G := by
  obtain ⟨xs, ds, h1, h2, h3, h4, h5, h6, b⟩ := h
  exact ⟨xs, ds, h1, h2, h3, h4, h5, h6, fun m hm => absurd hm (Nat.not_lt_zero _), b⟩
def spJobs (K : PySem.W.Frag) : Sp := fun vs H Q _ => ∃ (a sc : Addr) (n mo la : Int), vs = [.ref a, .int mo, .int la] ∧ Sto sc a n H ∧ n ≤ 800000 ∧ 0 ≤ mo ∧ mo ≤ 12 ∧ 0 ≤ la ∧ la ≤ 1000000 ∧
  ∀ (v : V) (js : List PyData) (H' : Hp), Sto sc a (n + 1000) H' → Kept a H H' → Dp K (Off a H') v (.tuple js) → js.all jobD = true → js.length ≤ 12 → Fine js → (∀ a ∈ js.map arrD, bnd a) → Q v H'
theorem scJobs : FnScope ["store", "most", "late", "count", "arrivals", "k", "at", "kind", "number", "earlier", "jobs", "name", "door", "one"] ["store", "most", "late"] (defScope sJobs) := ⟨rfl, rfl, rfl, by decide +kernel, rfl, by decide +kernel, by decide +kernel⟩
theorem ok_jobs (D : Df K mg "_law_jobs" sJobs ["store", "most", "late"]) (B : Blt mg) (PK : Cl P w K mg base CX0 2 "_law_pick" ["store", "count"] spPick) (NM : Cl P w K mg base CX0 3 "_law_names" ["store", "count"] spNames)
    (BF : Cl P w K mg base CX0 1 "_law_before" ["arrival", "finishes"] (spBefore K)) : Cl P w K mg base CX0 4 "_law_jobs" ["store", "most", "late"] (spJobs K) := by
  refine cl0 D scJobs (fun vs H Q E h => ?_) (fun f cdv A outer s H vs Q E hr h => ?_)
  · obtain ⟨a, sc, n, mo, la, rfl, _⟩ := h
    rfl
  · obtain ⟨a, sc, n, mo, la, rfl, S, n1, m0, m12, l0, l1000, k⟩ := h
    refine ⟨_, pss_cons (ps_set (i := 3) scJobs.nd rfl (Or.inl rfl) (pc PK hr (by decide) (pa_cons (pv 0) (pa_cons (pe_op op_add (pv 1) pe_int) pa_nil))))
      (pss_cons (ps_set (i := 4) scJobs.nd rfl (Or.inl rfl) (pe_lst pa_nil))
      (pss_cons (ps_for PassesOwn.never rfl (pi_range1 rfl B.range (pa_cons (pv 3) pa_nil)) (pg_name (i := 5) scJobs.nd rfl (Or.inl rfl))
        (pss_cons (ps_set (i := 6) scJobs.nd rfl (Or.inl rfl) (pe_ix ix_list (pe_lst (pa_cons pe_int (pa_cons (pc PK hr (by decide) (pa_cons (pv 0) (pa_cons pe_int pa_nil))) (pa_cons (pc PK hr (by decide) (pa_cons (pv 0) (pa_cons (pe_op op_add (pv 2) pe_int) pa_nil))) pa_nil)))) (pc PK hr (by decide) (pa_cons (pv 0) (pa_cons pe_int pa_nil))) (fun _ _ => rfl)))
        (pss_one (ps_expr (pe_bm PySem.F.plainAttrs_list PySem.F.slot_list_append PySem.F.type_list_append mt_append (pv 4)
          (pa_cons (pe_ix ix_list (pe_lst (pa_cons (pe_tup (pa_cons pe_str (pa_cons (pv 6) pa_nil))) (pa_cons (pe_tup (pa_cons pe_str (pa_cons (pv 6) pa_nil))) (pa_cons (pe_tup (pa_cons pe_str (pa_cons (pe_op op_add pe_int (pc PK hr (by decide) (pa_cons (pv 0) (pa_cons (pv 3) pa_nil)))) pa_nil))) pa_nil)))) (pc PK hr (by decide) (pa_cons (pv 0) (pa_cons pe_int pa_nil))) (fun _ _ => rfl)) pa_nil))))))
      (pss_cons (ps_for PassesOwn.never rfl (pi_range1 rfl B.range (pa_cons (pv 3) pa_nil)) (pg_name (i := 5) scJobs.nd rfl (Or.inl rfl))
        (pss_cons (ps_asg (pe_ix ix_list (pv 4) (pv 5) (fun _ _ => rfl)) (pg_tup rfl (pgs_cons (pg_name (i := 7) scJobs.nd rfl (.inl rfl)) (pgs_cons (pg_name (i := 8) scJobs.nd rfl (.inr rfl)) pgs_nil))))
        (pss_cons (ps_setLc (i := 9) (own := [("one", 13)]) (g := gName 13) (tt := tB (tCal (spBefore K) (tCons (tVar 13) (tCons (tVar 8) tNil)))) (te := tVar 13) rfl scJobs.nd rfl rfl (sw_true rfl rfl rfl (by decide +kernel)) (pi_list (pv 4)) (blkOk_by (own := [("one", 13)]) (N := ["store", "most", "late", "count", "arrivals", "k", "at", "kind", "number", "earlier", "jobs", "name", "door", "one"]) (sc := defScope sJobs) (by decide +kernel))
          (fun _ _ _ _ _ => pg_name (i := 13) scJobs.nd rfl (Or.inl rfl)) (fun _ _ _ _ _ => pts_one (pt_val (pc BF hr (by decide) (pa_cons (pv 13) (pa_cons (pv 8) pa_nil))))) (fun _ _ _ _ _ => pv 13))
        (pss_one (ps_if (PW.pt (pw_and (pt_cmpR op_eq (pv 7) pe_str (nomark _)) (pw_and1 (pt_cmpR op_lt (pe_callB call_len_seq (by rfl) B.len PySem.boot_len (pa_cons (pv 9) pa_nil)) (pv 8) (nomark _)))))
          (pss_one (ps_asg (pe_tup (pa_cons pe_str (pa_cons (pc PK hr (by decide) (pa_cons (pv 0) (pa_cons (pe_op op_add (pv 2) pe_int) pa_nil))) pa_nil))) (pg_sub (pv 4) (pv 5) set_list))) pss_nil)))))
      (pss_cons (ps_set (i := 10) scJobs.nd rfl (Or.inl rfl) (pe_lst pa_nil))
      (pss_cons (ps_for PassesOwn.never rfl (pi_list (pc NM hr (by decide) (pa_cons (pv 0) (pa_cons (pv 3) pa_nil)))) (pg_name (i := 11) scJobs.nd rfl (Or.inl rfl))
        (pss_cons (ps_set (i := 12) scJobs.nd rfl (Or.inl rfl) (pe_ix ix_list (pe_lst (pa_cons pe_int (pa_cons pe_int (pa_cons (pc PK hr (by decide) (pa_cons (pv 0) (pa_cons pe_int pa_nil))) pa_nil)))) (pc PK hr (by decide) (pa_cons (pv 0) (pa_cons pe_int pa_nil))) (fun _ _ => rfl)))
        (pss_one (ps_expr (pe_bm PySem.F.plainAttrs_list PySem.F.slot_list_append PySem.F.type_list_append mt_append (pv 10)
          (pa_cons (pe_tup (pa_cons (pv 11) (pa_cons (pe_ix ix_list (pv 4) (pe_callB call_len_seq (by rfl) B.len PySem.boot_len (pa_cons (pv 10) pa_nil)) (fun _ _ => rfl)) (pa_cons (pv 12) pa_nil)))) pa_nil))))))
      (pss_one (ps_ret (pe_callTy call_tuple_of (by rfl) B.tuple (by decide +kernel) (pa_cons (pv 10) pa_nil))))))))), ?_⟩
    -- count
    refine ⟨_, rfl, _, rfl, _, _, rfl, rfl, a, sc, mo + 1, n, rfl, by omega, by omega, S, by omega, fun c H1 c0 c1 S1 K1 => ?_⟩
    refine ⟨(by show 0 ≤ sizeLine; decide), fun l nl => ?_⟩
    have la_ : l ≠ a := S1.ne nl
    have lsc : l ≠ sc := S1.ne2 nl
    have S2 := S1.same (same_new (o := .lst []) nl)
    have far : ∀ {G : Hp} {t : Addr} {k : Str} {i : Int}, G t = some (.tup [.str k, .int i]) → t ≠ l → t ≠ a → Dp K (Off l (Off a G)) (.ref t) (.tuple [.str k, .int i]) := fun h1 h2 h3 =>
      .tup (SqT.of (by rw [off_ne h2, off_ne h3, h1])) (.cons (.str _) (.cons (.int _) .nil))
    -- the first loop
    refine ⟨_, rfl, c, rfl, by omega, by omega, ?_⟩
    refine for_range (lo := 0) (n := c.toNat) (fun i σ G => ∃ (u5 u6 : Option V), σ = [some (.ref a), some (.int mo), some (.int la), some (.int c), some (.ref l), u5, u6, none, none, none, none, none, none, none] ∧ JW K sc a l (n + 1 + 5 * i) H1 i (fun ds => ∀ d ∈ ds, bnd d) G)
      ⟨none, none, rfl, [], [], S2.more (by omega), off_mono (off_mono (same_new nl)), upd_same, .nil, rfl, (fun d hd => absurd hd (by simp)), (fun d hd => absurd hd (by simp))⟩ ?_ ?_
    · rintro i σ G hi ⟨u5, u6, rfl, xs, ds, SG, KG, lG, dG, ld, okd, bd⟩
      have xl := dps_len dG
      refine ⟨_, rfl, a, sc, 4, _, rfl, by decide, by decide, SG, by omega, fun x G1 x0 x4 SG1 KG1 => ?_⟩
      refine ⟨_, rfl, _, rfl, _, _, rfl, rfl, a, sc, la + 1, _, rfl, by omega, by omega, SG1, by omega, fun y G2 y0 y4 SG2 KG2 => ?_⟩
      refine ⟨(by show 3 ≤ sizeLine; decide), fun q nq => ?_⟩
      have sq := same_new (o := .lst [.int 0, .int x, .int y]) nq
      have qa := SG2.ne nq
      refine ⟨_, rfl, a, sc, 3, _, rfl, by decide, by decide, SG2.same sq, by omega, fun z G3 z0 z3 SG3 KG3 => ?_⟩
      obtain ⟨av, hav, vav⟩ := atI_three (x0 := .int 0) (x1 := .int x) (x2 := .int y) z0 z3
      refine ⟨q, _, _, av, rfl, rfl, SqL.of (KG3.at upd_same qa), hav, ?_⟩
      obtain ⟨ai, ai0, ai1, rfl⟩ : ∃ ai : Int, 0 ≤ ai ∧ ai ≤ 1000000 ∧ av = .int ai := by
        rcases vav with rfl | rfl | rfl
        · exact ⟨_, by decide, by decide, rfl⟩
        · exact ⟨_, x0, by omega, rfl⟩
        · exact ⟨_, y0, by omega, rfl⟩
      have KA : Kept a G G3 := ((KG1.trans KG2).trans (kept_same sq)).trans KG3
      have lG3 := KA.at lG la_
      -- arrivals.append
      refine ⟨_, rfl, .inl ⟨rfl, _, SqL.of lG3⟩, ?_⟩
      refine ⟨_, rfl, (by show 2 ≤ sizeLine; decide), fun t1 m1 => ?_⟩
      have g1 := same_new (o := .tup [.str ("at" : Str), .int ai]) m1
      refine ⟨_, rfl, (by show 2 ≤ sizeLine; decide), fun t2 m2 => ?_⟩
      have g2 := same_new (o := .tup [.str ("at" : Str), .int ai]) m2
      have SG4 := (SG3.same g1).same g2
      have t1a := SG3.ne m1
      have t2a := (SG3.same g1).ne m2
      refine ⟨_, rfl, _, rfl, a, sc, c, _, rfl, by omega, by omega, SG4, by omega, fun r G4 r0 rc SG5 KG4 => ?_⟩
      refine ⟨_, _, rfl, rfl, (by show 2 ≤ sizeLine; decide), fun t3 m3 => ?_⟩
      have g3 := same_new (o := .tup [.str ("after" : Str), .int (1 + r)]) m3
      have t3a := SG5.ne m3
      refine ⟨(by show 3 ≤ sizeLine; decide), fun q2 nq2 => ?_⟩
      have g4 := same_new (o := .lst [.ref t1, .ref t2, .ref t3]) nq2
      have q2a := (SG5.same g3).ne nq2
      refine ⟨_, rfl, a, sc, 3, _, rfl, by decide, by decide, (SG5.same g3).same g4, by omega, fun e G5 e0 e3 SG6 KG5 => ?_⟩
      obtain ⟨ev, hev, vev⟩ := atI_three (x0 := .ref t1) (x1 := .ref t2) (x2 := .ref t3) e0 e3
      refine ⟨q2, _, _, ev, rfl, rfl, SqL.of (KG5.at upd_same q2a), hev, ?_⟩
      have K45 : Kept a G4 G5 := (kept_same (g3.trans g4)).trans KG5
      have K35 : Kept a G3 G5 := ((kept_same (g1.trans g2)).trans KG4).trans K45
      have KB : Kept a G G5 := KA.trans K35
      have lG5 := KB.at lG la_
      have b1 : G5 t1 = some (.tup [.str ("at" : Str), .int ai]) := K45.at (KG4.at (g2.at upd_same) t1a) t1a
      have b2 : G5 t2 = some (.tup [.str ("at" : Str), .int ai]) := K45.at (KG4.at upd_same t2a) t2a
      have b3 : G5 t3 = some (.tup [.str ("after" : Str), .int (1 + r)]) := KG5.at (g4.at upd_same) t3a
      have tl1 : t1 ≠ l := fun e => by rw [e, lG3] at m1; cases m1
      have tl2 : t2 ≠ l := fun e => by rw [e, g1.at lG3] at m2; cases m2
      have tl3 : t3 ≠ l := fun e => by rw [e, KG4.at ((g1.trans g2).at lG3) la_] at m3; cases m3
      obtain ⟨ed, ded, oked, bed⟩ : ∃ ed, Dp K (Off l (Off a G5)) ev ed ∧ arrivalD ed = true ∧ bnd ed := by
        rcases vev with rfl | rfl | rfl
        · exact ⟨_, far b1 tl1 t1a, arr_at ai0, bnd_of ai1⟩
        · exact ⟨_, far b2 tl2 t2a, arr_at ai0, bnd_of ai1⟩
        · exact ⟨_, far b3 tl3 t3a, arr_after (by omega), bnd_of (by omega)⟩
      have offs : Off l (Off a (upd G5 l (.lst (xs ++ [ev])))) = Off l (Off a G5) := by rw [off_other la_, off_upd]
      refine ⟨l, _, _, rfl, rfl, lG5, by rw [xl, ld]; exact Nat.lt_of_lt_of_le (show i < 13 by omega) (by decide), _, _, rfl, xs ++ [ev], ds ++ [ed], (SG6.other la_ lsc).more (by omega), ?_, upd_same, ?_, by rw [List.length_append, ld]; rfl, ?_, ?_⟩
      · rw [offs]
        exact KG.trans (off_mono KB)
      · rw [offs]
        exact dps_app (dps_same (off_mono KB) dG) (.cons ded .nil)
      · intro d hd
        rcases List.mem_append.mp hd with hd | hd
        · exact okd d hd
        · rw [List.mem_singleton.mp hd]
          exact oked
      · intro d hd
        rcases List.mem_append.mp hd with hd | hd
        · exact bd d hd
        · rw [List.mem_singleton.mp hd]
          exact bed
    rintro σ G ⟨u5, u6, rfl, JG⟩
    -- the second loop
    refine ⟨_, rfl, c, rfl, by omega, by omega, ?_⟩
    refine for_range (lo := 0) (n := c.toNat) (fun i σ G => ∃ (u5 u6 u7 u8 u9 : Option V), σ = [some (.ref a), some (.int mo), some (.int la), some (.int c), some (.ref l), u5, u6, u7, u8, u9, none, none, none, none] ∧ JW K sc a l (n + 1 + 5 * c.toNat + i) H1 c.toNat (fun ds => OkA ds i ∧ ∀ d ∈ ds, bnd d) G)
      ⟨_, _, _, _, _, rfl, by rw [show n + 1 + 5 * (c.toNat : Int) + ((0 : Nat) : Int) = n + 1 + 5 * c.toNat by omega]; exact JG.ok0⟩ ?_ ?_
    · rintro i σ G hi ⟨u5, u6, u7, u8, u9, rfl, xs, ds, SG, KG, lG, dG, ld, okd, okA, bd⟩
      have xl := dps_len dG
      have hxi : xs[i]? = some xs[i] := List.getElem?_eq_getElem (by omega)
      obtain ⟨d, hd, dd⟩ := dps_getV dG hxi
      generalize xs[i] = v at hxi dd
      obtain ⟨kd, t, rfl, hkd⟩ := arr_parts (okd d (List.mem_of_getElem? hd))
      obtain ⟨pa, kv, tv, rfl, qa, dk, dt⟩ := dp_two dd
      have ek := dp_str dk
      subst ek
      have et := dp_int dt
      subst et
      have sub : Same (Off l (Off a G)) G := (off_sub l (Off a G)).trans (off_sub a G)
      have hat : atI xs ((0 : Int) + (i : Nat)) = some (.ref pa) := by
        rw [Int.zero_add]
        exact atI_nat hxi
      refine ⟨_, rfl, _, rfl, l, xs, _, _, rfl, rfl, SqL.of lG, hat, pa, _, rfl, same_seqT sub qa, rfl, _, _, rfl, _, _, rfl, rfl, ?_⟩
      -- earlier
      refine ⟨_, rfl, l, rfl, ⟨_, SqL.of lG⟩, fun D2 nD2 => ?_⟩
      refine lc_it (walk_list (K := K) (a := l) (xs := xs)) (fun m Hd => ∃ ac2, Same G Hd ∧ Hd D2 = some (.lst ac2) ∧ ac2.length = (ds.take m).countP (befA t))
        ⟨[], same_new nD2, upd_same, rfl⟩ (fun m Hd _ ⟨ac2, s9, _⟩ => SqL.of (s9.at lG)) ?_ ?_
      · rintro m y2 Hd0 Hd hm ⟨ac2, s9, hD2, lc2⟩ ⟨rfl, hy2⟩
        obtain ⟨d2, hd2, dp2⟩ := dps_getV dG hy2
        obtain ⟨k2, t2, rfl, _⟩ := arr_parts (okd d2 (List.mem_of_getElem? hd2))
        refine ⟨rfl, _, rfl, _, rfl, y2, k2, t2, t, rfl, dp_same (sub.trans s9) dp2, ⟨_, rfl, ?_⟩⟩
        have e2 : (ds.take (m + 1)).countP (befA t) = (ds.take m).countP (befA t) + (if befA t (.tuple [.str k2, .int t2]) = true then 1 else 0) := by
          rw [List.take_add_one, hd2]
          show (ds.take m ++ [PyData.tuple [.str k2, .int t2]]).countP (befA t) = _
          rw [List.countP_append, List.countP_singleton]
        have small : ac2.length ≤ 13 := by
          have z : (ds.take m).countP (befA t) ≤ (ds.take m).length := List.countP_le_length
          rw [List.length_take] at z
          omega
        cases hb : (decide (k2 = "at") || decide (t2 < t)) with
        | true =>
          refine iteT ⟨_, rfl, ac2, hD2, Nat.lt_of_le_of_lt small (by decide), ac2 ++ [_], same_put s9 nD2, upd_same, ?_⟩
          rw [e2, if_pos (show befA t (.tuple [.str k2, .int t2]) = true from hb), List.length_append, List.length_singleton, lc2]
        | false =>
          refine iteF ⟨ac2, s9, hD2, ?_⟩
          rw [e2, if_neg (by rw [show befA t (.tuple [.str k2, .int t2]) = false from hb]; exact Bool.false_ne_true), lc2]
          rfl
      rintro Hd ⟨ac2, s9, hD2, lc2⟩
      rw [List.take_of_length_le (by omega)] at lc2
      have next : (kd = "at" ∨ t ≤ (ds.countP (befA t) : Nat)) → JW K sc a l (n + 1 + 5 * c.toNat + ((i + 1 : Nat) : Int)) H1 c.toNat (fun ds => OkA ds (i + 1) ∧ ∀ d ∈ ds, bnd d) Hd := fun hok =>
        ⟨xs, ds, (SG.same s9).more (by omega), KG.trans (off_mono (off_mono s9)), s9.at lG, dps_same (off_mono (off_mono s9)) dG, ld, okd, okA.next hd hok, bd⟩
      refine ⟨_, rfl, rfl, _, rfl, ?_⟩
      refine ite2 (fun _ => ?_) (fun hz => iteF ⟨_, _, _, _, _, rfl, next (.inl (hkd.resolve_right fun e => hz (by rw [e]; rfl)))⟩)
      refine ⟨_, rfl, D2, ac2, rfl, .inl (SqL.of hD2), _, rfl, _, _, rfl, rfl, _, rfl, ?_⟩
      refine ite2 (fun _ => ?_) (fun hz => ⟨_, _, _, _, _, rfl, next (.inr (by rw [← lc2]; exact Int.not_lt.mp fun e => hz (decide_eq_true e)))⟩)
      refine ⟨_, rfl, _, rfl, _, _, rfl, rfl, a, sc, la + 1, _, rfl, by omega, by omega, SG.same s9, by omega, fun r G2 r0 r1 SG2 KG2 => ?_⟩
      refine ⟨(by show 2 ≤ sizeLine; decide), fun q nq => ?_⟩
      have lG2 := KG2.at (s9.at lG) la_
      have sq := same_new (o := .tup [.str ("at" : Str), .int r]) nq
      have qa := SG2.ne nq
      have ql : q ≠ l := fun e => by rw [e, lG2] at nq; cases nq
      have KA : Kept a G (upd G2 q (.tup [.str ("at" : Str), .int r])) := ((kept_same s9).trans KG2).trans (kept_same sq)
      have offs : Off l (Off a (upd (upd G2 q (.tup [.str ("at" : Str), .int r])) l (.lst (xs.set i (.ref q))))) = Off l (Off a (upd G2 q (.tup [.str ("at" : Str), .int r]))) := by rw [off_other la_, off_upd]
      refine ⟨_, rfl, _, rfl, l, xs, _, i, rfl, rfl, sq.at lG2, ixN_nat (by omega), _, _, _, _, _, rfl, xs.set i (.ref q), ds.set i (.tuple [.str "at", .int r]), ((SG2.same sq).other la_ lsc).more (by omega), ?_, upd_same, ?_, by rw [List.length_set, ld], ?_, okA.put (by omega), ?_⟩
      · rw [offs]
        exact KG.trans (off_mono KA)
      · rw [offs]
        exact dps_set (far upd_same ql qa) i (dps_same (off_mono KA) dG)
      · intro d hd
        rcases List.mem_or_eq_of_mem_set hd with hd | rfl
        · exact okd d hd
        · exact arr_at r0
      · intro d hd
        rcases List.mem_or_eq_of_mem_set hd with hd | rfl
        · exact bd d hd
        · exact bnd_of (by omega)
    rintro σ Gp ⟨u5, u6, u7, u8, u9, rfl, xs, ds, SG, KG, lG, dG, ld, okd, okA, bd⟩
    have xl := dps_len dG
    -- jobs, names
    refine ⟨(by show 0 ≤ sizeLine; decide), fun lj nlj => ?_⟩
    have sj := same_new (o := .lst []) nlj
    have lja := SG.ne nlj
    have ljsc := SG.ne2 nlj
    refine ⟨_, rfl, _, rfl, a, sc, _, c, rfl, SG.same sj, by omega, c0, by omega, fun ln ws G5 nln lna S5 K5 hln lws okws ndw => ?_⟩
    have lnj : ln ≠ lj := fun e => by rw [e, upd_same] at nln; cases nln
    have lj5 := K5.at (o := .lst []) upd_same lja
    have KP5 : Kept a Gp G5 := (kept_same sj).trans K5
    have llj : l ≠ lj := fun e => by rw [← e, lG] at nlj; cases nlj
    have l5 := KP5.at lG la_
    have dX : DpAll K (Off lj (Off a Gp)) xs ds := by
      rw [off_none (off_free nlj)]
      exact dps_same (off_sub l _) dG
    have F5 : Same (Off lj (Off a Gp)) (Off lj (Off a G5)) := off_mono KP5
    refine ⟨ln, rfl, ⟨_, SqL.of hln⟩, for_it (walk_list (K := K) (a := ln) (xs := ws.map V.str)) (fun i σ Gi => ∃ (u5 u6 u7 u8 u9 u11 u12 : Option V) (ys : List V) (es : List PyData), σ = [some (.ref a), some (.int mo), some (.int la), some (.int c), some (.ref l), u5, u6, u7, u8, u9, some (.ref lj), u11, u12, none] ∧
        Sto sc a (n + 1 + 5 * c.toNat + c.toNat + 800 + 2 * i) Gi ∧ Same (Off lj (Off a Gp)) (Off lj (Off a Gi)) ∧ Gi l = some (.lst xs) ∧ Gi ln = some (.lst (ws.map V.str)) ∧ Gi lj = some (.lst ys) ∧ DpAll K (Off lj (Off a Gi)) ys es ∧ es.length = i ∧ (∀ e ∈ es, jobD e = true) ∧ es.map nameOf = ws.take i ∧ es.map arrD = ds.take i)
      ⟨_, _, _, _, _, _, _, [], [], rfl, S5.more (by omega), F5, l5, hln, lj5, .nil, rfl, (fun e he => absurd he (by simp)), rfl, rfl⟩ (fun i σ Gi _ ⟨_, _, _, _, _, _, _, _, _, _, _, _, _, h, _⟩ => SqL.of h) ?_ ?_⟩
    · rintro i v1 σ Ga Gb hi ⟨u5, u6, u7, u8, u9, u11, u12, ys, es, rfl, Si, Fi, li, hi_n, hlj, dys, les, okes, enm, ear⟩ ⟨rfl, hy⟩
      rw [List.length_map] at hi
      rw [List.getElem?_map] at hy
      obtain ⟨nm, hnm, rfl⟩ := Option.map_eq_some_iff.mp hy
      have yl := dps_len dys
      refine ⟨_, rfl, a, sc, 10, _, rfl, by decide, by decide, Si, by omega, fun x G1 x0 x4 SG1 KG1 => ?_⟩
      refine ⟨(by show 3 ≤ sizeLine; decide), fun q nq => ?_⟩
      have sq := same_new (o := .lst [.int 0, .int 0, .int x]) nq
      have qa := SG1.ne nq
      refine ⟨_, rfl, a, sc, 3, _, rfl, by decide, by decide, SG1.same sq, by omega, fun z G3 z0 z3 SG3 KG3 => ?_⟩
      obtain ⟨av, hav, vav⟩ := atI_three (x0 := .int 0) (x1 := .int 0) (x2 := .int x) z0 z3
      refine ⟨q, _, _, av, rfl, rfl, SqL.of (KG3.at upd_same qa), hav, ?_⟩
      obtain ⟨ai, ai0, ai9, rfl⟩ : ∃ ai : Int, 0 ≤ ai ∧ ai ≤ 9 ∧ av = .int ai := by
        rcases vav with rfl | rfl | rfl
        · exact ⟨_, by decide, by decide, rfl⟩
        · exact ⟨_, by decide, by decide, rfl⟩
        · exact ⟨_, x0, by omega, rfl⟩
      have KA : Kept a Gb G3 := (KG1.trans (kept_same sq)).trans KG3
      have lG3 := KA.at li la_
      have lnG3 := KA.at hi_n lna
      have ljG3 := KA.at hlj lja
      have hxi : xs[i]? = some xs[i] := List.getElem?_eq_getElem (by omega)
      obtain ⟨d, hd, dd⟩ := dps_getV dX hxi
      generalize xs[i] = v at hxi dd
      have hat : atI xs ((ys.length : Nat) : Int) = some v := by
        rw [yl, les]
        exact atI_nat hxi
      refine ⟨_, rfl, .inl ⟨rfl, _, SqL.of ljG3⟩, ?_⟩
      refine ⟨_, rfl, _, rfl, _, rfl, lj, ys, rfl, .inl (SqL.of ljG3), l, xs, _, v, rfl, rfl, SqL.of lG3, hat, _, rfl, (by show 3 ≤ sizeLine; decide), fun t nt => ?_⟩
      have st := same_new (o := .tup [.str nm, v, .int ai]) nt
      have ta := SG3.ne nt
      have tl : t ≠ lj := fun e => by rw [e, ljG3] at nt; cases nt
      have KB : Kept a Gb (upd G3 t (.tup [.str nm, v, .int ai])) := KA.trans (kept_same st)
      have offs : Off lj (Off a (upd (upd G3 t (.tup [.str nm, v, .int ai])) lj (.lst (ys ++ [.ref t])))) = Off lj (Off a (upd G3 t (.tup [.str nm, v, .int ai]))) := by rw [off_other lja, off_upd]
      have FB := Fi.trans (off_mono (a := lj) KB)
      refine ⟨lj, _, _, rfl, rfl, st.at ljG3, by rw [yl, les]; exact Nat.lt_of_lt_of_le (show i < 13 by omega) (by decide), _, _, _, _, _, _, _, ys ++ [.ref t], es ++ [.tuple [.str nm, d, .int ai]], rfl, ((SG3.same st).other lja ljsc).more (by omega), ?_, ?_, ?_, upd_same, ?_, by rw [List.length_append, les]; rfl, ?_, ?_, ?_⟩
      · rw [offs]
        exact FB
      · rw [upd_ne llj]
        exact st.at lG3
      · rw [upd_ne lnj]
        exact st.at lnG3
      · rw [offs]
        refine dps_app (dps_same (off_mono KB) dys) (.cons (.tup (a := t) (SqT.of ?_) (.cons (.str nm) (.cons (dp_same FB dd) (.cons (.int ai) .nil)))) .nil)
        rw [off_ne tl, off_ne ta, upd_same]
      · intro e he
        rcases List.mem_append.mp he with he | he
        · exact okes e he
        · rw [List.mem_singleton.mp he]
          show (nameD (.str nm) && (arrivalD d && (integerD 0 (.int ai) && le9 (.int ai)))) = true
          rw [okws nm (List.mem_of_getElem? hnm), okd d (List.mem_of_getElem? hd), show integerD 0 (.int ai) = true from decide_eq_true ai0, show le9 (.int ai) = true from decide_eq_true ai9]
          rfl
      · rw [List.map_append, enm, List.take_add_one, hnm]
        rfl
      · rw [List.map_append, ear, List.take_add_one, hd]
        rfl
    · rintro σ Gi ⟨u5, u6, u7, u8, u9, u11, u12, ys, es, rfl, Si, Fi, li, hi_n, hlj, dys, les, okes, enm, ear⟩
      have yl := dps_len dys
      have wl : (ws.map V.str).length = ws.length := List.length_map ..
      rw [List.length_map] at les
      refine ⟨_, rfl, lj, ys, rfl, .inl ⟨SqL.of hlj, fun tp ntp => ?_⟩⟩
      have stp := same_new (o := .tup ys) ntp
      have tpa := Si.ne ntp
      refine k (.ref tp) es _ ((Si.same stp).more (by omega)) (((K1.trans (kept_of_off nl KG)).trans (kept_of_off nlj Fi)).trans (kept_same stp)) (.tup (a := tp) (SqT.of ?_) (dps_same ((off_sub lj _).trans (kept_same stp)) dys)) (List.all_eq_true.mpr okes) (by omega) ⟨?_, ?_⟩ ?_
      · rw [off_ne tpa, upd_same]
      · rw [enm, wl, List.take_of_length_le (Nat.le_refl _)]
        exact ndw
      · rw [ear, wl, List.take_of_length_le (by omega)]
        intro k t hm
        obtain ⟨j, hj, e⟩ := List.getElem_of_mem hm
        exact okA j (by omega) k t (by rw [List.getElem?_eq_getElem hj, e])
      · rw [ear, wl, List.take_of_length_le (by omega)]
        exact bd
end
end Vk
set_option maxHeartbeats 4000000
namespace Vk
open PySem PySem.Spec PyProof.Rows L2 GxR
theorem jobs_arr {js : List PyData} (ok : js.all jobD = true) {d : PyData} (h : d ∈ js.map arrD) : ∃ (k : Str) (t : Int), d = .tuple [.str k, .int t] ∧ (k = "at" ∨ k = "after") := by
  obtain ⟨j, hj, rfl⟩ := List.mem_map.mp h
  obtain ⟨n, k, t, e, rfl, _, hk⟩ := job_parts (List.all_eq_true.mp ok j hj)
  exact ⟨k, t, rfl, hk⟩
theorem reach_at {m f t : Int} : reachA m f (.tuple [.str "at", .int t]) = decide (t ≤ m) := rfl
theorem reach_after {m f t : Int} : reachA m f (.tuple [.str "after", .int t]) = decide (t ≤ f) := rfl
/-- who is reached stays reached -/
theorem reach_mono {m m' f f' : Int} (hm : m ≤ m') (hf : f ≤ f') {d : PyData} (h : reachA m f d = true) : reachA m' f' d = true := by
  unfold reachA at h ⊢
  split at h
  · rename_i k t
    have z := of_decide_eq_true h
    refine decide_eq_true ?_
    split at z <;> rename_i e <;> first | rw [if_pos e] ; omega | rw [if_neg e]; omega
  · cases h
theorem count_mono {js : List PyData} {m m' f f' : Int} (hm : m ≤ m') (hf : f ≤ f') : countA js m f ≤ countA js m' f' :=
  List.countP_mono_left fun d _ h => reach_mono hm hf h
/-- with the moment of one who waits for it, one more -/
theorem count_more {js : List PyData} {m m' f t : Int} (h : .tuple [.str "at", .int t] ∈ js.map arrD) (h1 : m < t) (h2 : t ≤ m') : countA js m f + 1 ≤ countA js m' f := by
  obtain ⟨l1, l2, e⟩ := List.append_of_mem h
  unfold countA
  rw [e, List.countP_append, List.countP_append, List.countP_cons, List.countP_cons, reach_at, reach_at, if_neg (by rw [decide_eq_false (by omega)]; exact Bool.false_ne_true), if_pos (decide_eq_true h2)]
  have z1 : l1.countP (reachA m f) ≤ l1.countP (reachA m' f) := List.countP_mono_left fun d _ h => reach_mono (by omega) (Int.le_refl _) h
  have z2 : l2.countP (reachA m f) ≤ l2.countP (reachA m' f) := List.countP_mono_left fun d _ h => reach_mono (by omega) (Int.le_refl _) h
  omega
/-- as long as jobs are missing and nobody is there, somebody comes at a later moment -/
theorem some_at {js : List PyData} (ok : js.all jobD = true) (fn : Fine js) {m f : Int} (f0 : 0 ≤ f) (hf : f < js.length) (h : (countA js m f : Int) ≤ f) : ∃ t : Int, .tuple [.str "at", .int t] ∈ js.map arrD ∧ m < t := by
  refine Classical.byContradiction fun no => ?_
  have ats : ∀ t : Int, .tuple [.str "at", .int t] ∈ js.map arrD → t ≤ m := fun t ht => Int.not_lt.mp fun z => no ⟨t, ht, z⟩
  have afts : ∀ (n : Nat) (t : Int), t.toNat ≤ n → .tuple [.str "after", .int t] ∈ js.map arrD → t ≤ f := by
    intro n
    induction n with
    | zero => intro t ht _; omega
    | succ n ih =>
      intro t ht hm
      rcases fn.2 _ _ hm with z | z
      · exact absurd z (by decide +kernel)
      · have q : (js.map arrD).countP (befA t) ≤ countA js m f := by
          refine List.countP_mono_left fun d hd hb => ?_
          obtain ⟨k, t2, rfl, hk⟩ := jobs_arr ok hd
          rcases hk with rfl | rfl
          · exact decide_eq_true (ats t2 hd)
          · have hb : decide (t2 < t) = true := hb
            have lt := of_decide_eq_true hb
            refine decide_eq_true (show t2 ≤ f from ?_)
            by_cases z0 : t2 ≤ 0
            · omega
            · exact ih t2 (by omega) hd
        omega
  have all : countA js m f = (js.map arrD).length := by
    refine List.countP_eq_length.mpr fun d hd => ?_
    obtain ⟨k, t, rfl, hk⟩ := jobs_arr ok hd
    rcases hk with rfl | rfl
    · exact decide_eq_true (ats t hd)
    · exact decide_eq_true (afts t.toNat t (Nat.le_refl _) hd)
  rw [all, List.length_map] at h
  omega
/-- the later moments -/
def atMom (u : Int) : PyData → Option Int
  | .tuple [.str k, .int t] => if k = "at" ∧ u ≤ t then some t else none
  | _ => none
theorem mem_moms {js : List PyData} {u t : Int} : t ∈ (js.map arrD).filterMap (atMom u) ↔ .tuple [.str "at", .int t] ∈ js.map arrD ∧ u ≤ t := by
  rw [List.mem_filterMap]
  constructor
  · rintro ⟨d, hd, e⟩
    unfold atMom at e
    split at e
    · rename_i k t'
      split at e
      · rename_i z
        cases e
        rw [z.1] at hd
        exact ⟨hd, z.2⟩
      · cases e
    · cases e
  · rintro ⟨h1, h2⟩
    exact ⟨_, h1, by show (if ("at" : Str) = "at" ∧ u ≤ t then some t else none) = some t; rw [if_pos ⟨rfl, h2⟩]⟩
theorem asc_end : ∀ {lg : List (Int × Int)} {b u f : Int}, Asc b lg → (∀ p ∈ lg, p.1 < u) → b < u → 1 ≤ f → Asc b (lg ++ [(u, f)])
  | [], _, _, _, _, _, h1, h2 => ⟨by omega, h2, trivial⟩
  | p :: r, b, u, f, h, hp, _, h2 => ⟨h.1, h.2.1, asc_end h.2.2 (fun q hq => hp q (by simp [hq])) (hp p (by simp)) h2⟩
end Vk
set_option maxHeartbeats 8000000
namespace Vk
open PySem PySem.Spec PyProof.Rows L2 GxR
def LW (K : PySem.W.Frag) (sc a l : Addr) (v : V) (js : List PyData) (c wd n : Int) (H : Hp) (M : Nat) (σ : L2.St) (G : Hp) : Prop := ∃ (f u : Int) (xs : List V) (lg : List (Int × Int)) (u7 u8 u9 : Option V), (M : Int) + f = js.length ∧ σ = [some (.ref a), some v, some (.int c), some (.int wd), some (.ref l), some (.int f), some (.int u), u7, u8, u9, none, none, none] ∧
  Sto sc a (n + 5 * f) G ∧ Same (Off l (Off a H)) (Off l (Off a G)) ∧ G l = some (.lst xs) ∧ DpAll K (Off l (Off a G)) xs (lg.map pairP) ∧ 0 ≤ f ∧ 1 ≤ u ∧ f ≤ countA js (u - 1) f ∧ (lg.length : Int) ≤ f ∧ Asc 0 lg ∧ (∀ p ∈ lg, p.1 < u) ∧ ∀ rest, certD js c 0 (lg ++ rest) = certD js c f rest
section
variable {P : Program} {w : World} {K : PySem.W.Frag} {mg : Str → Option Value} {base : Heap}
def spLog (K : PySem.W.Frag) : Sp := fun vs H Q _ => ∃ (a sc : Addr) (n : Int) (v : V) (js : List PyData) (c wd : Int), vs = [.ref a, v, .int c, .int wd] ∧ Sto sc a n H ∧ n ≤ 800000 ∧ Dp K (Off a H) v (.tuple js) ∧ js.all jobD = true ∧ js.length ≤ 12 ∧ Fine js ∧ 1 ≤ c ∧ 0 ≤ wd ∧ wd ≤ 100 ∧
  ∀ (p : Addr) (xs : List V) (lg : List (Int × Int)) (H' : Hp), Sto sc a (n + 100) H' → Kept a H H' → Whole H' p xs → DpAll K (Off a H') xs (lg.map pairP) → Asc 0 lg → lg.length ≤ 12 → certD js c 0 lg = .none → Q (.ref p) H'
theorem scLog : FnScope ["store", "jobs", "cores", "wide", "log", "finished", "unit", "moments", "many", "finishes", "name", "arrival", "door"] ["store", "jobs", "cores", "wide"] (defScope sLog) := ⟨rfl, rfl, rfl, by decide +kernel, rfl, by decide +kernel, by decide +kernel⟩
theorem ok_log (D : Df K mg "_law_log" sLog ["store", "jobs", "cores", "wide"]) (B : Blt mg) (mn : mg "min" = none) (PK : Cl P w K mg base CX0 2 "_law_pick" ["store", "count"] spPick) (PL : Cl P w K mg base CX0 1 "_law_present" ["jobs", "unit", "finished"] (spPresL K)) : Cl P w K mg base CX0 3 "_law_log" ["store", "jobs", "cores", "wide"] (spLog K) := by
  refine cl0 D scLog (fun vs H Q E h => ?_) (fun f cdv A outer s H vs Q E hr h => ?_)
  · obtain ⟨a, sc, n, v, js, c, wd, rfl, _⟩ := h
    rfl
  · obtain ⟨a, sc, n, v, js, c, wd, rfl, S, n1, dJ, okj, l12, fine, c1, w0, w100, k⟩ := h
    refine ⟨_, pss_cons (ps_set (i := 4) scLog.nd rfl (Or.inl rfl) (pe_lst pa_nil))
      (pss_cons (ps_set (i := 5) scLog.nd rfl (Or.inl rfl) pe_int)
      (pss_cons (ps_set (i := 6) scLog.nd rfl (Or.inr rfl) pe_int)
      (pss_cons (ps_while PassesOwn.never (pt_cmpR op_lt (pv 5) (pe_callB call_len_seq (by rfl) B.len PySem.boot_len (pa_cons (pv 1) pa_nil)) (nomark _))
        (pss_cons (ps_setLc (i := 7) (own := [("name", 10), ("arrival", 11), ("door", 12)]) (g := gTup K 3 (gCons (gName 10) (gCons (gName 11) (gCons (gName 12) gNil)))) (tt := tAnd (tTest (tOp rEq (tOp (rIxT K) (tVar 11) (tC (.int 0))) (tC (.str "at")))) (tTest (tOp (rI0 fun i j => .bl (decide (j ≤ i))) (tOp (rIxT K) (tVar 11) (tC (.int 1))) (tVar 6)))) (te := tOp (rIxT K) (tVar 11) (tC (.int 1)))
            rfl scLog.nd rfl rfl (sw_true rfl rfl rfl (by decide +kernel)) (pi_tup (pv 1))
            (blkOk_by (own := [("name", 10), ("arrival", 11), ("door", 12)]) (N := ["store", "jobs", "cores", "wide", "log", "finished", "unit", "moments", "many", "finishes", "name", "arrival", "door"]) (sc := defScope sLog) (by decide +kernel))
            (fun _ _ _ _ _ => pg_tup rfl (pgs_cons (pg_name (i := 10) scLog.nd rfl (Or.inl rfl)) (pgs_cons (pg_name (i := 11) scLog.nd rfl (Or.inl rfl)) (pgs_cons (pg_name (i := 12) scLog.nd rfl (Or.inl rfl)) pgs_nil))))
            (fun _ _ _ _ _ => pts_one (PW.pt (pw_and (pt_cmpR op_eq (pe_ix ix_tup (pv 11) pe_int (fun _ _ => rfl)) pe_str (nomark _)) (pw_and1 (pt_cmpR op_ge (pe_ix ix_tup (pv 11) pe_int (fun _ _ => rfl)) (pv 6) (nomark _))))))
            (fun _ _ _ _ _ => pe_ix ix_tup (pv 11) pe_int (fun _ _ => rfl)))
        (pss_cons (ps_if (pt_cmpR op_eq (pc PL hr (by decide) (pa_cons (pv 1) (pa_cons (pv 6) (pa_cons (pv 5) pa_nil)))) pe_int (nomark _))
          (pss_one (ps_set (i := 6) scLog.nd rfl (Or.inr rfl) (pe_op op_add (pe_callB (cr_min rfl) (by rfl) mn (by decide +kernel) (pa_cons (pv 7) pa_nil)) pe_int))) pss_nil)
        (pss_cons (ps_set (i := 6) scLog.nd rfl (Or.inr rfl) (pe_op op_add (pv 6) (pe_ix ix_list (pe_lst (pa_cons pe_int (pa_cons (pc PK hr (by decide) (pa_cons (pv 0) (pa_cons pe_int pa_nil))) (pa_cons (pc PK hr (by decide) (pa_cons (pv 0) (pa_cons (pe_op op_add (pv 3) pe_int) pa_nil))) pa_nil)))) (pc PK hr (by decide) (pa_cons (pv 0) (pa_cons pe_int pa_nil))) (fun _ _ => rfl))))
        (pss_cons (ps_set (i := 8) scLog.nd rfl (Or.inl rfl) (pe_callB (call_min2 rfl) (by rfl) mn (by decide +kernel) (pa_cons (pv 2) (pa_cons (pc PL hr (by decide) (pa_cons (pv 1) (pa_cons (pv 6) (pa_cons (pv 5) pa_nil)))) pa_nil))))
        (pss_cons (ps_set (i := 9) scLog.nd rfl (Or.inl rfl) (pe_ix ix_list (pe_lst (pa_cons (pv 8) (pa_cons (pe_op op_add pe_int (pc PK hr (by decide) (pa_cons (pv 0) (pa_cons (pv 8) pa_nil)))) pa_nil))) (pc PK hr (by decide) (pa_cons (pv 0) (pa_cons pe_int pa_nil))) (fun _ _ => rfl)))
        (pss_cons (ps_expr (pe_bm PySem.F.plainAttrs_list PySem.F.slot_list_append PySem.F.type_list_append mt_append (pv 4) (pa_cons (pe_tup (pa_cons (pv 6) (pa_cons (pv 9) pa_nil))) pa_nil)))
        (pss_cons (ps_set (i := 5) scLog.nd rfl (Or.inl rfl) (pe_op op_add (pv 5) (pv 9)))
        (pss_one (ps_set (i := 6) scLog.nd rfl (Or.inr rfl) (pe_op op_add (pv 6) pe_int)))))))))))
      (pss_one (ps_ret (pe_callTy call_tupleF (by rfl) B.tuple (by decide +kernel) (pa_cons (pv 4) pa_nil))))))), ?_⟩
    refine ⟨(by show 0 ≤ sizeLine; decide), fun l nl => ?_⟩
    have la : l ≠ a := S.ne nl
    have lsc : l ≠ sc := S.ne2 nl
    have dL : Dp K (Off l (Off a H)) v (.tuple js) := by
      rw [off_none (off_free nl)]
      exact dJ
    obtain ⟨pj, ys, rfl, qj, rj⟩ := dp_tuple dL
    have yl := dps_len rj
    refine ⟨LW K sc a l (.ref pj) js c wd n H, ⟨js.length, 0, 1, [], [], none, none, none, by omega, rfl, (S.same (same_new nl)).more (by omega), off_mono (off_mono (same_new nl)), upd_same, .nil, by omega, by omega, by omega, by simp, trivial, (fun p hp => absurd hp (by simp)), fun _ => rfl⟩, ?_⟩
    rintro M σ G ⟨fi, u, xs, lg, u7, u8, u9, hM, rfl, SG, KG, lG, dG, f0, u1, fc, lgl, asc, lu, cd⟩
    have sub : Same (Off l (Off a H)) G := KG.trans ((off_sub l (Off a G)).trans (off_sub a G))
    have qG := same_seqT sub qj
    have rG := dps_same sub rj
    have xl := dps_len dG
    rw [List.length_map] at xl
    refine ⟨_, rfl, _, rfl, pj, ys, rfl, .inr qG, _, _, rfl, rfl, _, rfl, ?_⟩
    rw [yl]
    refine ite2 (fun hlt => ?_) (fun hlt => ?_)
    case refine_2 =>
      have z : ¬ fi < js.length := fun z => hlt (decide_eq_true z)
      refine ⟨_, rfl, l, xs, rfl, SqL.of lG, fun tp o ntp od => ?_⟩
      have stp := same_new (o := .frz o (.tup xs)) ntp
      have ce := cd []
      rw [List.append_nil] at ce
      refine k tp xs lg _ ((SG.same stp).more (by omega)) ((kept_of_off nl KG).trans (kept_same stp)) ⟨o, upd_same, od⟩ (dps_same ((off_sub l _).trans (kept_same stp)) dG) asc (by omega) ?_
      rw [ce]
      show (if fi = (js.length : Int) then PyData.none else .tuple [.str "unfinished", .int ((js.length : Int) - fi)]) = .none
      rw [if_pos (by omega)]
    have fl : fi < js.length := of_decide_eq_true hlt
    refine ⟨fun σ' G' => ∃ M', M' < M ∧ LW K sc a l (.ref pj) js c wd n H M' σ' G', fun σ' G' ⟨M', h1, h2⟩ => ⟨M', h1, h2⟩, ?_⟩
    -- moments
    refine ⟨_, rfl, pj, rfl, ⟨_, qG⟩, fun D1 nD1 => ?_⟩
    refine lc_it (walk_tup (K := K) (a := pj) (xs := ys)) (fun m Hc => Same G Hc ∧ Hc D1 = some (.lst ((((js.map arrD).take m).filterMap (atMom u)).map V.int)))
      ⟨same_new nD1, upd_same⟩ (fun m Hc _ ⟨s3, _⟩ => same_seqT s3 qG) ?_ ?_
    · rintro m y1 Hc0 Hc hm ⟨s3, hD⟩ ⟨rfl, hy1⟩
      obtain ⟨e1, he1, de1⟩ := dps_getV rG hy1
      obtain ⟨nm, k1, t1, x1, rfl, _, hk1⟩ := job_parts (List.all_eq_true.mp okj e1 (List.mem_of_getElem? he1))
      obtain ⟨p1, v1, v2, v3, rfl, q1, dv1, dv2, dv3⟩ := dp_three (dp_same s3 de1)
      obtain ⟨pa, kv, tv, rfl, qa, dk, dt⟩ := dp_two dv2
      have ek := dp_str dk
      subst ek
      have et := dp_int dt
      subst et
      have e2 : ((js.map arrD).take (m + 1)).filterMap (atMom u) = ((js.map arrD).take m).filterMap (atMom u) ++ (if k1 = "at" ∧ u ≤ t1 then [t1] else []) := by
        rw [List.take_add_one, List.getElem?_map, he1]
        show ((js.map arrD).take m ++ [PyData.tuple [.str k1, .int t1]]).filterMap (atMom u) = _
        rw [List.filterMap_append]
        congr 1
        rw [List.filterMap_cons, List.filterMap_nil, show atMom u (.tuple [.str k1, .int t1]) = (if k1 = "at" ∧ u ≤ t1 then some t1 else none) from rfl]
        by_cases z : k1 = "at" ∧ u ≤ t1
        · rw [if_pos z, if_pos z]
        · rw [if_neg z, if_neg z]
      have small : (((js.map arrD).take m).filterMap (atMom u)).length ≤ 12 := by
        have z := List.length_filterMap_le (atMom u) ((js.map arrD).take m)
        rw [List.length_take, List.length_map] at z
        omega
      refine ⟨p1, _, rfl, q1, rfl, _, _, rfl, _, _, rfl, _, _, rfl, rfl, rfl, ?_⟩
      refine ⟨_, rfl, pa, _, _, _, rfl, rfl, qa, rfl, rfl, _, rfl, ?_⟩
      rw [eq_S (s := ("at" : Str)) dk]
      have skip : ¬ (k1 = "at" ∧ u ≤ t1) → Same G Hc ∧ Hc D1 = some (.lst ((((js.map arrD).take (m + 1)).filterMap (atMom u)).map V.int)) := fun z => by
        rw [e2, if_neg z, List.append_nil]
        exact ⟨s3, hD⟩
      refine ite2 (fun hz => ?_) (fun hz => iteF (skip fun z => hz (by rw [z.1]; rfl)))
      have hk : k1 = "at" := by
        rcases hk1 with e | e
        · exact e
        · rw [e] at hz
          exact absurd hz (by decide +kernel)
      refine ⟨_, rfl, pa, _, _, _, rfl, rfl, qa, rfl, _, rfl, _, _, rfl, rfl, _, rfl, ?_⟩
      refine ite2 (fun ht => ?_) (fun ht => skip fun z => ht (decide_eq_true z.2))
      refine ⟨_, rfl, pa, _, _, _, rfl, rfl, qa, rfl, _, hD, ?_, same_put s3 nD1, ?_⟩
      · rw [List.length_map]
        exact Nat.lt_of_le_of_lt small (by decide)
      · rw [upd_same, e2, if_pos ⟨hk, of_decide_eq_true ht⟩, List.map_append]
        rfl
    rintro Hd ⟨s3, hD⟩
    rw [yl, ← List.length_map (f := arrD), List.take_length] at hD
    have mems := fun t => mem_moms (js := js) (u := u) (t := t)
    generalize (js.map arrD).filterMap (atMom u) = ms at hD mems
    refine ⟨_, rfl, _, rfl, _, rfl, .ref pj, js, u, fi, rfl, dp_same s3 (.tup qG rG), okj, by omega, fun G1 s4 => ?_⟩
    have s34 := s3.trans s4
    refine ⟨rfl, _, rfl, ?_⟩
    apply cutR (α := L2.St → Hp → Prop) (F := fun R => ∀ u' : Int, u ≤ u' → fi + 1 ≤ countA js (u' - 1) fi → R [some (.ref a), some (.ref pj), some (.int c), some (.int wd), some (.ref l), some (.int fi), some (.int u'), some (.ref D1), u8, u9, none, none, none] G1)
    · intro cont
      have pe : presI js u fi = (countA js (u - 1) fi : Int) - fi := rfl
      refine ite2 (fun hz => ?_) (fun hz => ?_)
      · have p0 : presI js u fi = 0 := V.int.inj (of_decide_eq_true hz)
        have mpos : 0 < ms.length := by
          obtain ⟨t, ht, hu⟩ := some_at okj fine (m := u - 1) f0 fl (by omega)
          exact List.length_pos_of_mem ((mems t).mpr ⟨ht, by omega⟩)
        refine ⟨_, rfl, D1, ms, rfl, SqL.of (s4.at hD), mpos, fun m hm _ => ?_⟩
        obtain ⟨h1, h2⟩ := (mems m).mp hm
        have z := count_more (m := u - 1) (m' := m + 1 - 1) (f := fi) h1 (by omega) (by omega)
        exact ⟨_, _, rfl, rfl, cont (m + 1) (by omega) (by omega)⟩
      · have p0 : presI js u fi ≠ 0 := fun e => hz (decide_eq_true (by rw [e]))
        exact cont u (Int.le_refl _) (by omega)
    intro u' uu fc'
    have SG1 := SG.same s34
    refine ⟨_, rfl, _, rfl, a, sc, 3, _, rfl, by decide, by decide, SG1, by omega, fun r1 G2 r10 r13 S2 K2 => ?_⟩
    refine ⟨_, rfl, _, rfl, _, _, rfl, rfl, a, sc, wd + 1, _, rfl, by omega, by omega, S2, by omega, fun r2 G3 r20 r23 S3 K3 => ?_⟩
    refine ⟨(by show 3 ≤ sizeLine; decide), fun q nq => ?_⟩
    have sq := same_new (o := .lst [.int 0, .int r1, .int r2]) nq
    have qa := S3.ne nq
    refine ⟨_, rfl, a, sc, 3, _, rfl, by decide, by decide, S3.same sq, by omega, fun z G4 z0 z3 S4 K4 => ?_⟩
    obtain ⟨av, hav, vav⟩ := atI_three (x0 := .int 0) (x1 := .int r1) (x2 := .int r2) z0 z3
    refine ⟨q, _, _, av, rfl, rfl, SqL.of (K4.at upd_same qa), hav, ?_⟩
    obtain ⟨ai, ai0, rfl⟩ : ∃ ai : Int, 0 ≤ ai ∧ av = .int ai := by
      rcases vav with rfl | rfl | rfl
      · exact ⟨_, by decide, rfl⟩
      · exact ⟨_, r10, rfl⟩
      · exact ⟨_, r20, rfl⟩
    refine ⟨_, _, rfl, rfl, ?_⟩
    have KA : Kept a G G4 := (((kept_same s34).trans K2).trans (K3.trans (kept_same sq))).trans K4
    have subA : Same (Off l (Off a H)) G4 := KG.trans ((off_sub l (Off a G)).trans (Same.trans KA (off_sub a G4)))
    refine ⟨_, rfl, _, rfl, _, rfl, _, rfl, .ref pj, js, u' + ai, fi, rfl, dp_same subA (.tup qj rj), okj, by omega, fun G5 s5 => ?_⟩
    have pe : presI js (u' + ai) fi = (countA js (u' + ai - 1) fi : Int) - fi := rfl
    have cm := count_mono (js := js) (m := u' - 1) (m' := u' + ai - 1) (f := fi) (f' := fi) (by omega) (Int.le_refl _)
    refine ⟨_, _, rfl, ?_⟩
    rw [run_min]
    have hrun : 1 ≤ runI js (u' + ai) fi c ∧ runI js (u' + ai) fi c ≤ presI js (u' + ai) fi := ⟨by unfold runI; split <;> omega, run_le⟩
    generalize hmany : runI js (u' + ai) fi c = many at hrun
    have S5 := S4.same s5
    have cl := count_le js (u' + ai - 1) fi
    have K5 : Kept a G G5 := KA.trans (kept_same s5)
    -- finishes
    refine ⟨_, rfl, _, rfl, _, rfl, a, sc, many, _, rfl, by omega, by omega, S5, by omega, fun r3 G6 r30 r33 S6 K6 => ?_⟩
    refine ⟨_, _, rfl, rfl, (by show 2 ≤ sizeLine; decide), fun q2 nq2 => ?_⟩
    have sq2 := same_new (o := .lst [.int many, .int (1 + r3)]) nq2
    have q2a := S6.ne nq2
    refine ⟨_, rfl, a, sc, 2, _, rfl, by decide, by decide, S6.same sq2, by omega, fun z2 G7 z20 z22 S7 K7 => ?_⟩
    obtain ⟨fv, hfv, mfv⟩ := atI_mem (xs := [V.int many, .int (1 + r3)]) z20 (by simpa using z22)
    refine ⟨q2, _, _, fv, rfl, rfl, SqL.of (K7.at upd_same q2a), hfv, ?_⟩
    obtain ⟨fs, fs1, fsm, rfl⟩ : ∃ fs : Int, 1 ≤ fs ∧ fs ≤ many ∧ fv = .int fs := by
      simp only [List.mem_cons, List.not_mem_nil, or_false] at mfv
      rcases mfv with rfl | rfl
      · exact ⟨_, by omega, by omega, rfl⟩
      · exact ⟨_, by omega, by omega, rfl⟩
    have K57 : Kept a G G7 := (K5.trans (K6.trans (kept_same sq2))).trans K7
    have lG7 := K57.at lG la
    -- log.append((unit, finishes))
    refine ⟨_, rfl, .inl ⟨rfl, _, SqL.of lG7⟩, ?_⟩
    refine ⟨_, rfl, _, rfl, (by show 2 ≤ sizeLine; decide), fun t nt => ?_⟩
    have st := same_new (o := .tup [.int (u' + ai), .int fs]) nt
    have ta := S7.ne nt
    have tl : t ≠ l := fun e => by rw [e, lG7] at nt; cases nt
    have KB : Kept a G (upd G7 t (.tup [.int (u' + ai), .int fs])) := K57.trans (kept_same st)
    have offs : Off l (Off a (upd (upd G7 t (.tup [.int (u' + ai), .int fs])) l (.lst (xs ++ [.ref t])))) = Off l (Off a (upd G7 t (.tup [.int (u' + ai), .int fs]))) := by rw [off_other la, off_upd]
    refine ⟨l, _, _, rfl, rfl, st.at lG7, ?_, ?_⟩
    · rw [xl]
      exact Nat.lt_of_le_of_lt (show lg.length ≤ 12 by omega) (by decide)
    refine ⟨_, rfl, _, rfl, _, _, rfl, rfl, _, rfl, _, _, rfl, rfl, ?_⟩
    refine ⟨(M : Int).toNat - fs.toNat, by omega, fi + fs, u' + ai + 1, xs ++ [.ref t], lg ++ [(u' + ai, fs)], _, _, _, by omega, rfl, ((S7.same st).other la lsc).more (by omega), ?_, upd_same, ?_, by omega, by omega, ?_, ?_, asc_end asc (fun p hp => by have z := lu p hp; omega) (by omega) fs1, ?_, ?_⟩
    · rw [offs]
      exact KG.trans (off_mono KB)
    · rw [offs, List.map_append]
      refine dps_app (dps_same (off_mono KB) dG) (.cons (.tup (a := t) (SqT.of ?_) (.cons (.int _) (.cons (.int _) .nil))) .nil)
      rw [off_ne tl, off_ne ta, upd_same]
    · have z := count_mono (js := js) (m := u' + ai - 1) (m' := u' + ai + 1 - 1) (f := fi) (f' := fi + fs) (by omega) (by omega)
      omega
    · rw [List.length_append, List.length_singleton]
      omega
    · intro p hp
      rcases List.mem_append.mp hp with hp | hp
      · have z := lu p hp
        omega
      · rw [List.mem_singleton.mp hp]
        show u' + ai < u' + ai + 1
        omega
    · intro rest
      rw [List.append_assoc, cd]
      show (if runI js (u' + ai) fi c < fs then PyData.tuple [.str "crowded", .int (u' + ai), .int (runI js (u' + ai) fi c)] else certD js c (fi + fs) rest) = _
      rw [hmany, if_neg (by omega)]
end
end Vk
set_option maxHeartbeats 4000000
/-! t < u of logs -/
namespace Vk
open PySem PySem.Spec PyProof.Rows L2 GxR
def rLtD (K : PySem.W.Frag) (n : Nat) : R2 := fun x y H Q => ∃ d e, Dp K H x d ∧ Dp K H y e ∧ PySem.W.alike d e = true ∧ d ≠ .none ∧ min d.depth e.depth ≤ n ∧ Q (.bl (PySem.W.dataLt d e)) H
theorem op_ltD {X : Cx} {n : Nat} (hu : X.A.units + n < cLine) : OpR X (compareOp .Lt) (rLtD X.K n) := by
  intro pins s σ H x y v u Q I rx ry h
  obtain ⟨d, e, hd, he, al, ne, dep, q⟩ := h
  obtain ⟨as, r1⟩ := Dp.reads I d x v hd rx
  obtain ⟨bs, r2⟩ := Dp.reads I e y u he ry
  have R := PySem.W.rcLt_alike d e X.A s v u as bs r1 r2 al ne (by omega)
  have z : wpAny (model X.prog X.w) X.A (compareOp .Lt v u) (EP X pins σ Q) X.xe s := R X.prog X.w X.xe (EP X pins σ Q) ⟨.bl _, H, I, rfl, q⟩
  exact z
theorem pair_alike (p q : Int × Int) : PySem.W.alike (pairP p) (pairP q) = true := by
  show (PySem.W.alikeAll [.int p.1, .int p.2] [.int q.1, .int q.2]) = true
  simp [PySem.W.alikeAll, PySem.W.alike]
theorem log_alike : ∀ (a b : List (Int × Int)), PySem.W.alikeAll (a.map pairP) (b.map pairP) = true
  | [], b => by
    rw [List.map_nil]
    cases b.map pairP <;> rfl
  | p :: r, [] => rfl
  | p :: r, q :: s => by
    rw [List.map_cons, List.map_cons, PySem.W.alikeAll, pair_alike, log_alike r s]
    rfl
theorem pair_eqv (p q : Int × Int) : PyData.eqv (pairP p) (pairP q) = decide (p = q) := by
  show PyData.eqvAll [.int p.1, .int p.2] [.int q.1, .int q.2] = _
  rw [PySem.W.eqv_all_cons, PySem.W.eqv_all_cons]
  have e : ∀ a b : Int, PyData.eqv (.int a) (.int b) = decide (a = b) := fun a b => by
    show (a == b) = _
    by_cases h : a = b
    · rw [decide_eq_true h]
      exact beq_iff_eq.mpr h
    · rw [decide_eq_false h]
      exact beq_eq_false_iff_ne.mpr h
  rw [e, e]
  obtain ⟨a, b⟩ := p
  obtain ⟨c, d⟩ := q
  show (decide (a = c) && (decide (b = d) && PyData.eqvAll [] [])) = decide ((a, b) = (c, d))
  rw [show PyData.eqvAll [] [] = true from rfl]
  by_cases h1 : a = c <;> by_cases h2 : b = d <;> simp [h1, h2]
theorem pair_lt {p q : Int × Int} (h : p ≠ q) : PySem.W.dataLt (pairP p) (pairP q) = ltP p q := by
  obtain ⟨a, b⟩ := p
  obtain ⟨c, d⟩ := q
  show PySem.W.dataLt (.tuple [.int a, .int b]) (.tuple [.int c, .int d]) = _
  rw [PySem.W.dataLt_tuple]
  have al : ∀ x y : Int, PySem.W.alike (.int x) (.int y) = true := fun _ _ => rfl
  unfold ltP
  by_cases h1 : a = c
  · subst h1
    rw [PySem.W.dataLt_all_yes (al _ _) (show (a == a) = true from beq_self_eq_true a)]
    have h2 : b ≠ d := fun e => h (by rw [e])
    rw [PySem.W.dataLt_all_no (al _ _) (show (b == d) = false from beq_eq_false_iff_ne.mpr h2), PySem.W.dataLt_int, if_pos rfl]
  · rw [PySem.W.dataLt_all_no (al _ _) (show (a == c) = false from beq_eq_false_iff_ne.mpr h1), PySem.W.dataLt_int, if_neg h1]
theorem log_lt : ∀ (a b : List (Int × Int)), PyProof.Rows.lexLt itemOrd (PySem.W.keyToksAll (a.map pairP)) (PySem.W.keyToksAll (b.map pairP)) = ltL a b
  | [], [] => by decide +kernel
  | [], q :: s => by
    rw [List.map_nil, List.map_cons, PySem.W.toks_all_cons]
    show PyProof.Rows.lexLt itemOrd (.inl 0 :: []) (.inl 1 :: _) = true
    rw [PySem.W.lex_atom (by decide)]
    decide +kernel
  | p :: r, [] => by
    rw [List.map_nil, List.map_cons, PySem.W.toks_all_cons]
    show PyProof.Rows.lexLt itemOrd (.inl 1 :: _) (.inl 0 :: []) = false
    rw [PySem.W.lex_atom (by decide)]
    decide +kernel
  | p :: r, q :: s => by
    rw [List.map_cons, List.map_cons]
    show _ = if p = q then ltL r s else ltP p q
    by_cases e : p = q
    · rw [if_pos e, PySem.W.dataLt_all_yes (pair_alike p q) (by rw [pair_eqv]; exact decide_eq_true e)]
      exact log_lt r s
    · rw [if_neg e, PySem.W.dataLt_all_no (pair_alike p q) (by rw [pair_eqv]; exact decide_eq_false e)]
      exact pair_lt e
theorem logs_lt (a b : List (Int × Int)) : PySem.W.dataLt (.tuple (a.map pairP)) (.tuple (b.map pairP)) = ltL a b := by
  rw [PySem.W.dataLt_tuple]
  exact log_lt a b
end Vk
set_option maxHeartbeats 4000000
/-! t == () -/
namespace Vk
open PySem PySem.Spec PyProof.Rows L2
def rEqNilT (K : PySem.W.Frag) : R2 := fun x y H Q => ∃ p q xs, x = .ref p ∧ y = .ref q ∧ SqT K H p xs ∧ SqT K H q [] ∧ Q (.bl xs.isEmpty) H
section
variable {X : Cx}
theorem op_eqNilT (hu : X.A.units < cLine) : OpR X (compareOp .Eq) (rEqNilT X.K) := by
  intro pins s σ H x y v u Q I rx ry h
  obtain ⟨p, q, xs, rfl, rfl, hp, hq, k⟩ := h
  cases rx
  cases ry
  obtain ⟨is1, r1, p1, _⟩ := I.tuple hp
  obtain ⟨is2, r2, p2, _⟩ := I.tuple hq
  cases r2
  have z : ((List.range (min is1.toArray.size ([] : List Value).toArray.size)).all (fun _ => true) && is1.toArray.size == ([] : List Value).toArray.size) = xs.isEmpty := by
    cases xs with
    | nil =>
      cases r1
      rfl
    | cons x r =>
      cases r1
      simp
  refine SeqAt.RcAt.tuples (e := fun _ => true) p1 p2 hu (fun j _ h2 => absurd h2 (Nat.not_lt_zero _)) _ _ _ _ ?_
  rw [z]
  exact ⟨.bl xs.isEmpty, H, I, rfl, k⟩
end
end Vk
set_option maxHeartbeats 4000000
namespace Vk
open PySem PySem.Spec PyProof.Rows L2

section
variable {K : PySem.W.Frag} {mg : Str → Option Value}
/-- the keywords ks written, processors by default -/
theorem dfm_mk {x : Str} {st : Stmt} {f D : Addr} {oc doc pm cdv ct : Value} {od an : Option Addr} {osl : Array (Option Value)} {t : Tok} {ps ks : List Str} {n : Nat} (m : mg x = some (.ref f))
    (l : K.lookup f = some ⟨oc, od, .func (PySem.W.fnOf x x (defArgs st) (defBody st) (defScope st) .none (.ref D) doc pm an cdv ct), osl⟩) (c : PySem.W.codeIn K cdv x = true) (kp : PySem.W.keepIn K (.ref f) = true) (nd : PySem.W.nsIn K D "processors" = some (some (.int 1 t)))
    (hd : ∀ (doc pm : Value) (an : Option Addr) (cdv ct : Value) (us ws : List Value) (z : Value), us.length = n → ws.length = ks.length → KwChain D [("processors", z)] (bindArgs (PySem.W.fnOf x x (defArgs st) (defBody st) (defScope st) .none (.ref D) doc pm an cdv ct) ⟨us, ks.zip ws⟩) (ps.zip (us ++ ws ++ [z]))) :
    DfM K mg x st ps n ks (fun vs zs => vs ++ zs ++ [.int 1]) := by
  have F : FunD K x x (defArgs st) (defBody st) (defScope st) [] [] f (PySem.W.fnOf x x (defArgs st) (defBody st) (defScope st) .none (.ref D) doc pm an cdv ct) :=
    ⟨⟨oc, od, .none, .ref D, doc, pm, an, cdv, ct, osl, rfl, l, c, .inl ⟨rfl, rfl⟩, .inr ⟨D, rfl, fun q hq => absurd hq (by simp)⟩⟩, kp⟩
  refine ⟨f, _, [], fun us ws => us ++ ws ++ [.int 1 t], m, F, ⟨fun s us ws X l1 l2 => ?_, fun r1 r2 => (r1.append r2).append (.cons ⟨t, rfl⟩ .nil)⟩⟩
  refine BindsTo.of_looks fun M => KwChain.looks X (fun q hq => ?_) (hd doc pm an cdv ct us ws (.int 1 t) l1 l2)
  rw [List.mem_singleton.mp hq]
  exact nd
/-- all keywords written -/
theorem dfm_all {x : Str} {st : Stmt} {f D : Addr} {oc doc pm cdv ct : Value} {od an : Option Addr} {osl : Array (Option Value)} {ps ks : List Str} {n : Nat} (m : mg x = some (.ref f))
    (l : K.lookup f = some ⟨oc, od, .func (PySem.W.fnOf x x (defArgs st) (defBody st) (defScope st) .none (.ref D) doc pm an cdv ct), osl⟩) (c : PySem.W.codeIn K cdv x = true) (kp : PySem.W.keepIn K (.ref f) = true)
    (hb : ∀ (doc pm : Value) (an : Option Addr) (cdv ct : Value) (us ws : List Value), us.length = n → ws.length = ks.length → bindArgs (PySem.W.fnOf x x (defArgs st) (defBody st) (defScope st) .none (.ref D) doc pm an cdv ct) ⟨us, ks.zip ws⟩ = pure (ps.zip (us ++ ws))) :
    DfM K mg x st ps n ks (fun vs zs => vs ++ zs) := by
  have F : FunD K x x (defArgs st) (defBody st) (defScope st) [] [] f (PySem.W.fnOf x x (defArgs st) (defBody st) (defScope st) .none (.ref D) doc pm an cdv ct) :=
    ⟨⟨oc, od, .none, .ref D, doc, pm, an, cdv, ct, osl, rfl, l, c, .inl ⟨rfl, rfl⟩, .inr ⟨D, rfl, fun q hq => absurd hq (by simp)⟩⟩, kp⟩
  exact ⟨f, _, [], fun us ws => us ++ ws, m, F, ⟨fun s us ws X l1 l2 => .of_eq (hb doc pm an cdv ct us ws l1 l2), fun r1 r2 => r1.append r2⟩⟩
end
end Vk
set_option maxHeartbeats 8000000
namespace Vk
open PySem PySem.Spec PyProof.Rows L2 GxR
theorem fine_place {js : List PyData} (h : js.all jobD = true) (f : Fine js) : jobsPlace (.tuple js) = none := place_none (List.all_eq_true.mp h) f.1 f.2
theorem tup_off {K : PySem.W.Frag} {H : Hp} {l a : Addr} {ys vs : List V} (hl : H l = some (.lst ys)) (h : SqT K H a vs) : SqT K (Off l H) a vs := by
  rcases h with (h | ⟨o, h⟩) | h
  · exact .inl (.inl (by rw [off_ne (fun z => by rw [z, hl] at h; cases h)]; exact h))
  · exact .inl (.inr ⟨o, by rw [off_ne (fun z => by rw [z, hl] at h; cases h)]; exact h⟩)
  · exact .inr h
theorem pairs_off {K : PySem.W.Frag} {H : Hp} {l : Addr} {ys : List V} (hl : H l = some (.lst ys)) : ∀ {xs : List V} {lg : List (Int × Int)}, DpAll K H xs (lg.map pairP) → DpAll K (Off l H) xs (lg.map pairP)
  | _, [], h => by
    cases h
    exact .nil
  | _, q :: r, h => by
    obtain _ | ⟨h1, h2⟩ := h
    obtain ⟨p, x, y, rfl, qp, dx, dy⟩ := dp_two h1
    have ex := dp_int dx
    subst ex
    have ey := dp_int dy
    subst ey
    exact .cons (.tup (tup_off hl qp) (.cons (.int _) (.cons (.int _) .nil))) (pairs_off hl h2)
theorem asc_len {run : Int → Int → Int} {n : Int} : ∀ {r : List (Int × Int)} {b f : Int}, Asc b r → certR run n f r → (r.length : Int) ≤ n - f
  | [], _, f, _, h => by
    have e : f = n := h
    show (0 : Int) ≤ n - f
    omega
  | p :: r, _, f, ha, h => by
    have h1 : 1 ≤ p.2 := ha.2.1
    have z := asc_len ha.2.2 h.2
    rw [List.length_cons]
    omega
theorem log_depth (lg : List (Int × Int)) : (PyData.tuple (lg.map pairP)).depth ≤ 3 := by
  have z : ∀ l : List (Int × Int), PyData.depthAll (l.map pairP) ≤ 2 := by
    intro l
    induction l with
    | nil => decide
    | cons p r ih =>
      rw [List.map_cons, PyData.depthAll]
      have e : (pairP p).depth ≤ 2 := by
        show (PyData.tuple [.int p.1, .int p.2]).depth ≤ 2
        simp [PyData.depth, PyData.depthAll]
      omega
  have := z lg
  rw [PyData.depth]
  omega
theorem log_shaped (lg : List (Int × Int)) : SeqAt.shaped (.tuple (lg.map pairP)) = true := by
  have z : ∀ l : List (Int × Int), PyData.canLayAll0 (l.map pairP) = true := by
    intro l
    induction l with
    | nil => rfl
    | cons p r ih =>
      rw [List.map_cons, PyData.canLayAll0, ih]
      rfl
  have d := log_depth lg
  unfold SeqAt.shaped
  rw [PyData.canLay0, z lg, decide_eq_true (show (PyData.tuple (lg.map pairP)).depth ≤ 64 by omega)]
  rfl
theorem asc_top : ∀ {l : List (Int × Int)} {q : Int × Int} {b : Int}, Asc b (l ++ [q]) → ∀ p ∈ l ++ [q], p.1 ≤ q.1
  | [], q, _, _, p, hp => by
    have e : p = q := by simpa using hp
    rw [e]
    exact Int.le_refl _
  | x :: l, q, b, h, p, hp => by
    have ih := asc_top (l := l) (q := q) h.2.2
    rcases List.mem_cons.mp hp with e | hp
    · rw [e]
      have z : x.1 + 1 ≤ q.1 := asc_gt h.2.2 q (by simp)
      omega
    · exact ih p hp
section
variable {P : Program} {w : World} {K : PySem.W.Frag} {mg : Str → Option Value} {base : Heap}
def spLaw (K : PySem.W.Frag) (T : Addr) : Sp := fun vs H Q _ => ∃ (a : Addr) (ns : List Int), vs = [.ref a] ∧ SqL K H a (ns.map V.int) ∧ ns.length ≤ 63 ∧ TabG H T ∧ ∀ H', Q (.bl true) H'
theorem scLaw : FnScope ["script", "store", "turn", "jobs", "cores", "last", "total", "any_one", "kept", "number", "log", "one", "two"] ["script"] (defScope sLaw) := ⟨rfl, rfl, rfl, by decide +kernel, rfl, by decide +kernel, by decide +kernel⟩
theorem passA {X : Cx} (σ : L2.St) : PassesAt (L2.CX X.prog X.w) X σ E0 := fun pins H s e s' I h => passE0 pins σ H s e s' I h
theorem ok_law {f T C : Addr} {fd : FuncData} (F : Fun K "law" "law" sLaw f fd) (B : Blt mg) (mx : mg "max" = none) (mn : mg "min" = none) (mso : mg "sorted" = none) (mz : mg "zip" = none)
    (ST : Cl P w K mg base CX0 1 "_law_store" ["script"] (spStore K)) (PK : Cl P w K mg base CX0 2 "_law_pick" ["store", "count"] spPick) (JB : Cl P w K mg base CX0 4 "_law_jobs" ["store", "most", "late"] (spJobs K))
    (LG : Cl P w K mg base CX0 3 "_law_log" ["store", "jobs", "cores", "wide"] (spLog K)) (IL : Cl P w K mg base CX0 1 "_law_is_int" ["value", "least"] (spInteger K)) (ZR : Cl P w K mg base CX0 8 "_law_zero_right" ["jobs", "last", "cores"] (spZero K T))
    (LF : Cl P w K mg base CX0 2 "_law_log_fault" ["log"] (spLogFault K)) (CE : Cl P w K mg base CX0 2 "_law_certificate" ["jobs", "log", "cores"] (spCert K))
    (CO : ClM P w K mg base (L2.CX P w) 7 "count_logs" ["jobs", "last", "processors"] 2 ["processors"] (fun vs zs => vs ++ zs) (spCountLogs K T))
    (NL : ClM P w K mg base (L2.CX P w) 7 "nth_log" ["jobs", "last", "number", "processors"] 3 ["processors"] (fun vs zs => vs ++ zs) (spNthLog K T C))
    (NU : ClM P w K mg base (L2.CX P w) 7 "number_of_log" ["jobs", "log", "last", "processors"] 3 ["processors"] (fun vs zs => vs ++ zs) (spNumLog K T)) :
    FnOk P w K mg base CX0 9 f fd ["script"] (spLaw K T) := by
  refine F.ok scLaw (fun vs H Q E h => ?_) (fun cdv A outer s H vs Q E hr h => ?_)
  · obtain ⟨a, ns, rfl, _⟩ := h
    rfl
  · obtain ⟨a, ns, rfl, hS, hlen, tg, k⟩ := h
    obtain ⟨fC, fdC, gC, mC, kpC, kbC, FC⟩ := CO.ex
    obtain ⟨fN, fdN, gN, mN, kpN, kbN, FN⟩ := NL.ex
    obtain ⟨fU, fdU, gU, mU, kpU, kbU, FU⟩ := NU.ex
    refine ⟨_, pss_cons (ps_set (i := 1) scLaw.nd rfl (Or.inl rfl) (pc ST hr (by decide) (pa_cons (pv 0) pa_nil)))
      (pss_cons (ps_for PassesOwn.never rfl (pi_range1 rfl B.range (pa_cons pe_int pa_nil)) (pg_name (i := 2) scLaw.nd rfl (Or.inl rfl))
        (pss_cons (ps_set (i := 3) scLaw.nd rfl (Or.inl rfl) (pc JB hr (by decide) (pa_cons (pv 1) (pa_cons (pe_ix ix_list (pe_lst (pa_cons pe_int (pa_cons pe_int pa_nil))) (pv 2) (fun _ _ => rfl)) (pa_cons pe_int pa_nil)))))
        (pss_cons (ps_set (i := 4) scLaw.nd rfl (Or.inl rfl) (pe_op op_add pe_int (pc PK hr (by decide) (pa_cons (pv 1) (pa_cons pe_int pa_nil)))))
        (pss_cons (ps_set (i := 5) scLaw.nd rfl (Or.inl rfl) (pe_ix ix_list (pe_lst (pa_cons pe_int (pa_cons (pc PK hr (by decide) (pa_cons (pv 1) (pa_cons pe_int pa_nil))) pa_nil))) (pc PK hr (by decide) (pa_cons (pv 1) (pa_cons pe_int pa_nil))) (fun _ _ => rfl)))
        (pss_cons (ps_set (i := 6) scLaw.nd rfl (Or.inl rfl) (pe_callM (ex := fun _ => E0) FC (hr.mono (by decide)) rfl mC kpC kbC passA (pa_cons (pv 3) (pa_cons (pv 5) pa_nil)) (pk_cons (pv 4) pk_nil)))
        (pss_cons (ps_if (PW.pt (pw_or (pt_not (pt_val (pc IL hr (by decide) (pa_cons (pv 6) (pa_cons pe_int pa_nil))))) (pw_or1 (PW.pt (pw_and (pt_cmpR op_eq (pv 6) pe_int (nomark _)) (pw_and1 (pt_not (pt_val (pc ZR hr (by decide) (pa_cons (pv 3) (pa_cons (pv 5) (pa_cons (pv 4) pa_nil)))))))))))) (pss_one (ps_ret pe_bl)) pss_nil)
        (pss_cons (ps_set (i := 7) scLaw.nd rfl (Or.inl rfl) (pc PK hr (by decide) (pa_cons (pv 1) (pa_cons (pe_callB (call_max2 rfl) (by rfl) mx (by decide +kernel) (pa_cons pe_int (pa_cons (pe_callB (call_min2 rfl) (by rfl) mn (by decide +kernel) (pa_cons (pv 6) (pa_cons (pe_op op_pow pe_int pe_int) pa_nil))) pa_nil))) pa_nil))))
        (pss_cons (ps_set (i := 8) scLaw.nd rfl (Or.inl rfl) (pe_lst pa_nil))
        (pss_cons (ps_for PassesOwn.never rfl (pi_list (pe_op op_rep (pe_callB cr_sorted (by rfl) mso (by decide +kernel) (pa_cons (pe_lst (pa_cons pe_int (pa_cons (pe_callB (call_max2 rfl) (by rfl) mx (by decide +kernel) (pa_cons pe_int (pa_cons (pe_op op_sub (pv 6) pe_int) pa_nil))) (pa_cons (pv 7) (pa_cons (pe_callB (call_min2 rfl) (by rfl) mn (by decide +kernel) (pa_cons (pe_op op_add (pv 7) pe_int) (pa_cons (pe_callB (call_max2 rfl) (by rfl) mx (by decide +kernel) (pa_cons pe_int (pa_cons (pe_op op_sub (pv 6) pe_int) pa_nil))) pa_nil))) pa_nil))))) pa_nil))
            (pe_callTy call_int1 (by rfl) B.int (by decide +kernel) (pa_cons (pe_cmpR op_gt (pv 6) pe_int (nomark _)) pa_nil)))) (pg_name (i := 9) scLaw.nd rfl (Or.inl rfl))
          (pss_cons (ps_set (i := 10) scLaw.nd rfl (Or.inl rfl) (pe_callM (ex := fun _ => E0) FN (hr.mono (by decide)) rfl mN kpN kbN passA (pa_cons (pv 3) (pa_cons (pv 5) (pa_cons (pv 9) pa_nil))) (pk_cons (pv 4) pk_nil)))
          (pss_cons (ps_if (PW.pt (pw_or (pt_cmpR op_notN (pc LF hr (by decide) (pa_cons (pv 10) pa_nil)) pe_non (nomark _)) (pw_or1 (pt_cmpR op_notN (pc CE hr (by decide) (pa_cons (pv 3) (pa_cons (pv 10) (pa_cons (pv 4) pa_nil)))) pe_non (nomark _))))) (pss_one (ps_ret pe_bl)) pss_nil)
          (pss_cons (ps_if (PW.pt (pw_or (PW.pt (pw_and (pt_cmpR (op_neNilT hr.units0) (pv 10) (pe_tup pa_nil) (nomark _)) (pw_and1 (pt_cmpR op_gt (pe_ix ix_tup (pe_ix ix_tup (pv 10) (pe_un un_neg pe_int) (fun _ _ => rfl)) pe_int (fun _ _ => rfl)) (pv 5) (nomark _))))) (pw_or1 (pt_cmpR op_ne (pe_callM (ex := fun _ => E0) FU (hr.mono (by decide)) rfl mU kpU kbU passA (pa_cons (pv 3) (pa_cons (pv 10) (pa_cons (pv 5) pa_nil))) (pk_cons (pv 4) pk_nil)) (pv 9) (nomark _))))) (pss_one (ps_ret pe_bl)) pss_nil)
          (pss_one (ps_expr (pe_bm PySem.F.plainAttrs_list PySem.F.slot_list_append PySem.F.type_list_append mt_append (pv 8) (pa_cons (pe_tup (pa_cons (pv 9) (pa_cons (pv 10) pa_nil))) pa_nil))))))))
        (pss_cons (ps_if (pt_cmpR (op_neNilL hr.units0) (pe_lc (own := [("one", 11), ("two", 12)]) (g := gTup K 2 (gCons (gName 11) (gCons (gName 12) gNil))) (tt := tTest (tOp rNe (tOp (rI0 fun i j => .bl (decide (i < j))) (tOp (rIxT K) (tVar 11) (tC (.int 0))) (tOp (rIxT K) (tVar 12) (tC (.int 0)))) (tOp (rLtD K 64) (tOp (rIxT K) (tVar 11) (tC (.int 1))) (tOp (rIxT K) (tVar 12) (tC (.int 1)))))) (te := tC (.int 1)) (by rfl) scLaw.nd (pi_zip (by rfl) mz (pa_cons (pv 8) (pa_cons (pe_slice sl_list (pv 8) (po_some pe_int) po_none) pa_nil)))
              (blkOk_by (own := [("one", 11), ("two", 12)]) (N := ["script", "store", "turn", "jobs", "cores", "last", "total", "any_one", "kept", "number", "log", "one", "two"]) (sc := defScope sLaw) (by decide +kernel)) (fun _ _ _ _ _ => pg_tup rfl (pgs_cons (pg_name (i := 11) scLaw.nd rfl (Or.inl rfl)) (pgs_cons (pg_name (i := 12) scLaw.nd rfl (Or.inl rfl)) pgs_nil)))
              (fun _ _ _ _ _ => pts_one (pt_cmpR op_ne (pe_cmpR op_lt (pe_ix ix_tup (pv 11) pe_int (fun _ _ => rfl)) (pe_ix ix_tup (pv 12) pe_int (fun _ _ => rfl)) (nomark _)) (pe_cmpR (op_ltD hr.units) (pe_ix ix_tup (pv 11) pe_int (fun _ _ => rfl)) (pe_ix ix_tup (pv 12) pe_int (fun _ _ => rfl)) (nomark _)) (nomark _))) (fun _ _ _ _ _ => pe_int)) (pe_lst pa_nil) (nomark _)) (pss_one (ps_ret pe_bl)) pss_nil)
        (pss_cons (ps_set (i := 10) scLaw.nd rfl (Or.inl rfl) (pc LG hr (by decide) (pa_cons (pv 1) (pa_cons (pv 3) (pa_cons (pv 4) (pa_cons pe_int pa_nil))))))
        (pss_one (ps_if (PW.pt (pw_or (pt_cmpR (op_eqNilT hr.units0) (pv 10) (pe_tup pa_nil) (nomark _)) (pw_or1 (pt_cmpR op_le (pe_ix ix_tup (pe_ix ix_tup (pv 10) (pe_un un_neg pe_int) (fun _ _ => rfl)) pe_int (fun _ _ => rfl)) (pv 5) (nomark _)))))
          (pss_cons (ps_set (i := 9) scLaw.nd rfl (Or.inl rfl) (pe_callM (ex := fun _ => E0) FU (hr.mono (by decide)) rfl mU kpU kbU passA (pa_cons (pv 3) (pa_cons (pv 10) (pa_cons (pv 5) pa_nil))) (pk_cons (pv 4) pk_nil)))
          (pss_one (ps_if (PW.pt (pw_or (pt_not (pt_chain op_le op_lt pe_int (pv 9) (pv 6))) (pw_or1 (pt_cmpR (op_neD hr.units) (pe_callM (ex := fun _ => E0) FN (hr.mono (by decide)) rfl mN kpN kbN passA (pa_cons (pv 3) (pa_cons (pv 5) (pa_cons (pv 9) pa_nil))) (pk_cons (pv 4) pk_nil)) (pv 10) (nomark _))))) (pss_one (ps_ret pe_bl)) pss_nil))) pss_nil)))))))))))))
      (pss_one (ps_ret pe_bl))), ?_⟩
    refine ⟨_, rfl, a, ns, rfl, hS, hlen, fun st sc H1 s1 nst S1 => ?_⟩
    have tg1 := s1.tab T tg
    refine ⟨2, rfl, by decide, by decide, ?_⟩
    refine for_range (lo := 0) (n := 2) (fun i σ G => ∃ (u2 u3 u4 u5 u6 u7 u8 u9 u10 : Option V), σ = [some (.ref a), some (.ref st), u2, u3, u4, u5, u6, u7, u8, u9, u10, none, none] ∧ Sto sc st (2000 * i) G ∧ TabG G T)
      ⟨none, none, none, none, none, none, none, none, none, rfl, S1.more (by omega), tg1⟩ ?_ ?_
    case refine_2 =>
      rintro σ G ⟨u2, u3, u4, u5, u6, u7, u8, u9, u10, rfl, _, _⟩
      exact k G
    rintro i σ G hi ⟨u2, u3, u4, u5, u6, u7, u8, u9, u10, rfl, SG, tG⟩
    -- jobs
    refine ⟨_, rfl, (by show 2 ≤ sizeLine; decide), fun q nq => ?_⟩
    have sq := same_new (o := .lst [.int 6, .int 12]) nq
    obtain ⟨mo, hmo, mo0, mo12⟩ : ∃ mo : Int, atI [V.int 6, .int 12] ((0 : Int) + (i : Nat)) = some (.int mo) ∧ 0 ≤ mo ∧ mo ≤ 12 := by
      rw [Int.zero_add]
      match i, hi with
      | 0, _ => exact ⟨6, rfl, by decide, by decide⟩
      | 1, _ => exact ⟨12, rfl, by decide, by decide⟩
    refine ⟨_, rfl, q, _, _, _, rfl, rfl, SqL.of upd_same, hmo, st, sc, 2000 * i, mo, 20, rfl, SG.same sq, by omega, mo0, mo12, by decide, by decide, fun v js G1 SG1 KG1 dv okj l12 fine _ => ?_⟩
    have tG1 := KG1.tab (SG.same sq) (sq.tab T tG)
    have jp := fine_place okj fine
    -- cores
    refine ⟨_, rfl, st, sc, 8, _, rfl, by decide, by decide, SG1, by omega, fun r G2 r0 r8 SG2 KG2 => ?_⟩
    have tG2 := KG2.tab SG1 tG1
    refine ⟨_, _, rfl, rfl, ?_⟩
    -- last
    refine ⟨_, rfl, st, sc, 61, _, rfl, by decide, by decide, SG2, by omega, fun r1 G3 r10 r11 SG3 KG3 => ?_⟩
    have tG3 := KG3.tab SG2 tG2
    refine ⟨(by show 2 ≤ sizeLine; decide), fun q2 nq2 => ?_⟩
    have sq2 := same_new (o := .lst [.int 60, .int r1]) nq2
    have q2a := SG3.ne nq2
    refine ⟨_, rfl, st, sc, 2, _, rfl, by decide, by decide, SG3.same sq2, by omega, fun z G4 z0 z2 SG4 KG4 => ?_⟩
    have tG4 := KG4.tab (SG3.same sq2) (sq2.tab T tG3)
    obtain ⟨lv, hlv, mlv⟩ := atI_mem (xs := [V.int 60, .int r1]) z0 (by simpa using z2)
    refine ⟨q2, _, _, lv, rfl, rfl, SqL.of (KG4.at upd_same q2a), hlv, ?_⟩
    obtain ⟨la, la60, rfl⟩ : ∃ la : Nat, la ≤ 60 ∧ lv = .int (la : Nat) := by
      simp only [List.mem_cons, List.not_mem_nil, or_false] at mlv
      rcases mlv with rfl | rfl
      · exact ⟨60, by omega, rfl⟩
      · exact ⟨r1.toNat, by omega, by rw [show ((r1.toNat : Nat) : Int) = r1 by omega]⟩
    have dv4 : Dp K (Off st G4) v (.tuple js) := dp_same KG4 (dp_up sq2 (dp_same KG3 (dp_same KG2 dv)))
    -- total
    have J4 : JobsOk K T G4 v js la (1 + r) := ⟨dp_on dv4, okj, by omega, jp, tG4, by omega, by omega⟩
    refine ⟨_, rfl, _, rfl, _, rfl, rfl, rfl, v, js, la, 1 + r, rfl, J4, fun G5 s5 => ?_⟩
    have J5 := J4.same s5
    have SG5 := SG4.same s5
    have dv5 := dp_up s5 dv4
    generalize hrun : runJ js (1 + r) = run
    generalize htot : R run (js.length : Int) la 0 0 = tot
    have tot0 : 0 ≤ tot := by
      rw [← htot]
      exact R_nn _ _ _
    refine ⟨_, rfl, .int tot, .int tot, 0, rfl, .int tot, _, rfl, ?_⟩
    rw [show integerD 0 (.int tot) = true from decide_eq_true tot0]
    refine iteF ?_
    apply cutR (α := L2.St → Hp → Prop) (F := fun R => ∀ H6, Same G5 H6 → R [some (.ref a), some (.ref st), some (.int (0 + (i : Nat))), some v, some (.int (1 + r)), some (.int (la : Nat)), some (.int tot), u7, u8, u9, u10, none, none] H6)
    · intro cont
      refine ⟨_, rfl, rfl, _, rfl, ?_⟩
      by_cases ht : tot = 0
      · rw [show decide (V.int tot = V.int 0) = true from decide_eq_true (by rw [ht])]
        refine iteT ⟨_, rfl, _, rfl, _, rfl, v, js, la, 1 + r, rfl, J5, by rw [hrun, htot]; omega, fun H6 s6 => ⟨_, rfl, iteF ?_⟩⟩
        exact cont H6 s6
      · rw [show decide (V.int tot = V.int 0) = false from decide_eq_false (fun e => ht (V.int.inj e))]
        exact iteF (iteF (cont G5 (Same.refl G5)))
    intro G6 s6
    have J6 := J5.same s6
    have SG6 := SG5.same s6
    have dv6 := dp_up s6 dv5
    -- any_one
    refine ⟨_, rfl, _, rfl, _, _, rfl, rfl, ⟨by decide, by decide, by decide⟩, tot, (10 : Int) ^ 7, rfl, 1, _, rfl, ?_⟩
    have mi : (if (10 : Int) ^ 7 < tot then (10 : Int) ^ 7 else tot) = min tot 10000000 := by
      have e : (10 : Int) ^ 7 = 10000000 := by decide
      rw [e]
      split <;> omega
    refine ⟨st, sc, _, _, rfl, ?_, ?_, SG6, by omega, fun an G7 an0 anm SG7 KG7 => ?_⟩
    · show (0 : Int) < if (if (10 : Int) ^ 7 < tot then (10 : Int) ^ 7 else tot) > 1 then (if (10 : Int) ^ 7 < tot then (10 : Int) ^ 7 else tot) else 1
      rw [mi]
      split <;> omega
    · show (if (if (10 : Int) ^ 7 < tot then (10 : Int) ^ 7 else tot) > 1 then (if (10 : Int) ^ 7 < tot then (10 : Int) ^ 7 else tot) else 1) < 1000000000
      rw [mi]
      split <;> omega
    have anT : 0 < tot → an < tot := fun hp => by
      have z : an < if (if (10 : Int) ^ 7 < tot then (10 : Int) ^ 7 else tot) > 1 then (if (10 : Int) ^ 7 < tot then (10 : Int) ^ 7 else tot) else 1 := anm
      rw [mi] at z
      split at z <;> omega
    have dv7 := dp_same KG7 dv6
    have J7 : JobsOk K T G7 v js la (1 + r) := ⟨dp_on dv7, J6.2.1, J6.2.2.1, J6.2.2.2.1, KG7.tab SG6 J6.2.2.2.2.1, J6.2.2.2.2.2.1, J6.2.2.2.2.2.2⟩
    -- kept, the numbers
    refine ⟨(by show 0 ≤ sizeLine; decide), fun kp nkp => ?_⟩
    have s8 := same_new (o := .lst []) nkp
    have kpa := SG7.ne nkp
    have kpsc := SG7.ne2 nkp
    refine ⟨_, rfl, _, _, rfl, rfl, 0, _, rfl, _, rfl, _, rfl, _, _, rfl, rfl, _, rfl, _, _, rfl, rfl, 0, _, rfl, _, _, rfl, (by show 4 ≤ sizeLine; decide), fun q3 nq3 => ?_⟩
    have s9 := same_new (o := .lst ([0, if tot - 1 > 0 then tot - 1 else 0, an, if (if tot - 1 > 0 then tot - 1 else 0) < an + 1 then (if tot - 1 > 0 then tot - 1 else 0) else an + 1].map V.int)) nq3
    refine ⟨q3, [0, if tot - 1 > 0 then tot - 1 else 0, an, if (if tot - 1 > 0 then tot - 1 else 0) < an + 1 then (if tot - 1 > 0 then tot - 1 else 0) else an + 1], rfl, SqL.of upd_same, (by show 4 < 64; decide), fun ms p4 perm srt np4 => ?_⟩
    have s10 := same_new (o := .lst (ms.map V.int)) np4
    have hms : ms.length = 4 := perm.length_eq
    have mem : ∀ m ∈ ms, 0 ≤ m ∧ (0 < tot → m < tot) := fun m hm => by
      have z := perm.mem_iff.mp hm
      simp only [List.mem_cons, List.not_mem_nil, or_false] at z
      rcases z with rfl | rfl | rfl | rfl
      · exact ⟨Int.le_refl 0, fun h => h⟩
      · split <;> exact ⟨by omega, fun h => by omega⟩
      · exact ⟨an0, anT⟩
      · have := anT
        split <;> split <;> exact ⟨by omega, fun h => by omega⟩
    refine ⟨_, rfl, _, _, rfl, rfl, .inr ⟨_, rfl, p4, _, ms.map V.int, rfl, rfl, upd_same, ?_, ?_, ?_, fun q5 nq5 => ?_⟩⟩
    · split <;> decide
    · split <;> decide
    · rw [List.length_map, hms]
      split <;> decide
    obtain ⟨nums, enums, mnums, snums⟩ : ∃ nums : List Int, (List.replicate (if decide (tot > 0) = true then (1 : Int) else 0).toNat (ms.map V.int)).flatten = nums.map V.int ∧ (∀ m ∈ nums, 0 ≤ m ∧ m < tot) ∧ nums.Pairwise (· ≤ ·) := by
      by_cases hp : tot > 0
      · rw [decide_eq_true hp]
        exact ⟨ms, by simp, fun m hm => ⟨(mem m hm).1, (mem m hm).2 hp⟩, srt⟩
      · rw [decide_eq_false hp]
        exact ⟨[], by simp, fun m hm => absurd hm (by simp), .nil⟩
    have lnums : nums.length ≤ 4 := by
      have z := congrArg List.length enums
      rw [List.length_map, List.length_flatten] at z
      have e : (List.replicate (if decide (tot > 0) = true then (1 : Int) else 0).toNat (ms.map V.int)).map List.length = List.replicate (if decide (tot > 0) = true then (1 : Int) else 0).toNat 4 := by
        rw [List.map_replicate, List.length_map, hms]
      rw [e] at z
      by_cases hp : tot > 0
      · rw [decide_eq_true hp] at z
        simp at z
        omega
      · rw [decide_eq_false hp] at z
        simp at z
        omega
    have sall := (s9.trans s10).trans (same_new (o := .lst (List.replicate (if decide (tot > 0) = true then (1 : Int) else 0).toNat (ms.map V.int)).flatten) nq5)
    rw [enums] at sall ⊢
    have k5 : kp ≠ q5 := ne_of_none ((s9.trans s10).at upd_same) nq5
    have S0 := off_mono (a := kp) sall
    rw [off_upd, off_none nkp] at S0
    refine ⟨q5, rfl, ⟨_, SqL.of upd_same⟩, ?_⟩
    refine for_it (D := { nx := _, rt := Q }) (walk_list (K := K) (a := q5) (xs := nums.map V.int)) (fun j σ J => ∃ (xk : List V) (w9 w10 : Option V), σ = [some (.ref a), some (.ref st), some (.int (0 + (i : Nat))), some v, some (.int (1 + r)), some (.int (la : Nat)), some (.int tot), some (.int an), some (.ref kp), w9, w10, none, none] ∧ Same G7 (Off kp J) ∧ Off kp J q5 = some (.lst (nums.map V.int)) ∧ J kp = some (.lst xk) ∧ DpAll K (Off kp J) xk ((nums.take j).map fun m => .tuple [.int m, .tuple ((nthL run (js.length : Int) la 0 0 m).map pairP)]))
      ⟨[], u9, u10, rfl, S0, by rw [off_ne k5.symm]; exact upd_same, sall.at upd_same, .nil⟩ (fun j σ J _ ⟨_, _, _, _, _, hq, _⟩ => SqL.of ((off_sub kp J).at hq)) ?_ ?_
    · rintro j y σ J0 J hj ⟨xk, w9, w10, rfl, sJ, hq, hk, dk⟩ ⟨rfl, hy⟩
      rw [List.getElem?_map] at hy
      obtain ⟨m, hm, rfl⟩ := Option.map_eq_some_iff.mp hy
      obtain ⟨m0, mT⟩ := mnums m (List.mem_of_getElem? hm)
      have sJ1 := sJ.trans (off_sub kp J)
      obtain ⟨n1, n2, n3, n4⟩ := nth_ok (run := run) (n := (js.length : Int)) la 0 0 m m0 (by rw [htot]; exact mT)
      -- log
      refine ⟨_, rfl, _, rfl, _, rfl, _, rfl, rfl, rfl, v, js, la, m, 1 + r, rfl, J7.same sJ1, m0, fun _ p xs G8 s8' wh dps => ?_, fun h => absurd h (by rw [hrun, htot]; omega)⟩
      rw [hrun] at dps
      have n2' : ∀ q ∈ nthL run (js.length : Int) la 0 0 m, q.1 ≤ (la : Int) := fun q hq => by have := n2 q hq; omega
      have len9 := asc_len n1 n3
      generalize hlg : nthL run (js.length : Int) la 0 0 m = lg at dps n1 n3 n4 n2' len9
      have cok : certD js (1 + r) 0 lg = .none := R_cert (by rw [hrun]; exact n3)
      have L8 : LogOk K G8 p xs js (1 + r) la lg := ⟨wh, dps, by omega, n1, cok, n2'⟩
      have lnn := log_none n1
      have ll : lenLog (.tuple (lg.map pairP)) ≤ 50000 := by
        show (lg.map pairP).length ≤ 50000
        rw [List.length_map]
        omega
      refine ⟨_, rfl, .ref p, _, rfl, L8.dp, ll, fun G9 t9 => ?_⟩
      rw [lnn]
      refine ⟨rfl, _, rfl, iteF ?_⟩
      have L9 := L8.same t9
      have t89 := s8'.trans t9
      have J9 := J7.same (sJ1.trans t89)
      refine ⟨_, rfl, _, rfl, _, rfl, v, .ref p, js, lg, 1 + r, rfl, J9.1, okj, by omega, L9.dp, fun cv G10 t10 df => ?_⟩
      rw [cok] at df
      have ecv := dp_none df
      subst ecv
      refine ⟨rfl, _, rfl, iteF ?_⟩
      have L10 := L9.same t10
      have t810 := t89.trans t10
      have J10 := J9.same t10
      apply cutR (α := Hp → Prop) (F := fun R => ∀ H', Same G10 H' → R H')
      · intro cont
        refine ⟨_, rfl, (by show 0 ≤ sizeLine; decide), fun e ne => ?_⟩
        have se := same_new (o := .tup []) ne
        refine ⟨p, e, xs, rfl, rfl, (L10.wh.same se).tup, SqT.of upd_same, _, rfl, ?_⟩
        have L11 := L10.same se
        generalize upd G10 e (.tup []) = G11 at se L11 ⊢
        have xl := dps_len L11.dps
        rw [List.length_map] at xl
        rcases List.eq_nil_or_concat lg with e | ⟨l0, q, e⟩
        · have en2 : (!xs.isEmpty) = false := by
            have ex : xs = [] := List.eq_nil_of_length_eq_zero (by rw [xl, e]; rfl)
            rw [ex]
            rfl
          rw [en2]
          exact iteF (iteF (cont G11 se))
        · have en : xs ≠ [] := fun z => by rw [z, e] at xl; simp at xl
          have en2 : (!xs.isEmpty) = true := by cases xs with | nil => exact absurd rfl en | cons _ _ => rfl
          rw [en2]
          have rt2 := L11.dps
          rw [e, List.concat_eq_append, List.map_append] at rt2
          obtain ⟨ys, z, exs, dz⟩ := dps_end rt2
          obtain ⟨pp, xv, yv, rfl, qp, dx, dy⟩ := dp_two dz
          have ex := dp_int dx
          subst ex
          have hq1 : q.1 ≤ (la : Int) := n2' q (by rw [e, List.concat_eq_append]; simp)
          refine iteT ⟨_, rfl, _, rfl, p, xs, _, .ref pp, rfl, rfl, L11.wh.tup, by rw [exs]; exact atI_last _ _, pp, _, 0, _, rfl, rfl, qp, rfl, _, rfl, _, _, rfl, rfl, _, rfl, ?_⟩
          rw [decide_eq_false (show ¬ q.1 > ((la : Nat) : Int) from by omega)]
          exact iteF (cont G11 se)
      intro G11 t11
      have L11 := L10.same t11
      refine ⟨_, rfl, _, rfl, _, rfl, _, rfl, rfl, rfl, v, js, la, 1 + r, p, xs, lg, rfl, J10.same t11, L11, fun G12 t12 => ⟨_, rfl, rfl, _, rfl, ?_⟩⟩
      rw [hrun, n4]
      rw [show (!decide (V.int m = V.int m)) = false by simp]
      refine iteF ?_
      have tJ := (t810.trans t11).trans t12
      have L12 := L11.same t12
      have hk12 := tJ.at hk
      refine ⟨_, rfl, .inl ⟨rfl, _, SqL.of hk12⟩, _, rfl, _, rfl, (by show 2 ≤ sizeLine; decide), fun t nt => ?_⟩
      have st := same_new (o := .tup [V.int m, .ref p]) nt
      have tk : t ≠ kp := (ne_of_none hk12 nt).symm
      have pk : p ≠ kp := fun z => by
        obtain ⟨o, ho, _⟩ := L12.wh
        rw [z, hk12] at ho
        cases ho
      have xkl := dps_len dk
      rw [List.length_map, List.length_take] at xkl
      have om : Same (Off kp J) (Off kp (upd G12 t (.tup [V.int m, .ref p]))) := off_mono (tJ.trans st)
      refine ⟨kp, _, _, rfl, rfl, st.at hk12, ?_, xk ++ [.ref t], _, _, rfl, ?_, ?_, upd_same, ?_⟩
      · exact Nat.lt_of_le_of_lt (show xk.length ≤ 1000 by omega) (by decide)
      · rw [off_upd]
        exact sJ.trans om
      · rw [off_upd]
        exact om.at hq
      · rw [off_upd, List.take_add_one, hm, List.map_append]
        refine dps_app (dps_same om dk) (.cons (.tup (a := t) (SqT.of (by rw [off_ne tk, upd_same])) (.cons (.int _) (.cons ?_ .nil))) .nil)
        rw [hlg]
        have L13 := L12.same st
        exact .tup (tup_off (st.at hk12) L13.wh.tup) (pairs_off (st.at hk12) L13.dps)
    rintro σ J ⟨xk, w9, w10, rfl, sJ, hq, hk, dk⟩
    rw [List.length_map, List.take_length] at dk
    have sJ1 := sJ.trans (off_sub kp J)
    have xkl := dps_len dk
    rw [List.length_map] at xkl
    refine ⟨_, rfl, _, rfl, _, rfl, ?_⟩
    dsimp only [tNoPart]
    refine ⟨kp, xk, rfl, SqL.of hk, fun kp2 nk2 => ⟨kp, kp2, _, _, rfl, SqL.of ((same_new nk2).at hk), SqL.of upd_same, fun D nD => ?_⟩⟩
    have hcut : ∀ j : Nat, (cutV xk (some 1) none)[j]? = xk[1 + j]? := fun j => by
      unfold cutV
      rw [HT.sIx_none, show (some (1 : Int)) = some ((1 : Nat) : Int) from rfl, HT.sIx_nat]
      by_cases h1 : 1 ≤ xk.length
      · rw [Nat.min_eq_left h1, List.take_of_length_le (by rw [List.length_drop]; omega), List.getElem?_drop]
      · have e0 : xk = [] := List.eq_nil_of_length_eq_zero (by omega)
        rw [e0]
        simp
    have sk2 := same_new (o := .lst (cutV xk (some 1) none)) nk2
    have hk2 : upd J kp2 (.lst (cutV xk (some 1) none)) kp2 = some (.lst (cutV xk (some 1) none)) := upd_same
    have hkk := sk2.at hk
    generalize upd J kp2 (.lst (cutV xk (some 1) none)) = J2 at sk2 hk2 hkk nD ⊢
    refine lc_it (walk_zip (K := K) (a := kp) (b := kp2) (xs := xk) (ys := cutV xk (some 1) none) rfl) (fun j Hc => Hc D = some (.lst []) ∧ Same J2 (Off D Hc)) ⟨upd_same, by rw [off_upd, off_none nD]; exact Same.refl _⟩ (fun j Hc _ ⟨_, sD⟩ => ⟨SqL.of ((sD.trans (off_sub D Hc)).at hkk), SqL.of ((sD.trans (off_sub D Hc)).at hk2)⟩) ?_ ?_
    · rintro j x Hc Hc' hj ⟨hD, sD⟩ ⟨T1, x1, x2, rfl, nT1, rfl, hx1, hx2⟩
      replace hx1 : xk[j]? = some x1 := hx1
      replace hx2 : (cutV xk (some 1) none)[j]? = some x2 := hx2
      rw [hcut] at hx2
      obtain ⟨d1, hd1, dd1⟩ := dps_getV dk hx1
      obtain ⟨d2, hd2, dd2⟩ := dps_getV dk hx2
      rw [List.getElem?_map] at hd1 hd2
      obtain ⟨m1, hm1, rfl⟩ := Option.map_eq_some_iff.mp hd1
      obtain ⟨m2, hm2, rfl⟩ := Option.map_eq_some_iff.mp hd2
      have s13 := (sk2.trans (sD.trans (off_sub D Hc))).trans (same_new (o := .tup [x1, x2]) nT1)
      obtain ⟨t1, a1, b1, rfl, q1, da1, db1⟩ := dp_two (dp_same ((off_sub kp J).trans s13) dd1)
      obtain ⟨t2, a2, b2, rfl, q2', da2, db2⟩ := dp_two (dp_same ((off_sub kp J).trans s13) dd2)
      have e1 := dp_int da1
      subst e1
      have e2 := dp_int da2
      subst e2
      have le12 : m1 ≤ m2 := by
        obtain ⟨h1, h2⟩ := List.getElem?_eq_some_iff.mp hm1
        obtain ⟨h3, h4⟩ := List.getElem?_eq_some_iff.mp hm2
        have z := List.pairwise_iff_getElem.mp snums j (1 + j) h1 h3 (by omega)
        rw [h2, h4] at z
        exact z
      obtain ⟨m10, m1T⟩ := mnums m1 (List.mem_of_getElem? hm1)
      obtain ⟨m20, m2T⟩ := mnums m2 (List.mem_of_getElem? hm2)
      have same : decide (m1 < m2) = ltL (nthL run (js.length : Int) la 0 0 m1) (nthL run (js.length : Int) la 0 0 m2) := by
        by_cases lt : m1 < m2
        · rw [decide_eq_true lt, nth_mono la 0 0 m1 m2 m10 lt (by rw [htot]; exact m2T)]
        · have e : m1 = m2 := by omega
          rw [decide_eq_false lt, e, ltL_self]
      refine ⟨T1, _, rfl, SqT.of upd_same, rfl, _, _, rfl, _, _, rfl, rfl, rfl, ?_⟩
      refine ⟨_, rfl, t1, _, 0, _, rfl, rfl, q1, rfl, _, rfl, t2, _, 0, _, rfl, rfl, q2', rfl, _, _, rfl, rfl, _, rfl, t1, _, 1, _, rfl, rfl, q1, rfl, _, rfl, t2, _, 1, _, rfl, rfl, q2', rfl, _, _, db1, db2, log_alike _ _, (fun z => nomatch z), ?_, rfl, _, rfl, ?_⟩
      · have := log_depth (nthL run (js.length : Int) la 0 0 m1)
        omega
      rw [logs_lt, ← same]
      rw [show (!decide (V.bl (decide (m1 < m2)) = V.bl (decide (m1 < m2)))) = false by simp]
      refine iteF ?_
      have tD : T1 ≠ D := (ne_of_none hD nT1).symm
      refine ⟨(same_new nT1).at hD, sD.trans (off_mono (same_new nT1))⟩
    rintro Hc ⟨hD, sD⟩
    refine ⟨(by show 0 ≤ sizeLine; decide), fun e ne => ?_⟩
    have se := same_new (o := .lst []) ne
    refine ⟨D, e, [], rfl, rfl, SqL.of (se.at hD), SqL.of upd_same, _, rfl, iteF ?_⟩
    have sC := (sJ1.trans (sk2.trans (sD.trans (off_sub D Hc)))).trans se
    generalize upd Hc e (.lst []) = C0 at sC ⊢
    have SC := SG7.same sC
    have JC := J7.same sC
    have dvC := dp_up sC dv7
    -- a log of the law's own
    refine ⟨_, rfl, _, rfl, _, rfl, st, sc, _, v, js, 1 + r, 4, rfl, SC, by omega, dvC, okj, l12, fine, by omega, by decide, by decide, fun p xs lg C1 SC1 KC1 wh dps asc ll cok => ?_⟩
    have LC : Whole C1 p xs ∧ DpAll K C1 xs (lg.map pairP) := ⟨wh, dps_same (off_sub st C1) dps⟩
    have JC1 : JobsOk K T C1 v js la (1 + r) := ⟨dp_on (dp_same KC1 dvC), JC.2.1, JC.2.2.1, JC.2.2.2.1, KC1.tab SC JC.2.2.2.2.1, JC.2.2.2.2.2.1, JC.2.2.2.2.2.2⟩
    have xl := dps_len LC.2
    rw [List.length_map] at xl
    have fin : ∀ {G' : Hp}, Same C1 G' → Sto sc st (2000 * ((i + 1 : Nat) : Int)) G' ∧ TabG G' T := fun s => ⟨(SC1.same s).more (by omega), s.tab T JC1.2.2.2.2.1⟩
    by_cases hin : ∀ q ∈ lg, q.1 ≤ (la : Int)
    · apply cutR (α := Hp → Prop) (F := fun R => ∀ H', Same C1 H' → R H')
      · intro cont
        refine ⟨_, rfl, (by show 0 ≤ sizeLine; decide), fun e ne => ?_⟩
        have se := same_new (o := .tup []) ne
        refine ⟨p, e, xs, rfl, rfl, (LC.1.same se).tup, SqT.of upd_same, _, rfl, ?_⟩
        have LD := dps_same se LC.2
        have wD := LC.1.same se
        generalize upd C1 e (.tup []) = C2 at se LD wD ⊢
        rcases List.eq_nil_or_concat lg with e | ⟨l0, q, e⟩
        · have en2 : xs.isEmpty = true := by
            have ex : xs = [] := List.eq_nil_of_length_eq_zero (by rw [xl, e]; rfl)
            rw [ex]
            rfl
          rw [en2]
          exact iteT (iteT (cont C2 se))
        · have en2 : xs.isEmpty = false := by
            have en : xs ≠ [] := fun z => by rw [z, e] at xl; simp at xl
            cases xs with | nil => exact absurd rfl en | cons _ _ => rfl
          rw [en2]
          have rt2 := LD
          rw [e, List.concat_eq_append, List.map_append] at rt2
          obtain ⟨ys, z, exs, dz⟩ := dps_end rt2
          obtain ⟨pp, xv, yv, rfl, qp, dx, dy⟩ := dp_two dz
          have ex := dp_int dx
          subst ex
          have hq1 : q.1 ≤ (la : Int) := hin q (by rw [e, List.concat_eq_append]; simp)
          refine iteF ⟨_, rfl, _, rfl, p, xs, _, .ref pp, rfl, rfl, wD.tup, by rw [exs]; exact atI_last _ _, pp, _, 0, _, rfl, rfl, qp, rfl, _, rfl, _, _, rfl, rfl, _, rfl, ?_⟩
          rw [decide_eq_true (show q.1 ≤ ((la : Nat) : Int) from by omega)]
          exact iteT (cont C2 se)
      intro C2 u2
      have L2' : LogOk K C2 p xs js (1 + r) la lg := ⟨LC.1.same u2, dps_same u2 LC.2, by omega, asc, cok, hin⟩
      refine ⟨_, rfl, _, rfl, _, rfl, _, rfl, rfl, rfl, v, js, la, 1 + r, p, xs, lg, rfl, JC1.same u2, L2', fun C3 u3 => ?_⟩
      have cR : certR run (js.length : Int) 0 lg := by
        rw [← hrun]
        exact cert_R cok
      obtain ⟨k1, k2, k3⟩ := num_ok (run := run) (n := (js.length : Int)) (I := fun u f => f ≤ countA js u f) (fun u f h => by
          rw [← hrun]
          show 0 ≤ runI js (u + 1) f (1 + r)
          unfold runI presI
          rw [show u + 1 - 1 = u by omega]
          split <;> omega) (fun u f x h x0 xr => by
          rw [← hrun] at xr
          replace xr : x ≤ runI js (u + 1) f (1 + r) := xr
          have z := run_le (js := js) (u := u + 1) (f := f) (c := 1 + r)
          unfold presI at z
          rw [show u + 1 - 1 = u by omega] at z
          have m := count_mono (js := js) (m := u) (m' := u + 1) (f := f) (f' := f + x) (by omega) (by omega)
          show f + x ≤ countA js (u + 1) (f + x)
          omega) la 0 0 lg (by show (0 : Int) ≤ countA js 0 0; omega) asc (fun q hq => by have := hin q hq; omega) cR
      rw [htot] at k2
      rw [hrun]
      generalize hnum : numL run (js.length : Int) la 0 0 lg = num at k1 k2 k3
      have u23 := u2.trans u3
      refine ⟨_, rfl, _, _, rfl, rfl, _, rfl, ?_⟩
      rw [decide_eq_true (show (0 : Int) ≤ num from k1)]
      refine iteT ⟨_, rfl, _, _, rfl, rfl, _, rfl, ?_⟩
      rw [decide_eq_true k2]
      refine iteF ⟨_, rfl, _, rfl, _, rfl, _, rfl, rfl, rfl, v, js, la, num, 1 + r, rfl, JC1.same u23, k1, fun _ p2 xs2 C4 u4 wh2 dps2 => ?_, fun h => absurd h (by rw [hrun, htot]; omega)⟩
      rw [hrun, k3] at dps2
      have e1 : PyData.eqv (.tuple (lg.map pairP)) (.tuple (lg.map pairP)) = true := SeqAt.eqv_refl _ (SeqAt.canLay_of_shaped (log_shaped lg))
      refine ⟨_, rfl, _, _, .tup wh2.tup dps2, (L2'.same (u3.trans u4)).dp, log_shaped lg, log_shaped lg, _, rfl, ?_⟩
      rw [e1]
      refine iteF ?_
      obtain ⟨z1, z2⟩ := fin (u23.trans u4)
      exact ⟨_, _, _, _, _, _, _, _, _, rfl, z1, z2⟩
    · refine ⟨_, rfl, (by show 0 ≤ sizeLine; decide), fun e ne => ?_⟩
      have se := same_new (o := .tup []) ne
      refine ⟨p, e, xs, rfl, rfl, (LC.1.same se).tup, SqT.of upd_same, _, rfl, ?_⟩
      have LD := dps_same se LC.2
      have wD := LC.1.same se
      generalize upd C1 e (.tup []) = C2 at se LD wD ⊢
      rcases List.eq_nil_or_concat lg with e | ⟨l0, q, e⟩
      · exact absurd (fun q hq => by rw [e] at hq; simp at hq) hin
      · have en2 : xs.isEmpty = false := by
          have en : xs ≠ [] := fun z => by rw [z, e] at xl; simp at xl
          cases xs with | nil => exact absurd rfl en | cons _ _ => rfl
        rw [en2]
        have rt2 := LD
        rw [e, List.concat_eq_append, List.map_append] at rt2
        obtain ⟨ys, z, exs, dz⟩ := dps_end rt2
        obtain ⟨pp, xv, yv, rfl, qp, dx, dy⟩ := dp_two dz
        have ex := dp_int dx
        subst ex
        have hq1 : ¬ q.1 ≤ (la : Int) := fun hq => hin fun p hp => by
          rw [e, List.concat_eq_append] at asc hp
          have := asc_top asc p hp
          omega
        refine iteF ⟨_, rfl, _, rfl, p, xs, _, .ref pp, rfl, rfl, wD.tup, by rw [exs]; exact atI_last _ _, pp, _, 0, _, rfl, rfl, qp, rfl, _, rfl, _, _, rfl, rfl, _, rfl, ?_⟩
        rw [decide_eq_false hq1]
        refine iteF ?_
        obtain ⟨z1, z2⟩ := fin se
        exact ⟨_, _, _, _, _, _, _, _, _, rfl, z1, z2⟩
end
end Vk
set_option maxHeartbeats 0
namespace Vk
open PySem PySem.Spec PyProof.Rows L2
def nmV0 : List PySem.Str := ["SlotError", "NoJobs", "NoRule", "NoLengths", "NoLog", "NoMarks", "NoNamed", "NoOrder", "NoText", "NoNumber", "NoName", "NoUndo", "NoLine", "is_integer", "is_tuple_of", "check_jobs", "count_arrived", "has_arrived", "check_each_job", "is_job", "is_arrival", "waits_forever", "first_fault", "check_log", "count_present", "count_running", "count_logs", "nth_log", "number_of_log", "outcomes"]
def nmV1 : List PySem.Str := ["rests_of", "in_order", "_law_mix", "_law_store", "_law_pick", "_law_names", "_law_before", "_law_jobs", "_law_is_int", "_law_present", "_law_log", "_law_log_fault", "_law_certificate", "_law_kind", "_law_zero_right"]
def nmV : List PySem.Str := nmV0 ++ nmV1
def fsV0 : List (PySem.W.Frag → Bool) := [bD "is_integer",
  bD "is_tuple_of",
  bD "check_jobs",
  bD "count_arrived",
  bD "has_arrived",
  bD "check_each_job",
  bD "is_job",
  bD "is_arrival",
  bD "waits_forever",
  bD "check_log",
  bD "count_present",
  bD "count_running",
  bD "outcomes",
  bD "rests_of",
  bD "in_order",
  bD "_law_mix",
  bD "_law_store",
  bD "_law_pick",
  bD "_law_names",
  bD "_law_before",
  bD "_law_jobs",
  bD "_law_is_int",
  bD "_law_kind",
  bD "_law_present",
  bD "_law_log",
  bD "_law_log_fault",
  bD "_law_certificate",
  bD "_law_zero_right",
  bD "law",
  fun K => decide ((PySem.W.nsIn K mainGlobals "len" = some none) ∧ (PySem.W.nsIn K mainGlobals "isinstance" = some none) ∧ (PySem.W.nsIn K mainGlobals "int" = some none) ∧ (PySem.W.nsIn K mainGlobals "bool" = some none) ∧ (PySem.W.nsIn K mainGlobals "tuple" = some none) ∧ (PySem.W.nsIn K mainGlobals "str" = some none) ∧ (PySem.W.nsIn K mainGlobals "range" = some none) ∧ (PySem.W.nsIn K mainGlobals "enumerate" = some none) ∧ (PySem.W.nsIn K mainGlobals "list" = some none) ∧ (PySem.W.nsIn K mainGlobals "all" = some none) ∧ (PySem.W.nsIn K mainGlobals "min" = some none) ∧ (PySem.W.nsIn K mainGlobals "max" = some none) ∧ (PySem.W.nsIn K mainGlobals "zip" = some none) ∧ (PySem.W.nsIn K mainGlobals "sum" = some none) ∧ (PySem.W.nsIn K mainGlobals "dict" = some none) ∧ (PySem.W.nsIn K mainGlobals "sorted" = some none) ∧ (PySem.W.nsIn K mainGlobals "SlotError" = some (some (.ref (He.ga K "SlotError")))) ∧ (PySem.W.isClsIn K (He.ga K "SlotError") = true) ∧ (PySem.W.hasDictIn K (He.ga K "SlotError") = true) ∧ (PySem.W.typeIn K (.ref (He.ga K "SlotError")) = some (.type "type")))]
def fsV1 : List (PySem.W.Frag → Bool) := [fun K => decide ((PySem.W.subIn K (.ref (He.ga K "SlotError")) (.type "BaseException") = some true) ∧ (PySem.W.specialIn K (.builtin "object.__class__") "__get__" = some (some (.builtin "getset_descriptor.__get__"))) ∧ (PySem.W.takesIn K (.builtin "object.__class__") = some true) ∧ (PySem.W.nsIn K mainGlobals "ValueError" = some none) ∧ (PySem.W.nsIn K mainGlobals "NoJobs" = some (some (.ref (He.ga K "NoJobs")))) ∧ (PySem.W.isClsIn K (He.ga K "NoJobs") = true) ∧ (PySem.W.typeIn K (.ref (He.ga K "NoJobs")) = some (.type "type")) ∧ (PySem.W.nsIn K mainGlobals "NoRule" = some (some (.ref (He.ga K "NoRule")))) ∧ (PySem.W.isClsIn K (He.ga K "NoRule") = true) ∧ (PySem.W.typeIn K (.ref (He.ga K "NoRule")) = some (.type "type")) ∧ (PySem.W.nsIn K mainGlobals "NoLengths" = some (some (.ref (He.ga K "NoLengths")))) ∧ (PySem.W.isClsIn K (He.ga K "NoLengths") = true) ∧ (PySem.W.typeIn K (.ref (He.ga K "NoLengths")) = some (.type "type")) ∧ (PySem.W.nsIn K mainGlobals "NoLog" = some (some (.ref (He.ga K "NoLog")))) ∧ (PySem.W.isClsIn K (He.ga K "NoLog") = true) ∧ (PySem.W.typeIn K (.ref (He.ga K "NoLog")) = some (.type "type")) ∧ (PySem.W.nsIn K mainGlobals "NoMarks" = some (some (.ref (He.ga K "NoMarks")))) ∧ (PySem.W.isClsIn K (He.ga K "NoMarks") = true) ∧ (PySem.W.typeIn K (.ref (He.ga K "NoMarks")) = some (.type "type")) ∧ (PySem.W.nsIn K mainGlobals "NoNamed" = some (some (.ref (He.ga K "NoNamed"))))),
  fun K => decide ((PySem.W.isClsIn K (He.ga K "NoNamed") = true) ∧ (PySem.W.typeIn K (.ref (He.ga K "NoNamed")) = some (.type "type")) ∧ (PySem.W.nsIn K mainGlobals "NoOrder" = some (some (.ref (He.ga K "NoOrder")))) ∧ (PySem.W.isClsIn K (He.ga K "NoOrder") = true) ∧ (PySem.W.typeIn K (.ref (He.ga K "NoOrder")) = some (.type "type")) ∧ (PySem.W.nsIn K mainGlobals "NoText" = some (some (.ref (He.ga K "NoText")))) ∧ (PySem.W.isClsIn K (He.ga K "NoText") = true) ∧ (PySem.W.typeIn K (.ref (He.ga K "NoText")) = some (.type "type")) ∧ (PySem.W.nsIn K mainGlobals "NoNumber" = some (some (.ref (He.ga K "NoNumber")))) ∧ (PySem.W.isClsIn K (He.ga K "NoNumber") = true) ∧ (PySem.W.typeIn K (.ref (He.ga K "NoNumber")) = some (.type "type")) ∧ (PySem.W.nsIn K mainGlobals "NoName" = some (some (.ref (He.ga K "NoName")))) ∧ (PySem.W.isClsIn K (He.ga K "NoName") = true) ∧ (PySem.W.typeIn K (.ref (He.ga K "NoName")) = some (.type "type")) ∧ (PySem.W.nsIn K mainGlobals "NoUndo" = some (some (.ref (He.ga K "NoUndo")))) ∧ (PySem.W.isClsIn K (He.ga K "NoUndo") = true) ∧ (PySem.W.typeIn K (.ref (He.ga K "NoUndo")) = some (.type "type")) ∧ (PySem.W.nsIn K mainGlobals "NoLine" = some (some (.ref (He.ga K "NoLine")))) ∧ (PySem.W.isClsIn K (He.ga K "NoLine") = true) ∧ (PySem.W.typeIn K (.ref (He.ga K "NoLine")) = some (.type "type"))),
  fun K => bX (He.ga K "SlotError") (He.ga K "NoJobs") K,
  fun K => (He.Fa.code ("NoJobs", some "__init__") "NoJobs.__init__").ok K,
  fun K => decide ((PySem.W.findIn K (.ref (He.ga K "NoJobs")) "__setattr__" = some (some (.builtin "object.__setattr__"))) ∧ (PySem.W.findIn K (.ref (He.ga K "NoJobs")) "__getattribute__" = some (some (.builtin "BaseException.__getattribute__"))) ∧ (PySem.W.findIn K (.ref (He.ga K "NoJobs")) "__getattr__" = some none) ∧ (PySem.W.findIn K (.ref (He.ga K "NoJobs")) "place" = some none) ∧ (PySem.W.findIn K (.ref (He.ga K "NoJobs")) "__init__" = some (some (.ref (He.ma K (He.ga K "NoJobs") "__init__")))) ∧ (PySem.W.typeIn K (.ref (He.ma K (He.ga K "NoJobs") "__init__")) = some (.type "function")) ∧ (PySem.W.keepIn K (.ref (He.ma K (He.ga K "NoJobs") "__init__")) = true) ∧ (PySem.W.keepIn K (.ref (He.ga K "NoJobs")) = true) ∧ (PySem.W.subIn K (.ref (He.ga K "NoJobs")) (.type "BaseException") = some true) ∧ (PySem.W.hasDictIn K (He.ga K "NoJobs") = true) ∧ (PySem.W.findIn K (.ref (He.ga K "NoJobs")) "__class__" = some (some (.builtin "object.__class__"))) ∧ (PySem.W.mroIn K (He.ga K "NoJobs") (.type "object") = some true) ∧ (PySem.W.subIn K (.ref (He.ga K "NoJobs")) (.type "ValueError") = some true) ∧ (PySem.W.subIn K (.ref (He.ga K "NoJobs")) (.ref (He.ga K "SlotError")) = some true) ∧ (PySem.W.subIn K (.ref (He.ga K "NoJobs")) (.ref (He.ga K "NoRule")) = some false) ∧ ((Value.ref (He.ga K "NoJobs") == Value.ref (He.ga K "NoRule")) = false) ∧ (PySem.W.subIn K (.ref (He.ga K "NoJobs")) (.ref (He.ga K "NoLengths")) = some false) ∧ ((Value.ref (He.ga K "NoJobs") == Value.ref (He.ga K "NoLengths")) = false) ∧ (PySem.W.subIn K (.ref (He.ga K "NoJobs")) (.ref (He.ga K "NoLog")) = some false) ∧ ((Value.ref (He.ga K "NoJobs") == Value.ref (He.ga K "NoLog")) = false)),
  fun K => bX (He.ga K "SlotError") (He.ga K "NoLog") K,
  fun K => decide ((PySem.W.subIn K (.ref (He.ga K "NoJobs")) (.ref (He.ga K "NoMarks")) = some false) ∧ ((Value.ref (He.ga K "NoJobs") == Value.ref (He.ga K "NoMarks")) = false) ∧ (PySem.W.subIn K (.ref (He.ga K "NoJobs")) (.ref (He.ga K "NoNamed")) = some false) ∧ ((Value.ref (He.ga K "NoJobs") == Value.ref (He.ga K "NoNamed")) = false) ∧ (PySem.W.subIn K (.ref (He.ga K "NoJobs")) (.ref (He.ga K "NoOrder")) = some false) ∧ ((Value.ref (He.ga K "NoJobs") == Value.ref (He.ga K "NoOrder")) = false) ∧ (PySem.W.subIn K (.ref (He.ga K "NoJobs")) (.ref (He.ga K "NoText")) = some false) ∧ ((Value.ref (He.ga K "NoJobs") == Value.ref (He.ga K "NoText")) = false) ∧ (PySem.W.subIn K (.ref (He.ga K "NoJobs")) (.ref (He.ga K "NoNumber")) = some false) ∧ ((Value.ref (He.ga K "NoJobs") == Value.ref (He.ga K "NoNumber")) = false) ∧ (PySem.W.subIn K (.ref (He.ga K "NoJobs")) (.ref (He.ga K "NoName")) = some false) ∧ ((Value.ref (He.ga K "NoJobs") == Value.ref (He.ga K "NoName")) = false) ∧ (PySem.W.subIn K (.ref (He.ga K "NoJobs")) (.ref (He.ga K "NoUndo")) = some false) ∧ ((Value.ref (He.ga K "NoJobs") == Value.ref (He.ga K "NoUndo")) = false) ∧ (PySem.W.subIn K (.ref (He.ga K "NoJobs")) (.ref (He.ga K "NoLine")) = some false) ∧ ((Value.ref (He.ga K "NoJobs") == Value.ref (He.ga K "NoLine")) = false) ∧ (PySem.W.findIn K (.ref (He.ga K "NoLog")) "__setattr__" = some (some (.builtin "object.__setattr__"))) ∧ (PySem.W.findIn K (.ref (He.ga K "NoLog")) "__getattribute__" = some (some (.builtin "BaseException.__getattribute__"))) ∧ (PySem.W.findIn K (.ref (He.ga K "NoLog")) "__getattr__" = some none) ∧ (PySem.W.findIn K (.ref (He.ga K "NoLog")) "place" = some none)),
  fun K => (He.Fa.code ("NoLog", some "__init__") "NoLog.__init__").ok K,
  fun K => decide ((PySem.W.findIn K (.ref (He.ga K "NoLog")) "__init__" = some (some (.ref (He.ma K (He.ga K "NoLog") "__init__")))) ∧ (PySem.W.typeIn K (.ref (He.ma K (He.ga K "NoLog") "__init__")) = some (.type "function")) ∧ (PySem.W.keepIn K (.ref (He.ma K (He.ga K "NoLog") "__init__")) = true) ∧ (PySem.W.keepIn K (.ref (He.ga K "NoLog")) = true) ∧ (PySem.W.subIn K (.ref (He.ga K "NoLog")) (.type "BaseException") = some true) ∧ (PySem.W.hasDictIn K (He.ga K "NoLog") = true) ∧ (PySem.W.findIn K (.ref (He.ga K "NoLog")) "__class__" = some (some (.builtin "object.__class__"))) ∧ (PySem.W.mroIn K (He.ga K "NoLog") (.type "object") = some true) ∧ (PySem.W.subIn K (.ref (He.ga K "NoLog")) (.type "ValueError") = some true) ∧ (PySem.W.subIn K (.ref (He.ga K "NoLog")) (.ref (He.ga K "SlotError")) = some true) ∧ (PySem.W.subIn K (.ref (He.ga K "NoLog")) (.ref (He.ga K "NoJobs")) = some false) ∧ ((Value.ref (He.ga K "NoLog") == Value.ref (He.ga K "NoJobs")) = false) ∧ (PySem.W.subIn K (.ref (He.ga K "NoLog")) (.ref (He.ga K "NoRule")) = some false) ∧ ((Value.ref (He.ga K "NoLog") == Value.ref (He.ga K "NoRule")) = false) ∧ (PySem.W.subIn K (.ref (He.ga K "NoLog")) (.ref (He.ga K "NoLengths")) = some false) ∧ ((Value.ref (He.ga K "NoLog") == Value.ref (He.ga K "NoLengths")) = false) ∧ (PySem.W.subIn K (.ref (He.ga K "NoLog")) (.ref (He.ga K "NoMarks")) = some false) ∧ ((Value.ref (He.ga K "NoLog") == Value.ref (He.ga K "NoMarks")) = false) ∧ (PySem.W.subIn K (.ref (He.ga K "NoLog")) (.ref (He.ga K "NoNamed")) = some false) ∧ ((Value.ref (He.ga K "NoLog") == Value.ref (He.ga K "NoNamed")) = false)),
  fun K => bX (He.ga K "SlotError") (He.ga K "NoNumber") K,
  fun K => (He.Fa.code ("NoNumber", some "__init__") "NoNumber.__init__").ok K,
  fun K => decide ((PySem.W.subIn K (.ref (He.ga K "NoLog")) (.ref (He.ga K "NoOrder")) = some false) ∧ ((Value.ref (He.ga K "NoLog") == Value.ref (He.ga K "NoOrder")) = false) ∧ (PySem.W.subIn K (.ref (He.ga K "NoLog")) (.ref (He.ga K "NoText")) = some false) ∧ ((Value.ref (He.ga K "NoLog") == Value.ref (He.ga K "NoText")) = false) ∧ (PySem.W.subIn K (.ref (He.ga K "NoLog")) (.ref (He.ga K "NoNumber")) = some false) ∧ ((Value.ref (He.ga K "NoLog") == Value.ref (He.ga K "NoNumber")) = false) ∧ (PySem.W.subIn K (.ref (He.ga K "NoLog")) (.ref (He.ga K "NoName")) = some false) ∧ ((Value.ref (He.ga K "NoLog") == Value.ref (He.ga K "NoName")) = false) ∧ (PySem.W.subIn K (.ref (He.ga K "NoLog")) (.ref (He.ga K "NoUndo")) = some false) ∧ ((Value.ref (He.ga K "NoLog") == Value.ref (He.ga K "NoUndo")) = false) ∧ (PySem.W.subIn K (.ref (He.ga K "NoLog")) (.ref (He.ga K "NoLine")) = some false) ∧ ((Value.ref (He.ga K "NoLog") == Value.ref (He.ga K "NoLine")) = false) ∧ (PySem.W.findIn K (.ref (He.ga K "NoNumber")) "__setattr__" = some (some (.builtin "object.__setattr__"))) ∧ (PySem.W.findIn K (.ref (He.ga K "NoNumber")) "__getattribute__" = some (some (.builtin "BaseException.__getattribute__"))) ∧ (PySem.W.findIn K (.ref (He.ga K "NoNumber")) "__getattr__" = some none) ∧ (PySem.W.findIn K (.ref (He.ga K "NoNumber")) "number" = some none) ∧ (PySem.W.findIn K (.ref (He.ga K "NoNumber")) "place" = some none) ∧ (PySem.W.findIn K (.ref (He.ga K "NoNumber")) "__init__" = some (some (.ref (He.ma K (He.ga K "NoNumber") "__init__")))) ∧ (PySem.W.typeIn K (.ref (He.ma K (He.ga K "NoNumber") "__init__")) = some (.type "function")) ∧ (PySem.W.keepIn K (.ref (He.ma K (He.ga K "NoNumber") "__init__")) = true)),
  fun K => decide ((PySem.W.keepIn K (.ref (He.ga K "NoNumber")) = true) ∧ (PySem.W.subIn K (.ref (He.ga K "NoNumber")) (.type "BaseException") = some true) ∧ (PySem.W.hasDictIn K (He.ga K "NoNumber") = true) ∧ (PySem.W.findIn K (.ref (He.ga K "NoNumber")) "__class__" = some (some (.builtin "object.__class__"))) ∧ (PySem.W.mroIn K (He.ga K "NoNumber") (.type "object") = some true) ∧ (PySem.W.subIn K (.ref (He.ga K "NoNumber")) (.type "ValueError") = some true) ∧ (PySem.W.subIn K (.ref (He.ga K "NoNumber")) (.ref (He.ga K "SlotError")) = some true) ∧ (PySem.W.subIn K (.ref (He.ga K "NoNumber")) (.ref (He.ga K "NoJobs")) = some false) ∧ ((Value.ref (He.ga K "NoNumber") == Value.ref (He.ga K "NoJobs")) = false) ∧ (PySem.W.subIn K (.ref (He.ga K "NoNumber")) (.ref (He.ga K "NoRule")) = some false) ∧ ((Value.ref (He.ga K "NoNumber") == Value.ref (He.ga K "NoRule")) = false) ∧ (PySem.W.subIn K (.ref (He.ga K "NoNumber")) (.ref (He.ga K "NoLengths")) = some false) ∧ ((Value.ref (He.ga K "NoNumber") == Value.ref (He.ga K "NoLengths")) = false) ∧ (PySem.W.subIn K (.ref (He.ga K "NoNumber")) (.ref (He.ga K "NoLog")) = some false) ∧ ((Value.ref (He.ga K "NoNumber") == Value.ref (He.ga K "NoLog")) = false) ∧ (PySem.W.subIn K (.ref (He.ga K "NoNumber")) (.ref (He.ga K "NoMarks")) = some false) ∧ ((Value.ref (He.ga K "NoNumber") == Value.ref (He.ga K "NoMarks")) = false) ∧ (PySem.W.subIn K (.ref (He.ga K "NoNumber")) (.ref (He.ga K "NoNamed")) = some false) ∧ ((Value.ref (He.ga K "NoNumber") == Value.ref (He.ga K "NoNamed")) = false) ∧ (PySem.W.subIn K (.ref (He.ga K "NoNumber")) (.ref (He.ga K "NoOrder")) = some false)),
  bK "first_fault" "processors",
  bK "count_logs" "processors",
  bK "nth_log" "processors",
  bK "number_of_log" "processors",
  bN "is_name",
  fun K => decide (((Value.ref (He.ga K "NoNumber") == Value.ref (He.ga K "NoOrder")) = false) ∧ (PySem.W.subIn K (.ref (He.ga K "NoNumber")) (.ref (He.ga K "NoText")) = some false) ∧ ((Value.ref (He.ga K "NoNumber") == Value.ref (He.ga K "NoText")) = false) ∧ (PySem.W.subIn K (.ref (He.ga K "NoNumber")) (.ref (He.ga K "NoName")) = some false) ∧ ((Value.ref (He.ga K "NoNumber") == Value.ref (He.ga K "NoName")) = false) ∧ (PySem.W.subIn K (.ref (He.ga K "NoNumber")) (.ref (He.ga K "NoUndo")) = some false) ∧ ((Value.ref (He.ga K "NoNumber") == Value.ref (He.ga K "NoUndo")) = false) ∧ (PySem.W.subIn K (.ref (He.ga K "NoNumber")) (.ref (He.ga K "NoLine")) = some false) ∧ ((Value.ref (He.ga K "NoNumber") == Value.ref (He.ga K "NoLine")) = false) ∧ (PySem.W.nsIn K mainGlobals "comb" = some (some (.builtin "math.comb"))))]
def fsV : List (PySem.W.Frag → Bool) := fsV0 ++ fsV1
def fnV0 : List He.FnD := [dD "is_integer" sInteger,
  dD "is_tuple_of" sTupleOf,
  dD "check_jobs" sCheck,
  dD "count_arrived" sCount,
  dD "has_arrived" sHas,
  dD "check_each_job" sEach,
  dD "is_job" sIsJob,
  dD "is_arrival" sArrival,
  dD "waits_forever" sWaits,
  dD "check_log" sCheckLog,
  dD "count_present" sPresent,
  dD "count_running" sRunning,
  dD "outcomes" sOutcomes,
  dD "rests_of" sRests,
  dD "in_order" sInOrder,
  dD "_law_mix" sMix,
  dD "_law_store" sStore,
  dD "_law_pick" sPick,
  dD "_law_names" sNames,
  dD "_law_before" sBefore,
  dD "_law_jobs" sJobs,
  dD "_law_is_int" sInt,
  dD "_law_kind" sKind,
  dD "_law_present" sPresentL,
  dD "_law_log" sLog,
  dD "_law_log_fault" sLogFault,
  dD "_law_certificate" sCert,
  dD "_law_zero_right" sZero,
  dD "law" sLaw,
  dM "NoJobs" "__init__" "NoJobs.__init__" sJobsInit]
def fnV1 : List He.FnD := [dM "NoLog" "__init__" "NoLog.__init__" sLogInit,
  dM "NoNumber" "__init__" "NoNumber.__init__" sNumberInit,
  dD "first_fault" sFirst,
  dD "count_logs" sCountLogs,
  dD "nth_log" sNthLog,
  dD "number_of_log" sNumLog,
  dD "is_name" sName]
def fnV : List He.FnD := fnV0 ++ fnV1
abbrev RV : PySem.W.OpenRow := PySem.W.OpenLaw.row PySem.Challenge.rw_blindslots_k35_long_logs_numbered
abbrev qV : Program := PySem.W.view RV.prog [0, 18, 53]
abbrev hV : PySem.W.Hook := hookV 4 fsV fnV
def obV (s : PySem.W.SharedT) : SeeV := seeV fsV fnV (partV 4 (HandSHeadRun.getT s))
theorem obV_eq (s : PySem.W.SharedT) : obV s = hV.obs s.abs := seeV_eq (HandSHeadRun.getT_eq s)
theorem runVa (w : World) : (HandSHeadRun.wholeF (fun p => HandSHeadRun.stepQ (HandSHeadRun.denQ HandSHeadRun.tabQ) p w) HandSHeadRun.fenceQ 30000 RV.prog).map (fun x => HandSHeadRun.looksF RV.prog x.1.heap x.2.abs) = some true := by
  kernel_rfl
theorem runVb (w : World) : (HandSHeadRun.wholeF (fun p => HandSHeadRun.stepQ (HandSHeadRun.denQ HandSHeadRun.tabQ) p w) HandSHeadRun.fenceQ 30000 RV.prog).map (fun x => HandSHeadRun.seenQ qV nmV (importedModules RV.prog.main.body) (fun s => PySem.W.xlAt qV [] s && PySem.W.recOk RV.toRowW.records s) x.2.abs) = some (PySem.W.openGood qV nmV) := by
  kernel_rfl
theorem runVc (w : World) : (HandSHeadRun.wholeF (fun p => HandSHeadRun.stepQ (HandSHeadRun.denQ HandSHeadRun.tabQ) p w) HandSHeadRun.fenceQ 30000 RV.prog).map (fun x => obV x.2) = some (dueV fnV) := by
  kernel_rfl
theorem runV (w : World) : HandSHeadRun.RunEqI RV qV hV obV 30000 nmV w := join3 (runVa w) (runVb w) (runVc w)
end Vk
set_option maxHeartbeats 4000000
namespace Vk
open PySem PySem.Spec PyProof.Rows L2
theorem kit_same {K : PySem.W.Frag} {t : Value} : PySem.W.kitOne K t t = some true := by
  unfold PySem.W.kitOne
  rw [if_pos (beq_self_eq_true t)]
theorem kit_sub {K : PySem.W.Frag} {C D : Addr} (h1 : PySem.W.isClsIn K D = true) (h2 : PySem.W.typeIn K (.ref D) = some (.type "type")) (h3 : PySem.W.subIn K (.ref C) (.ref D) = some true) : PySem.W.kitOne K (.ref C) (.ref D) = some true := by
  unfold PySem.W.kitOne
  have e : ((PySem.W.clsIn K D).isSome && PySem.W.typeIn K (.ref D) == some (.type "type")) = true := by
    have h1' : (PySem.W.clsIn K D).isSome = true := h1
    rw [h1', h2]
    rfl
  by_cases z : (Value.ref C == Value.ref D) = true
  · rw [if_pos z]
  · rw [if_neg z]
    show (if ((PySem.W.clsIn K D).isSome && PySem.W.typeIn K (.ref D) == some (.type "type")) = true then PySem.W.subIn K (.ref C) (.ref D) else none) = _
    rw [if_pos e, h3]
theorem kit_ref {K : PySem.W.Frag} {C D : Addr} {b : Bool} (z : (Value.ref C == Value.ref D) = false) (h1 : PySem.W.isClsIn K D = true) (h2 : PySem.W.typeIn K (.ref D) = some (.type "type")) (h3 : PySem.W.subIn K (.ref C) (.ref D) = some b) : PySem.W.kitOne K (.ref C) (.ref D) = some b := by
  unfold PySem.W.kitOne
  have e : ((PySem.W.clsIn K D).isSome && PySem.W.typeIn K (.ref D) == some (.type "type")) = true := by
    have h1' : (PySem.W.clsIn K D).isSome = true := h1
    rw [h1', h2]
    rfl
  rw [if_neg (by rw [z]; exact Bool.false_ne_true)]
  show (if ((PySem.W.clsIn K D).isSome && PySem.W.typeIn K (.ref D) == some (.type "type")) = true then PySem.W.subIn K (.ref C) (.ref D) else none) = _
  rw [if_pos e, h3]
theorem kit_ve {K : PySem.W.Frag} {C : Addr} (h3 : PySem.W.subIn K (.ref C) (.type "ValueError") = some true) : PySem.W.kitOne K (.ref C) (.type "ValueError") = some true := by
  unfold PySem.W.kitOne
  have e : PySem.W.kitMeta "ValueError" = true := by decide +kernel
  rw [if_neg (by intro z; cases z)]
  show (if PySem.W.kitMeta "ValueError" = true then PySem.W.subIn K (.ref C) (.type "ValueError") else none) = _
  rw [if_pos e, h3]
end Vk
set_option maxHeartbeats 8000000
namespace Vk
open PySem PySem.Spec PyProof.Rows L2 GxR
/-- what the law needs of a head: the promise of its def, over the empty table of one code object -/
def LawTab (l : PySem.W.OpenLaw) (w : World) (K : PySem.W.Frag) (mg : Str → Option Value) (fa : Addr) : Prop := ∃ (fd : FuncData) (c P : Addr), PySem.W.tabIn K "is_name" = some (c, P) ∧ K.lookup P = none ∧
  (∀ (s : Shared) (u : Value), BindsTo s fd ⟨[u], []⟩ [("script", u)]) ∧ ∀ base : Heap, K.In base → base.Ns mainGlobals mg → TabB base mg c P → FnOk l.prog w K mg base CX0 9 fa fd ["script"] (spLaw K P)

theorem all_mk {l : PySem.W.OpenLaw} {w : World} {K : PySem.W.Frag} {h : Heap} {mg : Str → Option Value} {fa : Addr} (X : K.In h) (G : h.Ns mainGlobals mg) (hfa : mg "law" = some (.ref fa))
    {f0 : Addr} {oc0 kV0 dc0 pm0 cd0 ct0 : Value} {od0 an0 : Option Addr} {sl0 : Array (Option Value)}
    {f1 : Addr} {oc1 kV1 dc1 pm1 cd1 ct1 : Value} {od1 an1 : Option Addr} {sl1 : Array (Option Value)}
    {f2 : Addr} {oc2 kV2 dc2 pm2 cd2 ct2 : Value} {od2 an2 : Option Addr} {sl2 : Array (Option Value)}
    {f3 : Addr} {oc3 kV3 dc3 pm3 cd3 ct3 : Value} {od3 an3 : Option Addr} {sl3 : Array (Option Value)}
    {f4 : Addr} {oc4 kV4 dc4 pm4 cd4 ct4 : Value} {od4 an4 : Option Addr} {sl4 : Array (Option Value)}
    {f5 : Addr} {oc5 kV5 dc5 pm5 cd5 ct5 : Value} {od5 an5 : Option Addr} {sl5 : Array (Option Value)}
    {f6 : Addr} {oc6 kV6 dc6 pm6 cd6 ct6 : Value} {od6 an6 : Option Addr} {sl6 : Array (Option Value)}
    {f7 : Addr} {oc7 kV7 dc7 pm7 cd7 ct7 : Value} {od7 an7 : Option Addr} {sl7 : Array (Option Value)}
    {f8 : Addr} {oc8 kV8 dc8 pm8 cd8 ct8 : Value} {od8 an8 : Option Addr} {sl8 : Array (Option Value)}
    {f9 : Addr} {oc9 kV9 dc9 pm9 cd9 ct9 : Value} {od9 an9 : Option Addr} {sl9 : Array (Option Value)}
    {f10 : Addr} {oc10 kV10 dc10 pm10 cd10 ct10 : Value} {od10 an10 : Option Addr} {sl10 : Array (Option Value)}
    {f11 : Addr} {oc11 kV11 dc11 pm11 cd11 ct11 : Value} {od11 an11 : Option Addr} {sl11 : Array (Option Value)}
    {f12 : Addr} {oc12 kV12 dc12 pm12 cd12 ct12 : Value} {od12 an12 : Option Addr} {sl12 : Array (Option Value)}
    {f13 : Addr} {oc13 kV13 dc13 pm13 cd13 ct13 : Value} {od13 an13 : Option Addr} {sl13 : Array (Option Value)}
    {f14 : Addr} {oc14 kV14 dc14 pm14 cd14 ct14 : Value} {od14 an14 : Option Addr} {sl14 : Array (Option Value)}
    {f15 : Addr} {oc15 kV15 dc15 pm15 cd15 ct15 : Value} {od15 an15 : Option Addr} {sl15 : Array (Option Value)}
    {f16 : Addr} {oc16 kV16 dc16 pm16 cd16 ct16 : Value} {od16 an16 : Option Addr} {sl16 : Array (Option Value)}
    {f17 : Addr} {oc17 kV17 dc17 pm17 cd17 ct17 : Value} {od17 an17 : Option Addr} {sl17 : Array (Option Value)}
    {f18 : Addr} {oc18 kV18 dc18 pm18 cd18 ct18 : Value} {od18 an18 : Option Addr} {sl18 : Array (Option Value)}
    {f19 : Addr} {oc19 kV19 dc19 pm19 cd19 ct19 : Value} {od19 an19 : Option Addr} {sl19 : Array (Option Value)}
    {f20 : Addr} {oc20 kV20 dc20 pm20 cd20 ct20 : Value} {od20 an20 : Option Addr} {sl20 : Array (Option Value)}
    {f21 : Addr} {oc21 kV21 dc21 pm21 cd21 ct21 : Value} {od21 an21 : Option Addr} {sl21 : Array (Option Value)}
    {f22 : Addr} {oc22 kV22 dc22 pm22 cd22 ct22 : Value} {od22 an22 : Option Addr} {sl22 : Array (Option Value)}
    {f23 : Addr} {oc23 kV23 dc23 pm23 cd23 ct23 : Value} {od23 an23 : Option Addr} {sl23 : Array (Option Value)}
    {f24 : Addr} {oc24 kV24 dc24 pm24 cd24 ct24 : Value} {od24 an24 : Option Addr} {sl24 : Array (Option Value)}
    {f25 : Addr} {oc25 kV25 dc25 pm25 cd25 ct25 : Value} {od25 an25 : Option Addr} {sl25 : Array (Option Value)}
    {f26 : Addr} {oc26 kV26 dc26 pm26 cd26 ct26 : Value} {od26 an26 : Option Addr} {sl26 : Array (Option Value)}
    {f27 : Addr} {oc27 kV27 dc27 pm27 cd27 ct27 : Value} {od27 an27 : Option Addr} {sl27 : Array (Option Value)}
    {f28 : Addr} {oc28 kV28 dc28 pm28 cd28 ct28 : Value} {od28 an28 : Option Addr} {sl28 : Array (Option Value)}
    {S : Addr}
    {E0 : Addr}
    {E1 : Addr}
    {E2 : Addr}
    {E3 : Addr}
    {E4 : Addr}
    {E5 : Addr}
    {E6 : Addr}
    {E7 : Addr}
    {E8 : Addr}
    {E9 : Addr}
    {E10 : Addr}
    {E11 : Addr}
    {fI0 : Addr} {nm0 q0 : Str} {N0 : Addr} {bs0 sb0 : List Value} {sn0 : List Str} {ab0 : Bool} {col0 : Option Bool} {dd0 : Option Addr} {m00 m10 m20 m30 m50 : Option Value} {ocI0 kVI0 dcI0 pmI0 cdI0 ctI0 : Value} {odI0 anI0 : Option Addr} {slI0 : Array (Option Value)}
    {fI3 : Addr} {nm3 q3 : Str} {N3 : Addr} {bs3 sb3 : List Value} {sn3 : List Str} {ab3 : Bool} {col3 : Option Bool} {dd3 : Option Addr} {m03 m13 m23 m33 m53 : Option Value} {ocI3 kVI3 dcI3 pmI3 cdI3 ctI3 : Value} {odI3 anI3 : Option Addr} {slI3 : Array (Option Value)}
    {fI8 : Addr} {nm8 q8 : Str} {N8 : Addr} {bs8 sb8 : List Value} {sn8 : List Str} {ab8 : Bool} {col8 : Option Bool} {dd8 : Option Addr} {m08 m18 m28 m38 m58 : Option Value} {ocI8 kVI8 dcI8 pmI8 cdI8 ctI8 : Value} {odI8 anI8 : Option Addr} {slI8 : Array (Option Value)}
    {fF DF : Addr} {ocF dcF pmF cdF ctF : Value} {odF anF : Option Addr} {slF : Array (Option Value)} {tF : Tok}
    {fC DC : Addr} {ocC dcC pmC cdC ctC : Value} {odC anC : Option Addr} {slC : Array (Option Value)} {tC : Tok}
    {fH DH : Addr} {ocH dcH pmH cdH ctH : Value} {odH anH : Option Addr} {slH : Array (Option Value)} {tH : Tok}
    {fU DU : Addr} {ocU dcU pmU cdU ctU : Value} {odU anU : Option Addr} {slU : Array (Option Value)} {tU : Tok}
    {fN cN PN : Addr} {ocN kVN dcN pmN ctN eN : Value} {odN anN ddN : Option Addr} {slN scN : Array (Option Value)} {vsN : Array Value}
    (a0 : PySem.W.nsIn K mainGlobals "is_integer" = some (some (.ref f0)))
    (l0 : K.lookup f0 = some ⟨oc0, od0, .func (PySem.W.fnOf "is_integer" "is_integer" (defArgs sInteger) (defBody sInteger) (defScope sInteger) .none kV0 dc0 pm0 an0 cd0 ct0), sl0⟩)
    (c0 : PySem.W.codeIn K cd0 "is_integer" = true)
    (k0 : PySem.W.keepIn K (.ref f0) = true)
    (a1 : PySem.W.nsIn K mainGlobals "is_tuple_of" = some (some (.ref f1)))
    (l1 : K.lookup f1 = some ⟨oc1, od1, .func (PySem.W.fnOf "is_tuple_of" "is_tuple_of" (defArgs sTupleOf) (defBody sTupleOf) (defScope sTupleOf) .none kV1 dc1 pm1 an1 cd1 ct1), sl1⟩)
    (c1 : PySem.W.codeIn K cd1 "is_tuple_of" = true)
    (k1 : PySem.W.keepIn K (.ref f1) = true)
    (a2 : PySem.W.nsIn K mainGlobals "check_jobs" = some (some (.ref f2)))
    (l2 : K.lookup f2 = some ⟨oc2, od2, .func (PySem.W.fnOf "check_jobs" "check_jobs" (defArgs sCheck) (defBody sCheck) (defScope sCheck) .none kV2 dc2 pm2 an2 cd2 ct2), sl2⟩)
    (c2 : PySem.W.codeIn K cd2 "check_jobs" = true)
    (k2 : PySem.W.keepIn K (.ref f2) = true)
    (a3 : PySem.W.nsIn K mainGlobals "count_arrived" = some (some (.ref f3)))
    (l3 : K.lookup f3 = some ⟨oc3, od3, .func (PySem.W.fnOf "count_arrived" "count_arrived" (defArgs sCount) (defBody sCount) (defScope sCount) .none kV3 dc3 pm3 an3 cd3 ct3), sl3⟩)
    (c3 : PySem.W.codeIn K cd3 "count_arrived" = true)
    (k3 : PySem.W.keepIn K (.ref f3) = true)
    (a4 : PySem.W.nsIn K mainGlobals "has_arrived" = some (some (.ref f4)))
    (l4 : K.lookup f4 = some ⟨oc4, od4, .func (PySem.W.fnOf "has_arrived" "has_arrived" (defArgs sHas) (defBody sHas) (defScope sHas) .none kV4 dc4 pm4 an4 cd4 ct4), sl4⟩)
    (c4 : PySem.W.codeIn K cd4 "has_arrived" = true)
    (k4 : PySem.W.keepIn K (.ref f4) = true)
    (a5 : PySem.W.nsIn K mainGlobals "check_each_job" = some (some (.ref f5)))
    (l5 : K.lookup f5 = some ⟨oc5, od5, .func (PySem.W.fnOf "check_each_job" "check_each_job" (defArgs sEach) (defBody sEach) (defScope sEach) .none kV5 dc5 pm5 an5 cd5 ct5), sl5⟩)
    (c5 : PySem.W.codeIn K cd5 "check_each_job" = true)
    (k5 : PySem.W.keepIn K (.ref f5) = true)
    (a6 : PySem.W.nsIn K mainGlobals "is_job" = some (some (.ref f6)))
    (l6 : K.lookup f6 = some ⟨oc6, od6, .func (PySem.W.fnOf "is_job" "is_job" (defArgs sIsJob) (defBody sIsJob) (defScope sIsJob) .none kV6 dc6 pm6 an6 cd6 ct6), sl6⟩)
    (c6 : PySem.W.codeIn K cd6 "is_job" = true)
    (k6 : PySem.W.keepIn K (.ref f6) = true)
    (a7 : PySem.W.nsIn K mainGlobals "is_arrival" = some (some (.ref f7)))
    (l7 : K.lookup f7 = some ⟨oc7, od7, .func (PySem.W.fnOf "is_arrival" "is_arrival" (defArgs sArrival) (defBody sArrival) (defScope sArrival) .none kV7 dc7 pm7 an7 cd7 ct7), sl7⟩)
    (c7 : PySem.W.codeIn K cd7 "is_arrival" = true)
    (k7 : PySem.W.keepIn K (.ref f7) = true)
    (a8 : PySem.W.nsIn K mainGlobals "waits_forever" = some (some (.ref f8)))
    (l8 : K.lookup f8 = some ⟨oc8, od8, .func (PySem.W.fnOf "waits_forever" "waits_forever" (defArgs sWaits) (defBody sWaits) (defScope sWaits) .none kV8 dc8 pm8 an8 cd8 ct8), sl8⟩)
    (c8 : PySem.W.codeIn K cd8 "waits_forever" = true)
    (k8 : PySem.W.keepIn K (.ref f8) = true)
    (a9 : PySem.W.nsIn K mainGlobals "check_log" = some (some (.ref f9)))
    (l9 : K.lookup f9 = some ⟨oc9, od9, .func (PySem.W.fnOf "check_log" "check_log" (defArgs sCheckLog) (defBody sCheckLog) (defScope sCheckLog) .none kV9 dc9 pm9 an9 cd9 ct9), sl9⟩)
    (c9 : PySem.W.codeIn K cd9 "check_log" = true)
    (k9 : PySem.W.keepIn K (.ref f9) = true)
    (a10 : PySem.W.nsIn K mainGlobals "count_present" = some (some (.ref f10)))
    (l10 : K.lookup f10 = some ⟨oc10, od10, .func (PySem.W.fnOf "count_present" "count_present" (defArgs sPresent) (defBody sPresent) (defScope sPresent) .none kV10 dc10 pm10 an10 cd10 ct10), sl10⟩)
    (c10 : PySem.W.codeIn K cd10 "count_present" = true)
    (k10 : PySem.W.keepIn K (.ref f10) = true)
    (a11 : PySem.W.nsIn K mainGlobals "count_running" = some (some (.ref f11)))
    (l11 : K.lookup f11 = some ⟨oc11, od11, .func (PySem.W.fnOf "count_running" "count_running" (defArgs sRunning) (defBody sRunning) (defScope sRunning) .none kV11 dc11 pm11 an11 cd11 ct11), sl11⟩)
    (c11 : PySem.W.codeIn K cd11 "count_running" = true)
    (k11 : PySem.W.keepIn K (.ref f11) = true)
    (a12 : PySem.W.nsIn K mainGlobals "outcomes" = some (some (.ref f12)))
    (l12 : K.lookup f12 = some ⟨oc12, od12, .func (PySem.W.fnOf "outcomes" "outcomes" (defArgs sOutcomes) (defBody sOutcomes) (defScope sOutcomes) .none kV12 dc12 pm12 an12 cd12 ct12), sl12⟩)
    (c12 : PySem.W.codeIn K cd12 "outcomes" = true)
    (k12 : PySem.W.keepIn K (.ref f12) = true)
    (a13 : PySem.W.nsIn K mainGlobals "rests_of" = some (some (.ref f13)))
    (l13 : K.lookup f13 = some ⟨oc13, od13, .func (PySem.W.fnOf "rests_of" "rests_of" (defArgs sRests) (defBody sRests) (defScope sRests) .none kV13 dc13 pm13 an13 cd13 ct13), sl13⟩)
    (c13 : PySem.W.codeIn K cd13 "rests_of" = true)
    (k13 : PySem.W.keepIn K (.ref f13) = true)
    (a14 : PySem.W.nsIn K mainGlobals "in_order" = some (some (.ref f14)))
    (l14 : K.lookup f14 = some ⟨oc14, od14, .func (PySem.W.fnOf "in_order" "in_order" (defArgs sInOrder) (defBody sInOrder) (defScope sInOrder) .none kV14 dc14 pm14 an14 cd14 ct14), sl14⟩)
    (c14 : PySem.W.codeIn K cd14 "in_order" = true)
    (k14 : PySem.W.keepIn K (.ref f14) = true)
    (a15 : PySem.W.nsIn K mainGlobals "_law_mix" = some (some (.ref f15)))
    (l15 : K.lookup f15 = some ⟨oc15, od15, .func (PySem.W.fnOf "_law_mix" "_law_mix" (defArgs sMix) (defBody sMix) (defScope sMix) .none kV15 dc15 pm15 an15 cd15 ct15), sl15⟩)
    (c15 : PySem.W.codeIn K cd15 "_law_mix" = true)
    (k15 : PySem.W.keepIn K (.ref f15) = true)
    (a16 : PySem.W.nsIn K mainGlobals "_law_store" = some (some (.ref f16)))
    (l16 : K.lookup f16 = some ⟨oc16, od16, .func (PySem.W.fnOf "_law_store" "_law_store" (defArgs sStore) (defBody sStore) (defScope sStore) .none kV16 dc16 pm16 an16 cd16 ct16), sl16⟩)
    (c16 : PySem.W.codeIn K cd16 "_law_store" = true)
    (k16 : PySem.W.keepIn K (.ref f16) = true)
    (a17 : PySem.W.nsIn K mainGlobals "_law_pick" = some (some (.ref f17)))
    (l17 : K.lookup f17 = some ⟨oc17, od17, .func (PySem.W.fnOf "_law_pick" "_law_pick" (defArgs sPick) (defBody sPick) (defScope sPick) .none kV17 dc17 pm17 an17 cd17 ct17), sl17⟩)
    (c17 : PySem.W.codeIn K cd17 "_law_pick" = true)
    (k17 : PySem.W.keepIn K (.ref f17) = true)
    (a18 : PySem.W.nsIn K mainGlobals "_law_names" = some (some (.ref f18)))
    (l18 : K.lookup f18 = some ⟨oc18, od18, .func (PySem.W.fnOf "_law_names" "_law_names" (defArgs sNames) (defBody sNames) (defScope sNames) .none kV18 dc18 pm18 an18 cd18 ct18), sl18⟩)
    (c18 : PySem.W.codeIn K cd18 "_law_names" = true)
    (k18 : PySem.W.keepIn K (.ref f18) = true)
    (a19 : PySem.W.nsIn K mainGlobals "_law_before" = some (some (.ref f19)))
    (l19 : K.lookup f19 = some ⟨oc19, od19, .func (PySem.W.fnOf "_law_before" "_law_before" (defArgs sBefore) (defBody sBefore) (defScope sBefore) .none kV19 dc19 pm19 an19 cd19 ct19), sl19⟩)
    (c19 : PySem.W.codeIn K cd19 "_law_before" = true)
    (k19 : PySem.W.keepIn K (.ref f19) = true)
    (a20 : PySem.W.nsIn K mainGlobals "_law_jobs" = some (some (.ref f20)))
    (l20 : K.lookup f20 = some ⟨oc20, od20, .func (PySem.W.fnOf "_law_jobs" "_law_jobs" (defArgs sJobs) (defBody sJobs) (defScope sJobs) .none kV20 dc20 pm20 an20 cd20 ct20), sl20⟩)
    (c20 : PySem.W.codeIn K cd20 "_law_jobs" = true)
    (k20 : PySem.W.keepIn K (.ref f20) = true)
    (a21 : PySem.W.nsIn K mainGlobals "_law_is_int" = some (some (.ref f21)))
    (l21 : K.lookup f21 = some ⟨oc21, od21, .func (PySem.W.fnOf "_law_is_int" "_law_is_int" (defArgs sInt) (defBody sInt) (defScope sInt) .none kV21 dc21 pm21 an21 cd21 ct21), sl21⟩)
    (c21 : PySem.W.codeIn K cd21 "_law_is_int" = true)
    (k21 : PySem.W.keepIn K (.ref f21) = true)
    (a22 : PySem.W.nsIn K mainGlobals "_law_kind" = some (some (.ref f22)))
    (l22 : K.lookup f22 = some ⟨oc22, od22, .func (PySem.W.fnOf "_law_kind" "_law_kind" (defArgs sKind) (defBody sKind) (defScope sKind) .none kV22 dc22 pm22 an22 cd22 ct22), sl22⟩)
    (c22 : PySem.W.codeIn K cd22 "_law_kind" = true)
    (k22 : PySem.W.keepIn K (.ref f22) = true)
    (a23 : PySem.W.nsIn K mainGlobals "_law_present" = some (some (.ref f23)))
    (l23 : K.lookup f23 = some ⟨oc23, od23, .func (PySem.W.fnOf "_law_present" "_law_present" (defArgs sPresentL) (defBody sPresentL) (defScope sPresentL) .none kV23 dc23 pm23 an23 cd23 ct23), sl23⟩)
    (c23 : PySem.W.codeIn K cd23 "_law_present" = true)
    (k23 : PySem.W.keepIn K (.ref f23) = true)
    (a24 : PySem.W.nsIn K mainGlobals "_law_log" = some (some (.ref f24)))
    (l24 : K.lookup f24 = some ⟨oc24, od24, .func (PySem.W.fnOf "_law_log" "_law_log" (defArgs sLog) (defBody sLog) (defScope sLog) .none kV24 dc24 pm24 an24 cd24 ct24), sl24⟩)
    (c24 : PySem.W.codeIn K cd24 "_law_log" = true)
    (k24 : PySem.W.keepIn K (.ref f24) = true)
    (a25 : PySem.W.nsIn K mainGlobals "_law_log_fault" = some (some (.ref f25)))
    (l25 : K.lookup f25 = some ⟨oc25, od25, .func (PySem.W.fnOf "_law_log_fault" "_law_log_fault" (defArgs sLogFault) (defBody sLogFault) (defScope sLogFault) .none kV25 dc25 pm25 an25 cd25 ct25), sl25⟩)
    (c25 : PySem.W.codeIn K cd25 "_law_log_fault" = true)
    (k25 : PySem.W.keepIn K (.ref f25) = true)
    (a26 : PySem.W.nsIn K mainGlobals "_law_certificate" = some (some (.ref f26)))
    (l26 : K.lookup f26 = some ⟨oc26, od26, .func (PySem.W.fnOf "_law_certificate" "_law_certificate" (defArgs sCert) (defBody sCert) (defScope sCert) .none kV26 dc26 pm26 an26 cd26 ct26), sl26⟩)
    (c26 : PySem.W.codeIn K cd26 "_law_certificate" = true)
    (k26 : PySem.W.keepIn K (.ref f26) = true)
    (a27 : PySem.W.nsIn K mainGlobals "_law_zero_right" = some (some (.ref f27)))
    (l27 : K.lookup f27 = some ⟨oc27, od27, .func (PySem.W.fnOf "_law_zero_right" "_law_zero_right" (defArgs sZero) (defBody sZero) (defScope sZero) .none kV27 dc27 pm27 an27 cd27 ct27), sl27⟩)
    (c27 : PySem.W.codeIn K cd27 "_law_zero_right" = true)
    (k27 : PySem.W.keepIn K (.ref f27) = true)
    (a28 : PySem.W.nsIn K mainGlobals "law" = some (some (.ref f28)))
    (l28 : K.lookup f28 = some ⟨oc28, od28, .func (PySem.W.fnOf "law" "law" (defArgs sLaw) (defBody sLaw) (defScope sLaw) .none kV28 dc28 pm28 an28 cd28 ct28), sl28⟩)
    (c28 : PySem.W.codeIn K cd28 "law" = true)
    (k28 : PySem.W.keepIn K (.ref f28) = true)
    (z_len : PySem.W.nsIn K mainGlobals "len" = some none)
    (z_isinstance : PySem.W.nsIn K mainGlobals "isinstance" = some none)
    (z_int : PySem.W.nsIn K mainGlobals "int" = some none)
    (z_bool : PySem.W.nsIn K mainGlobals "bool" = some none)
    (z_tuple : PySem.W.nsIn K mainGlobals "tuple" = some none)
    (z_str : PySem.W.nsIn K mainGlobals "str" = some none)
    (z_range : PySem.W.nsIn K mainGlobals "range" = some none)
    (z_enumerate : PySem.W.nsIn K mainGlobals "enumerate" = some none)
    (z_list : PySem.W.nsIn K mainGlobals "list" = some none)
    (z_all : PySem.W.nsIn K mainGlobals "all" = some none)
    (z_min : PySem.W.nsIn K mainGlobals "min" = some none)
    (z_max : PySem.W.nsIn K mainGlobals "max" = some none)
    (z_zip : PySem.W.nsIn K mainGlobals "zip" = some none)
    (z_sum : PySem.W.nsIn K mainGlobals "sum" = some none)
    (z_dict : PySem.W.nsIn K mainGlobals "dict" = some none)
    (z_sorted : PySem.W.nsIn K mainGlobals "sorted" = some none)
    (aS : PySem.W.nsIn K mainGlobals "SlotError" = some (some (.ref S)))
    (iS : PySem.W.isClsIn K S = true)
    (hS : PySem.W.hasDictIn K S = true)
    (tS : PySem.W.typeIn K (.ref S) = some (.type "type"))
    (eS : PySem.W.subIn K (.ref S) (.type "BaseException") = some true)
    (spG : PySem.W.specialIn K (.builtin "object.__class__") "__get__" = some (some (.builtin "getset_descriptor.__get__")))
    (tkG : PySem.W.takesIn K (.builtin "object.__class__") = some true)
    (zVE : PySem.W.nsIn K mainGlobals "ValueError" = some none)
    (aE0 : PySem.W.nsIn K mainGlobals "NoJobs" = some (some (.ref E0)))
    (iE0 : PySem.W.isClsIn K E0 = true)
    (tE0 : PySem.W.typeIn K (.ref E0) = some (.type "type"))
    (aE1 : PySem.W.nsIn K mainGlobals "NoRule" = some (some (.ref E1)))
    (iE1 : PySem.W.isClsIn K E1 = true)
    (tE1 : PySem.W.typeIn K (.ref E1) = some (.type "type"))
    (aE2 : PySem.W.nsIn K mainGlobals "NoLengths" = some (some (.ref E2)))
    (iE2 : PySem.W.isClsIn K E2 = true)
    (tE2 : PySem.W.typeIn K (.ref E2) = some (.type "type"))
    (aE3 : PySem.W.nsIn K mainGlobals "NoLog" = some (some (.ref E3)))
    (iE3 : PySem.W.isClsIn K E3 = true)
    (tE3 : PySem.W.typeIn K (.ref E3) = some (.type "type"))
    (aE4 : PySem.W.nsIn K mainGlobals "NoMarks" = some (some (.ref E4)))
    (iE4 : PySem.W.isClsIn K E4 = true)
    (tE4 : PySem.W.typeIn K (.ref E4) = some (.type "type"))
    (aE5 : PySem.W.nsIn K mainGlobals "NoNamed" = some (some (.ref E5)))
    (iE5 : PySem.W.isClsIn K E5 = true)
    (tE5 : PySem.W.typeIn K (.ref E5) = some (.type "type"))
    (aE6 : PySem.W.nsIn K mainGlobals "NoOrder" = some (some (.ref E6)))
    (iE6 : PySem.W.isClsIn K E6 = true)
    (tE6 : PySem.W.typeIn K (.ref E6) = some (.type "type"))
    (aE7 : PySem.W.nsIn K mainGlobals "NoText" = some (some (.ref E7)))
    (iE7 : PySem.W.isClsIn K E7 = true)
    (tE7 : PySem.W.typeIn K (.ref E7) = some (.type "type"))
    (aE8 : PySem.W.nsIn K mainGlobals "NoNumber" = some (some (.ref E8)))
    (iE8 : PySem.W.isClsIn K E8 = true)
    (tE8 : PySem.W.typeIn K (.ref E8) = some (.type "type"))
    (aE9 : PySem.W.nsIn K mainGlobals "NoName" = some (some (.ref E9)))
    (iE9 : PySem.W.isClsIn K E9 = true)
    (tE9 : PySem.W.typeIn K (.ref E9) = some (.type "type"))
    (aE10 : PySem.W.nsIn K mainGlobals "NoUndo" = some (some (.ref E10)))
    (iE10 : PySem.W.isClsIn K E10 = true)
    (tE10 : PySem.W.typeIn K (.ref E10) = some (.type "type"))
    (aE11 : PySem.W.nsIn K mainGlobals "NoLine" = some (some (.ref E11)))
    (iE11 : PySem.W.isClsIn K E11 = true)
    (tE11 : PySem.W.typeIn K (.ref E11) = some (.type "type"))
    (x0_ : K.lookup E0 = some (excClassObj nm0 q0 E0 N0 bs0 [.ref S, .type "ValueError", .type "Exception", .type "BaseException", .type "object"] true sn0 sb0 ab0 col0 dd0 m00 m10 m20 m30 m50 "ValueError.__new__"))
    (sa0 : PySem.W.findIn K (.ref E0) "__setattr__" = some (some (.builtin "object.__setattr__")))
    (ga0 : PySem.W.findIn K (.ref E0) "__getattribute__" = some (some (.builtin "BaseException.__getattribute__")))
    (gg0 : PySem.W.findIn K (.ref E0) "__getattr__" = some none)
    (np0 : PySem.W.findIn K (.ref E0) "place" = some none)
    (in0 : PySem.W.findIn K (.ref E0) "__init__" = some (some (.ref fI0)))
    (ti0 : PySem.W.typeIn K (.ref fI0) = some (.type "function"))
    (li0 : K.lookup fI0 = some ⟨ocI0, odI0, .func (PySem.W.fnOf "__init__" "NoJobs.__init__" (defArgs sJobsInit) (defBody sJobsInit) (defScope sJobsInit) .none kVI0 dcI0 pmI0 anI0 cdI0 ctI0), slI0⟩)
    (ci0 : PySem.W.codeIn K cdI0 "NoJobs.__init__" = true)
    (ki0 : PySem.W.keepIn K (.ref fI0) = true)
    (kc0 : PySem.W.keepIn K (.ref E0) = true)
    (ec0 : PySem.W.subIn K (.ref E0) (.type "BaseException") = some true)
    (hc0 : PySem.W.hasDictIn K E0 = true)
    (cc0 : PySem.W.findIn K (.ref E0) "__class__" = some (some (.builtin "object.__class__")))
    (mc0 : PySem.W.mroIn K E0 (.type "object") = some true)
    (vc0 : PySem.W.subIn K (.ref E0) (.type "ValueError") = some true)
    (sc0 : PySem.W.subIn K (.ref E0) (.ref S) = some true)
    (s0_1 : PySem.W.subIn K (.ref E0) (.ref E1) = some false)
    (n0_1 : (Value.ref E0 == Value.ref E1) = false)
    (s0_2 : PySem.W.subIn K (.ref E0) (.ref E2) = some false)
    (n0_2 : (Value.ref E0 == Value.ref E2) = false)
    (s0_3 : PySem.W.subIn K (.ref E0) (.ref E3) = some false)
    (n0_3 : (Value.ref E0 == Value.ref E3) = false)
    (s0_4 : PySem.W.subIn K (.ref E0) (.ref E4) = some false)
    (n0_4 : (Value.ref E0 == Value.ref E4) = false)
    (s0_5 : PySem.W.subIn K (.ref E0) (.ref E5) = some false)
    (n0_5 : (Value.ref E0 == Value.ref E5) = false)
    (s0_6 : PySem.W.subIn K (.ref E0) (.ref E6) = some false)
    (n0_6 : (Value.ref E0 == Value.ref E6) = false)
    (s0_7 : PySem.W.subIn K (.ref E0) (.ref E7) = some false)
    (n0_7 : (Value.ref E0 == Value.ref E7) = false)
    (s0_8 : PySem.W.subIn K (.ref E0) (.ref E8) = some false)
    (n0_8 : (Value.ref E0 == Value.ref E8) = false)
    (s0_9 : PySem.W.subIn K (.ref E0) (.ref E9) = some false)
    (n0_9 : (Value.ref E0 == Value.ref E9) = false)
    (s0_10 : PySem.W.subIn K (.ref E0) (.ref E10) = some false)
    (n0_10 : (Value.ref E0 == Value.ref E10) = false)
    (s0_11 : PySem.W.subIn K (.ref E0) (.ref E11) = some false)
    (n0_11 : (Value.ref E0 == Value.ref E11) = false)
    (x3_ : K.lookup E3 = some (excClassObj nm3 q3 E3 N3 bs3 [.ref S, .type "ValueError", .type "Exception", .type "BaseException", .type "object"] true sn3 sb3 ab3 col3 dd3 m03 m13 m23 m33 m53 "ValueError.__new__"))
    (sa3 : PySem.W.findIn K (.ref E3) "__setattr__" = some (some (.builtin "object.__setattr__")))
    (ga3 : PySem.W.findIn K (.ref E3) "__getattribute__" = some (some (.builtin "BaseException.__getattribute__")))
    (gg3 : PySem.W.findIn K (.ref E3) "__getattr__" = some none)
    (np3 : PySem.W.findIn K (.ref E3) "place" = some none)
    (in3 : PySem.W.findIn K (.ref E3) "__init__" = some (some (.ref fI3)))
    (ti3 : PySem.W.typeIn K (.ref fI3) = some (.type "function"))
    (li3 : K.lookup fI3 = some ⟨ocI3, odI3, .func (PySem.W.fnOf "__init__" "NoLog.__init__" (defArgs sLogInit) (defBody sLogInit) (defScope sLogInit) .none kVI3 dcI3 pmI3 anI3 cdI3 ctI3), slI3⟩)
    (ci3 : PySem.W.codeIn K cdI3 "NoLog.__init__" = true)
    (ki3 : PySem.W.keepIn K (.ref fI3) = true)
    (kc3 : PySem.W.keepIn K (.ref E3) = true)
    (ec3 : PySem.W.subIn K (.ref E3) (.type "BaseException") = some true)
    (hc3 : PySem.W.hasDictIn K E3 = true)
    (cc3 : PySem.W.findIn K (.ref E3) "__class__" = some (some (.builtin "object.__class__")))
    (mc3 : PySem.W.mroIn K E3 (.type "object") = some true)
    (vc3 : PySem.W.subIn K (.ref E3) (.type "ValueError") = some true)
    (sc3 : PySem.W.subIn K (.ref E3) (.ref S) = some true)
    (s3_0 : PySem.W.subIn K (.ref E3) (.ref E0) = some false)
    (n3_0 : (Value.ref E3 == Value.ref E0) = false)
    (s3_1 : PySem.W.subIn K (.ref E3) (.ref E1) = some false)
    (n3_1 : (Value.ref E3 == Value.ref E1) = false)
    (s3_2 : PySem.W.subIn K (.ref E3) (.ref E2) = some false)
    (n3_2 : (Value.ref E3 == Value.ref E2) = false)
    (s3_4 : PySem.W.subIn K (.ref E3) (.ref E4) = some false)
    (n3_4 : (Value.ref E3 == Value.ref E4) = false)
    (s3_5 : PySem.W.subIn K (.ref E3) (.ref E5) = some false)
    (n3_5 : (Value.ref E3 == Value.ref E5) = false)
    (s3_6 : PySem.W.subIn K (.ref E3) (.ref E6) = some false)
    (n3_6 : (Value.ref E3 == Value.ref E6) = false)
    (s3_7 : PySem.W.subIn K (.ref E3) (.ref E7) = some false)
    (n3_7 : (Value.ref E3 == Value.ref E7) = false)
    (s3_8 : PySem.W.subIn K (.ref E3) (.ref E8) = some false)
    (n3_8 : (Value.ref E3 == Value.ref E8) = false)
    (s3_9 : PySem.W.subIn K (.ref E3) (.ref E9) = some false)
    (n3_9 : (Value.ref E3 == Value.ref E9) = false)
    (s3_10 : PySem.W.subIn K (.ref E3) (.ref E10) = some false)
    (n3_10 : (Value.ref E3 == Value.ref E10) = false)
    (s3_11 : PySem.W.subIn K (.ref E3) (.ref E11) = some false)
    (n3_11 : (Value.ref E3 == Value.ref E11) = false)
    (x8_ : K.lookup E8 = some (excClassObj nm8 q8 E8 N8 bs8 [.ref S, .type "ValueError", .type "Exception", .type "BaseException", .type "object"] true sn8 sb8 ab8 col8 dd8 m08 m18 m28 m38 m58 "ValueError.__new__"))
    (sa8 : PySem.W.findIn K (.ref E8) "__setattr__" = some (some (.builtin "object.__setattr__")))
    (ga8 : PySem.W.findIn K (.ref E8) "__getattribute__" = some (some (.builtin "BaseException.__getattribute__")))
    (gg8 : PySem.W.findIn K (.ref E8) "__getattr__" = some none)
    (np8 : PySem.W.findIn K (.ref E8) "number" = some none)
    (npp8 : PySem.W.findIn K (.ref E8) "place" = some none)
    (in8 : PySem.W.findIn K (.ref E8) "__init__" = some (some (.ref fI8)))
    (ti8 : PySem.W.typeIn K (.ref fI8) = some (.type "function"))
    (li8 : K.lookup fI8 = some ⟨ocI8, odI8, .func (PySem.W.fnOf "__init__" "NoNumber.__init__" (defArgs sNumberInit) (defBody sNumberInit) (defScope sNumberInit) .none kVI8 dcI8 pmI8 anI8 cdI8 ctI8), slI8⟩)
    (ci8 : PySem.W.codeIn K cdI8 "NoNumber.__init__" = true)
    (ki8 : PySem.W.keepIn K (.ref fI8) = true)
    (kc8 : PySem.W.keepIn K (.ref E8) = true)
    (ec8 : PySem.W.subIn K (.ref E8) (.type "BaseException") = some true)
    (hc8 : PySem.W.hasDictIn K E8 = true)
    (cc8 : PySem.W.findIn K (.ref E8) "__class__" = some (some (.builtin "object.__class__")))
    (mc8 : PySem.W.mroIn K E8 (.type "object") = some true)
    (vc8 : PySem.W.subIn K (.ref E8) (.type "ValueError") = some true)
    (sc8 : PySem.W.subIn K (.ref E8) (.ref S) = some true)
    (s8_0 : PySem.W.subIn K (.ref E8) (.ref E0) = some false)
    (n8_0 : (Value.ref E8 == Value.ref E0) = false)
    (s8_1 : PySem.W.subIn K (.ref E8) (.ref E1) = some false)
    (n8_1 : (Value.ref E8 == Value.ref E1) = false)
    (s8_2 : PySem.W.subIn K (.ref E8) (.ref E2) = some false)
    (n8_2 : (Value.ref E8 == Value.ref E2) = false)
    (s8_3 : PySem.W.subIn K (.ref E8) (.ref E3) = some false)
    (n8_3 : (Value.ref E8 == Value.ref E3) = false)
    (s8_4 : PySem.W.subIn K (.ref E8) (.ref E4) = some false)
    (n8_4 : (Value.ref E8 == Value.ref E4) = false)
    (s8_5 : PySem.W.subIn K (.ref E8) (.ref E5) = some false)
    (n8_5 : (Value.ref E8 == Value.ref E5) = false)
    (s8_6 : PySem.W.subIn K (.ref E8) (.ref E6) = some false)
    (n8_6 : (Value.ref E8 == Value.ref E6) = false)
    (s8_7 : PySem.W.subIn K (.ref E8) (.ref E7) = some false)
    (n8_7 : (Value.ref E8 == Value.ref E7) = false)
    (s8_9 : PySem.W.subIn K (.ref E8) (.ref E9) = some false)
    (n8_9 : (Value.ref E8 == Value.ref E9) = false)
    (s8_10 : PySem.W.subIn K (.ref E8) (.ref E10) = some false)
    (n8_10 : (Value.ref E8 == Value.ref E10) = false)
    (s8_11 : PySem.W.subIn K (.ref E8) (.ref E11) = some false)
    (n8_11 : (Value.ref E8 == Value.ref E11) = false)
    (aF : PySem.W.nsIn K mainGlobals "first_fault" = some (some (.ref fF)))
    (lF : K.lookup fF = some ⟨ocF, odF, .func (PySem.W.fnOf "first_fault" "first_fault" (defArgs sFirst) (defBody sFirst) (defScope sFirst) .none (.ref DF) dcF pmF anF cdF ctF), slF⟩)
    (cF : PySem.W.codeIn K cdF "first_fault" = true)
    (kF : PySem.W.keepIn K (.ref fF) = true)
    (nF : PySem.W.nsIn K DF "processors" = some (some (.int 1 tF)))
    (aC : PySem.W.nsIn K mainGlobals "count_logs" = some (some (.ref fC)))
    (lC : K.lookup fC = some ⟨ocC, odC, .func (PySem.W.fnOf "count_logs" "count_logs" (defArgs sCountLogs) (defBody sCountLogs) (defScope sCountLogs) .none (.ref DC) dcC pmC anC cdC ctC), slC⟩)
    (cC : PySem.W.codeIn K cdC "count_logs" = true)
    (kC : PySem.W.keepIn K (.ref fC) = true)
    (nC : PySem.W.nsIn K DC "processors" = some (some (.int 1 tC)))
    (aH : PySem.W.nsIn K mainGlobals "nth_log" = some (some (.ref fH)))
    (lH : K.lookup fH = some ⟨ocH, odH, .func (PySem.W.fnOf "nth_log" "nth_log" (defArgs sNthLog) (defBody sNthLog) (defScope sNthLog) .none (.ref DH) dcH pmH anH cdH ctH), slH⟩)
    (cH : PySem.W.codeIn K cdH "nth_log" = true)
    (kH : PySem.W.keepIn K (.ref fH) = true)
    (nH : PySem.W.nsIn K DH "processors" = some (some (.int 1 tH)))
    (aU : PySem.W.nsIn K mainGlobals "number_of_log" = some (some (.ref fU)))
    (lU : K.lookup fU = some ⟨ocU, odU, .func (PySem.W.fnOf "number_of_log" "number_of_log" (defArgs sNumLog) (defBody sNumLog) (defScope sNumLog) .none (.ref DU) dcU pmU anU cdU ctU), slU⟩)
    (cU : PySem.W.codeIn K cdU "number_of_log" = true)
    (kU : PySem.W.keepIn K (.ref fU) = true)
    (nU : PySem.W.nsIn K DU "processors" = some (some (.int 1 tU)))
    (aCb : PySem.W.nsIn K mainGlobals "comb" = some (some (.builtin "math.comb")))
    (aN : PySem.W.nsIn K mainGlobals "is_name" = some (some (.ref fN)))
    (lN : K.lookup fN = some ⟨ocN, odN, .func (PySem.W.fnOf "is_name" "is_name" (defArgs sName) (defBody sName) (defScope sName) .none kVN dcN pmN anN (.ref cN) ctN), slN⟩)
    (cNf : PySem.W.codeIn K (.ref cN) "is_name" = true)
    (kNf : PySem.W.keepIn K (.ref fN) = true)
    (hcN : K.lookup cN = some ⟨eN, ddN, .fields vsN, scN⟩)
    (hvN : (vsN[11]? : Option Value) = some (.ref PN))
    (nPN : K.lookup PN = none)
    : LawTab l w K mg fa := by
  have D0 : Df K mg "is_integer" sInteger ["value", "least"] := by
    have F := fun_mk (st := sInteger) l0 c0 k0
    exact ⟨_, _, PySem.W.mg_of X G a0, F, F.binds (ps := ["value", "least"]) fun _ _ _ _ _ _ us hl => match us, hl with | [_, _], _ => rfl⟩
  have D1 : Df K mg "is_tuple_of" sTupleOf ["value", "many"] := by
    have F := fun_mk (st := sTupleOf) l1 c1 k1
    exact ⟨_, _, PySem.W.mg_of X G a1, F, F.binds (ps := ["value", "many"]) fun _ _ _ _ _ _ us hl => match us, hl with | [_, _], _ => rfl⟩
  have D2 : Df K mg "check_jobs" sCheck ["jobs"] := by
    have F := fun_mk (st := sCheck) l2 c2 k2
    exact ⟨_, _, PySem.W.mg_of X G a2, F, F.binds (ps := ["jobs"]) fun _ _ _ _ _ _ us hl => match us, hl with | [_], _ => rfl⟩
  have D3 : Df K mg "count_arrived" sCount ["jobs", "moment", "finished"] := by
    have F := fun_mk (st := sCount) l3 c3 k3
    exact ⟨_, _, PySem.W.mg_of X G a3, F, F.binds (ps := ["jobs", "moment", "finished"]) fun _ _ _ _ _ _ us hl => match us, hl with | [_, _, _], _ => rfl⟩
  have D4 : Df K mg "has_arrived" sHas ["job", "moment", "finished"] := by
    have F := fun_mk (st := sHas) l4 c4 k4
    exact ⟨_, _, PySem.W.mg_of X G a4, F, F.binds (ps := ["job", "moment", "finished"]) fun _ _ _ _ _ _ us hl => match us, hl with | [_, _, _], _ => rfl⟩
  have D5 : Df K mg "check_each_job" sEach ["jobs"] := by
    have F := fun_mk (st := sEach) l5 c5 k5
    exact ⟨_, _, PySem.W.mg_of X G a5, F, F.binds (ps := ["jobs"]) fun _ _ _ _ _ _ us hl => match us, hl with | [_], _ => rfl⟩
  have D6 : Df K mg "is_job" sIsJob ["job"] := by
    have F := fun_mk (st := sIsJob) l6 c6 k6
    exact ⟨_, _, PySem.W.mg_of X G a6, F, F.binds (ps := ["job"]) fun _ _ _ _ _ _ us hl => match us, hl with | [_], _ => rfl⟩
  have D7 : Df K mg "is_arrival" sArrival ["arrival"] := by
    have F := fun_mk (st := sArrival) l7 c7 k7
    exact ⟨_, _, PySem.W.mg_of X G a7, F, F.binds (ps := ["arrival"]) fun _ _ _ _ _ _ us hl => match us, hl with | [_], _ => rfl⟩
  have D8 : Df K mg "waits_forever" sWaits ["job", "jobs"] := by
    have F := fun_mk (st := sWaits) l8 c8 k8
    exact ⟨_, _, PySem.W.mg_of X G a8, F, F.binds (ps := ["job", "jobs"]) fun _ _ _ _ _ _ us hl => match us, hl with | [_, _], _ => rfl⟩
  have D9 : Df K mg "check_log" sCheckLog ["log"] := by
    have F := fun_mk (st := sCheckLog) l9 c9 k9
    exact ⟨_, _, PySem.W.mg_of X G a9, F, F.binds (ps := ["log"]) fun _ _ _ _ _ _ us hl => match us, hl with | [_], _ => rfl⟩
  have D10 : Df K mg "count_present" sPresent ["jobs", "moment", "finished"] := by
    have F := fun_mk (st := sPresent) l10 c10 k10
    exact ⟨_, _, PySem.W.mg_of X G a10, F, F.binds (ps := ["jobs", "moment", "finished"]) fun _ _ _ _ _ _ us hl => match us, hl with | [_, _, _], _ => rfl⟩
  have D11 : Df K mg "count_running" sRunning ["jobs", "unit", "finished", "processors"] := by
    have F := fun_mk (st := sRunning) l11 c11 k11
    exact ⟨_, _, PySem.W.mg_of X G a11, F, F.binds (ps := ["jobs", "unit", "finished", "processors"]) fun _ _ _ _ _ _ us hl => match us, hl with | [_, _, _, _], _ => rfl⟩
  have D12 : Df K mg "outcomes" sOutcomes ["jobs", "unit", "finished", "processors"] := by
    have F := fun_mk (st := sOutcomes) l12 c12 k12
    exact ⟨_, _, PySem.W.mg_of X G a12, F, F.binds (ps := ["jobs", "unit", "finished", "processors"]) fun _ _ _ _ _ _ us hl => match us, hl with | [_, _, _, _], _ => rfl⟩
  have D13 : Df K mg "rests_of" sRests ["jobs", "last", "processors"] := by
    have F := fun_mk (st := sRests) l13 c13 k13
    exact ⟨_, _, PySem.W.mg_of X G a13, F, F.binds (ps := ["jobs", "last", "processors"]) fun _ _ _ _ _ _ us hl => match us, hl with | [_, _, _], _ => rfl⟩
  have D14 : Df K mg "in_order" sInOrder ["jobs", "unit", "finished", "processors"] := by
    have F := fun_mk (st := sInOrder) l14 c14 k14
    exact ⟨_, _, PySem.W.mg_of X G a14, F, F.binds (ps := ["jobs", "unit", "finished", "processors"]) fun _ _ _ _ _ _ us hl => match us, hl with | [_, _, _, _], _ => rfl⟩
  have D15 : Df K mg "_law_mix" sMix ["number", "turn"] := by
    have F := fun_mk (st := sMix) l15 c15 k15
    exact ⟨_, _, PySem.W.mg_of X G a15, F, F.binds (ps := ["number", "turn"]) fun _ _ _ _ _ _ us hl => match us, hl with | [_, _], _ => rfl⟩
  have D16 : Df K mg "_law_store" sStore ["script"] := by
    have F := fun_mk (st := sStore) l16 c16 k16
    exact ⟨_, _, PySem.W.mg_of X G a16, F, F.binds (ps := ["script"]) fun _ _ _ _ _ _ us hl => match us, hl with | [_], _ => rfl⟩
  have D17 : Df K mg "_law_pick" sPick ["store", "count"] := by
    have F := fun_mk (st := sPick) l17 c17 k17
    exact ⟨_, _, PySem.W.mg_of X G a17, F, F.binds (ps := ["store", "count"]) fun _ _ _ _ _ _ us hl => match us, hl with | [_, _], _ => rfl⟩
  have D18 : Df K mg "_law_names" sNames ["store", "count"] := by
    have F := fun_mk (st := sNames) l18 c18 k18
    exact ⟨_, _, PySem.W.mg_of X G a18, F, F.binds (ps := ["store", "count"]) fun _ _ _ _ _ _ us hl => match us, hl with | [_, _], _ => rfl⟩
  have D19 : Df K mg "_law_before" sBefore ["arrival", "finishes"] := by
    have F := fun_mk (st := sBefore) l19 c19 k19
    exact ⟨_, _, PySem.W.mg_of X G a19, F, F.binds (ps := ["arrival", "finishes"]) fun _ _ _ _ _ _ us hl => match us, hl with | [_, _], _ => rfl⟩
  have D20 : Df K mg "_law_jobs" sJobs ["store", "most", "late"] := by
    have F := fun_mk (st := sJobs) l20 c20 k20
    exact ⟨_, _, PySem.W.mg_of X G a20, F, F.binds (ps := ["store", "most", "late"]) fun _ _ _ _ _ _ us hl => match us, hl with | [_, _, _], _ => rfl⟩
  have D21 : Df K mg "_law_is_int" sInt ["value", "least"] := by
    have F := fun_mk (st := sInt) l21 c21 k21
    exact ⟨_, _, PySem.W.mg_of X G a21, F, F.binds (ps := ["value", "least"]) fun _ _ _ _ _ _ us hl => match us, hl with | [_, _], _ => rfl⟩
  have D22 : Df K mg "_law_kind" sKind ["caught"] := by
    have F := fun_mk (st := sKind) l22 c22 k22
    exact ⟨_, _, PySem.W.mg_of X G a22, F, F.binds (ps := ["caught"]) fun _ _ _ _ _ _ us hl => match us, hl with | [_], _ => rfl⟩
  have D23 : Df K mg "_law_present" sPresentL ["jobs", "unit", "finished"] := by
    have F := fun_mk (st := sPresentL) l23 c23 k23
    exact ⟨_, _, PySem.W.mg_of X G a23, F, F.binds (ps := ["jobs", "unit", "finished"]) fun _ _ _ _ _ _ us hl => match us, hl with | [_, _, _], _ => rfl⟩
  have D24 : Df K mg "_law_log" sLog ["store", "jobs", "cores", "wide"] := by
    have F := fun_mk (st := sLog) l24 c24 k24
    exact ⟨_, _, PySem.W.mg_of X G a24, F, F.binds (ps := ["store", "jobs", "cores", "wide"]) fun _ _ _ _ _ _ us hl => match us, hl with | [_, _, _, _], _ => rfl⟩
  have D25 : Df K mg "_law_log_fault" sLogFault ["log"] := by
    have F := fun_mk (st := sLogFault) l25 c25 k25
    exact ⟨_, _, PySem.W.mg_of X G a25, F, F.binds (ps := ["log"]) fun _ _ _ _ _ _ us hl => match us, hl with | [_], _ => rfl⟩
  have D26 : Df K mg "_law_certificate" sCert ["jobs", "log", "cores"] := by
    have F := fun_mk (st := sCert) l26 c26 k26
    exact ⟨_, _, PySem.W.mg_of X G a26, F, F.binds (ps := ["jobs", "log", "cores"]) fun _ _ _ _ _ _ us hl => match us, hl with | [_, _, _], _ => rfl⟩
  have D27 : Df K mg "_law_zero_right" sZero ["jobs", "last", "cores"] := by
    have F := fun_mk (st := sZero) l27 c27 k27
    exact ⟨_, _, PySem.W.mg_of X G a27, F, F.binds (ps := ["jobs", "last", "cores"]) fun _ _ _ _ _ _ us hl => match us, hl with | [_, _, _], _ => rfl⟩
  have D28 : Df K mg "law" sLaw ["script"] := by
    have F := fun_mk (st := sLaw) l28 c28 k28
    exact ⟨_, _, PySem.W.mg_of X G a28, F, F.binds (ps := ["script"]) fun _ _ _ _ _ _ us hl => match us, hl with | [_], _ => rfl⟩
  have oex0 : OexC K E0 := ⟨⟨_, _, _, _, _, _, _, _, _, _, _, _, _, _, _, x0_, rfl⟩, sa0, ec0, tE0, kc0⟩
  have exc0 : ExcC K E0 := ⟨ga0, gg0, ec0, hc0, cc0, spG, tkG, mc0⟩
  have xfc0 : XfC K E0 := ⟨ga0, gg0, ec0, hc0⟩
  have nit0 : Nit K "NoJobs" "NoJobs.__init__" "place" sJobsInit E0 := by
    have F : Fun K "__init__" "NoJobs.__init__" sJobsInit fI0 _ := fun_mk (st := sJobsInit) li0 ci0 ki0
    exact ⟨_, _, in0, ti0, F, F.binds (ps := ["self", "place"]) fun _ _ _ _ _ _ us hl => match us, hl with | [_, _], _ => rfl⟩
  have kn0 : Kn K mg E0 0 := ⟨exc0, xfc0, np0, PySem.W.mg_none_of X G zVE, kit_ve vc0, ⟨S, PySem.W.mg_of X G aS, kit_sub iS tS sc0, PySem.W.exm_ref eS hS tS sc0⟩,
    ⟨_, PySem.W.mg_of X G aE0, by rw [kit_same]; rfl⟩,
    ⟨_, PySem.W.mg_of X G aE1, by rw [kit_ref n0_1 iE1 tE1 s0_1]; rfl⟩,
    ⟨_, PySem.W.mg_of X G aE2, by rw [kit_ref n0_2 iE2 tE2 s0_2]; rfl⟩,
    ⟨_, PySem.W.mg_of X G aE3, by rw [kit_ref n0_3 iE3 tE3 s0_3]; rfl⟩,
    ⟨_, PySem.W.mg_of X G aE4, by rw [kit_ref n0_4 iE4 tE4 s0_4]; rfl⟩,
    ⟨_, PySem.W.mg_of X G aE5, by rw [kit_ref n0_5 iE5 tE5 s0_5]; rfl⟩,
    ⟨_, PySem.W.mg_of X G aE6, by rw [kit_ref n0_6 iE6 tE6 s0_6]; rfl⟩,
    ⟨_, PySem.W.mg_of X G aE7, by rw [kit_ref n0_7 iE7 tE7 s0_7]; rfl⟩,
    ⟨_, PySem.W.mg_of X G aE8, by rw [kit_ref n0_8 iE8 tE8 s0_8]; rfl⟩,
    ⟨_, PySem.W.mg_of X G aE9, by rw [kit_ref n0_9 iE9 tE9 s0_9]; rfl⟩,
    ⟨_, PySem.W.mg_of X G aE10, by rw [kit_ref n0_10 iE10 tE10 s0_10]; rfl⟩,
    ⟨_, PySem.W.mg_of X G aE11, by rw [kit_ref n0_11 iE11 tE11 s0_11]; rfl⟩⟩
  have oex3 : OexC K E3 := ⟨⟨_, _, _, _, _, _, _, _, _, _, _, _, _, _, _, x3_, rfl⟩, sa3, ec3, tE3, kc3⟩
  have exc3 : ExcC K E3 := ⟨ga3, gg3, ec3, hc3, cc3, spG, tkG, mc3⟩
  have xfc3 : XfC K E3 := ⟨ga3, gg3, ec3, hc3⟩
  have nit3 : Nit K "NoLog" "NoLog.__init__" "place" sLogInit E3 := by
    have F : Fun K "__init__" "NoLog.__init__" sLogInit fI3 _ := fun_mk (st := sLogInit) li3 ci3 ki3
    exact ⟨_, _, in3, ti3, F, F.binds (ps := ["self", "place"]) fun _ _ _ _ _ _ us hl => match us, hl with | [_, _], _ => rfl⟩
  have kn3 : Kn K mg E3 3 := ⟨exc3, xfc3, np3, PySem.W.mg_none_of X G zVE, kit_ve vc3, ⟨S, PySem.W.mg_of X G aS, kit_sub iS tS sc3, PySem.W.exm_ref eS hS tS sc3⟩,
    ⟨_, PySem.W.mg_of X G aE0, by rw [kit_ref n3_0 iE0 tE0 s3_0]; rfl⟩,
    ⟨_, PySem.W.mg_of X G aE1, by rw [kit_ref n3_1 iE1 tE1 s3_1]; rfl⟩,
    ⟨_, PySem.W.mg_of X G aE2, by rw [kit_ref n3_2 iE2 tE2 s3_2]; rfl⟩,
    ⟨_, PySem.W.mg_of X G aE3, by rw [kit_same]; rfl⟩,
    ⟨_, PySem.W.mg_of X G aE4, by rw [kit_ref n3_4 iE4 tE4 s3_4]; rfl⟩,
    ⟨_, PySem.W.mg_of X G aE5, by rw [kit_ref n3_5 iE5 tE5 s3_5]; rfl⟩,
    ⟨_, PySem.W.mg_of X G aE6, by rw [kit_ref n3_6 iE6 tE6 s3_6]; rfl⟩,
    ⟨_, PySem.W.mg_of X G aE7, by rw [kit_ref n3_7 iE7 tE7 s3_7]; rfl⟩,
    ⟨_, PySem.W.mg_of X G aE8, by rw [kit_ref n3_8 iE8 tE8 s3_8]; rfl⟩,
    ⟨_, PySem.W.mg_of X G aE9, by rw [kit_ref n3_9 iE9 tE9 s3_9]; rfl⟩,
    ⟨_, PySem.W.mg_of X G aE10, by rw [kit_ref n3_10 iE10 tE10 s3_10]; rfl⟩,
    ⟨_, PySem.W.mg_of X G aE11, by rw [kit_ref n3_11 iE11 tE11 s3_11]; rfl⟩⟩
  have oex8 : OexC K E8 := ⟨⟨_, _, _, _, _, _, _, _, _, _, _, _, _, _, _, x8_, rfl⟩, sa8, ec8, tE8, kc8⟩
  have exc8 : ExcC K E8 := ⟨ga8, gg8, ec8, hc8, cc8, spG, tkG, mc8⟩
  have xfc8 : XfC K E8 := ⟨ga8, gg8, ec8, hc8⟩
  have nit8 : Nit K "NoNumber" "NoNumber.__init__" "number" sNumberInit E8 := by
    have F : Fun K "__init__" "NoNumber.__init__" sNumberInit fI8 _ := fun_mk (st := sNumberInit) li8 ci8 ki8
    exact ⟨_, _, in8, ti8, F, F.binds (ps := ["self", "number"]) fun _ _ _ _ _ _ us hl => match us, hl with | [_, _], _ => rfl⟩
  have kn8 : Kn K mg E8 8 := ⟨exc8, xfc8, npp8, PySem.W.mg_none_of X G zVE, kit_ve vc8, ⟨S, PySem.W.mg_of X G aS, kit_sub iS tS sc8, PySem.W.exm_ref eS hS tS sc8⟩,
    ⟨_, PySem.W.mg_of X G aE0, by rw [kit_ref n8_0 iE0 tE0 s8_0]; rfl⟩,
    ⟨_, PySem.W.mg_of X G aE1, by rw [kit_ref n8_1 iE1 tE1 s8_1]; rfl⟩,
    ⟨_, PySem.W.mg_of X G aE2, by rw [kit_ref n8_2 iE2 tE2 s8_2]; rfl⟩,
    ⟨_, PySem.W.mg_of X G aE3, by rw [kit_ref n8_3 iE3 tE3 s8_3]; rfl⟩,
    ⟨_, PySem.W.mg_of X G aE4, by rw [kit_ref n8_4 iE4 tE4 s8_4]; rfl⟩,
    ⟨_, PySem.W.mg_of X G aE5, by rw [kit_ref n8_5 iE5 tE5 s8_5]; rfl⟩,
    ⟨_, PySem.W.mg_of X G aE6, by rw [kit_ref n8_6 iE6 tE6 s8_6]; rfl⟩,
    ⟨_, PySem.W.mg_of X G aE7, by rw [kit_ref n8_7 iE7 tE7 s8_7]; rfl⟩,
    ⟨_, PySem.W.mg_of X G aE8, by rw [kit_same]; rfl⟩,
    ⟨_, PySem.W.mg_of X G aE9, by rw [kit_ref n8_9 iE9 tE9 s8_9]; rfl⟩,
    ⟨_, PySem.W.mg_of X G aE10, by rw [kit_ref n8_10 iE10 tE10 s8_10]; rfl⟩,
    ⟨_, PySem.W.mg_of X G aE11, by rw [kit_ref n8_11 iE11 tE11 s8_11]; rfl⟩⟩
  have DKF : DfK K mg "first_fault" sFirst ["jobs", "log"] "processors" (.int 1) := dfk_mk (PySem.W.mg_of X G aF) lF cF kF nF (show RelV (.int 1) (.int 1 tF) from ⟨tF, rfl⟩) (fun _ _ _ _ _ _ _ _ => rfl) (fun _ _ _ _ _ _ _ _ => ⟨_, _, _, _, _, _, rfl, rfl, rfl⟩)
  have DMC : DfM K mg "count_logs" sCountLogs ["jobs", "last", "processors"] 2 ["processors"] (fun vs zs => vs ++ zs) := dfm_all (PySem.W.mg_of X G aC) lC cC kC fun _ _ _ _ _ us ws h1 h2 => match us, ws, h1, h2 with | [_, _], [_], _, _ => rfl
  have DMH : DfM K mg "nth_log" sNthLog ["jobs", "last", "number", "processors"] 3 ["processors"] (fun vs zs => vs ++ zs) := dfm_all (PySem.W.mg_of X G aH) lH cH kH fun _ _ _ _ _ us ws h1 h2 => match us, ws, h1, h2 with | [_, _, _], [_], _, _ => rfl
  have DMU : DfM K mg "number_of_log" sNumLog ["jobs", "log", "last", "processors"] 3 ["processors"] (fun vs zs => vs ++ zs) := dfm_all (PySem.W.mg_of X G aU) lU cU kU fun _ _ _ _ _ us ws h1 h2 => match us, ws, h1, h2 with | [_, _, _], [_], _, _ => rfl
  have DN : DfC K mg "is_name" sName ["value"] cN := by
    have F : Fun K "is_name" "is_name" sName fN _ := fun_mk (st := sName) lN cNf kNf
    exact ⟨fN, ocN, odN, kVN, dcN, pmN, anN, ctN, slN, PySem.W.mg_of X G aN, lN, cNf, kNf, F.binds (ps := ["value"]) fun _ _ _ _ _ _ us hl => match us, hl with | [_], _ => rfl⟩
  have tN : PySem.W.tabIn K "is_name" = some (cN, PN) := by
    unfold PySem.W.tabIn
    rw [aN]
    dsimp only
    rw [lN]
    dsimp only [PySem.W.fnOf]
    rw [hcN]
    dsimp only
    rw [hvN]
  have B : Blt mg := ⟨PySem.W.mg_none_of X G z_len, PySem.W.mg_none_of X G z_isinstance, PySem.W.mg_none_of X G z_int, PySem.W.mg_none_of X G z_bool, PySem.W.mg_none_of X G z_tuple, PySem.W.mg_none_of X G z_str, PySem.W.mg_none_of X G z_range, PySem.W.mg_none_of X G z_enumerate, PySem.W.mg_none_of X G z_list⟩
  have F := fun_mk (st := sLaw) l28 c28 k28
  have e := hfa.symm.trans (PySem.W.mg_of X G a28)
  cases e
  refine ⟨PySem.W.fnOf "law" "law" (defArgs sLaw) (defBody sLaw) (defScope sLaw) .none kV28 dc28 pm28 an28 cd28 ct28, cN, PN, tN, nPN, fun s v => .of_eq rfl, fun base _ _ TB => ?_⟩
  have cI := ok_integer (P := l.prog) (w := w) (base := base) D0 B
  have cT := ok_tupleOf (P := l.prog) (w := w) (base := base) D1 B
  have cA := ok_arrival (P := l.prog) (w := w) (base := base) D7 cT cI
  have cN' := ok_name (P := l.prog) (w := w) (base := base) DN TB B (PySem.W.mg_none_of X G z_all)
  have cJ := ok_isJob (P := l.prog) (w := w) (base := base) D6 cT cI cN' cA
  have cW := ok_waits (P := l.prog) (w := w) (base := base) D8 B
  have er := erc_jobs (P := l.prog) (w := w) (base := base) (PySem.W.mg_of X G aE0) oex0 np0 nit0
  have cE := ok_each (P := l.prog) (w := w) (base := base) D5 B er cJ
  have cK := ok_check (P := l.prog) (w := w) (base := base) D2 B er cE cW
  have cHa := ok_has (P := l.prog) (w := w) (base := base) D4
  have cCo := ok_count (P := l.prog) (w := w) (base := base) D3 B cHa
  have erL := erc_log (P := l.prog) (w := w) (base := base) (PySem.W.mg_of X G aE3) oex3 np3 nit3
  have erU := erc_number (P := l.prog) (w := w) (base := base) (PySem.W.mg_of X G aE8) oex8 np8 nit8
  have cCL := ok_checkLog (P := l.prog) (w := w) (base := base) D9 B erL cT cI
  have cPr := ok_present (P := l.prog) (w := w) (base := base) D10 cCo
  have cRu := ok_running (P := l.prog) (w := w) (base := base) D11 (PySem.W.mg_none_of X G z_min) cPr
  have cFF := ok_first (P := l.prog) (w := w) (base := base) DKF B cK cCL cRu
  have cOu := ok_outcomes (P := l.prog) (w := w) (base := base) D12 B (PySem.W.mg_of X G aCb) cRu
  have cIO := ok_inOrder (P := l.prog) (w := w) (base := base) D14 B cRu
  have cRs := ok_rests (P := l.prog) (w := w) (base := base) D13 B (PySem.W.mg_none_of X G z_sum) cOu
  have cCn := ok_countLogs (P := l.prog) (w := w) (base := base) DMC cK cRs
  have cNt := ok_nthLog (P := l.prog) (w := w) (base := base) DMH B cK cRs cI cIO erU
  have cNu := ok_numLog (P := l.prog) (w := w) (base := base) DMU B (PySem.W.mg_none_of X G z_dict) (PySem.W.mg_none_of X G z_sum) cK cCL cFF cRs cIO erU
  have cM := ok_mix (P := l.prog) (w := w) (base := base) D15
  have cS := ok_store (P := l.prog) (w := w) (base := base) D16 B.len
  have cP := ok_pick (P := l.prog) (w := w) (base := base) D17 cM B.len
  have cNm := ok_names (P := l.prog) (w := w) (base := base) D18 B cP
  have cB := ok_before (P := l.prog) (w := w) (base := base) D19
  have cG := ok_jobs (P := l.prog) (w := w) (base := base) D20 B cP cNm cB
  have cL := ok_int (P := l.prog) (w := w) (base := base) D21 B
  have cKi := ok_kind8 (P := l.prog) (w := w) (base := base) rfl D22 B kn8 np8
  have cPL := ok_presL (P := l.prog) (w := w) (base := base) D23 B
  have cLg := ok_log (P := l.prog) (w := w) (base := base) D24 B (PySem.W.mg_none_of X G z_min) cP cPL
  have cLF := ok_logFault (P := l.prog) (w := w) (base := base) D25 B cL
  have cCe := ok_cert (P := l.prog) (w := w) (base := base) D26 B (PySem.W.mg_none_of X G z_min) cPL
  have cZr := ok_zero (P := l.prog) (w := w) (base := base) D27 kn8 cNt cKi
  exact ok_law F B (PySem.W.mg_none_of X G z_max) (PySem.W.mg_none_of X G z_min) (PySem.W.mg_none_of X G z_sorted) (PySem.W.mg_none_of X G z_zip) cS cP cG cLg cL cZr cLF cCe cCn cNt cNu
end Vk
set_option maxHeartbeats 0
namespace Vk
open PySem PySem.Spec PyProof.Rows L2
theorem factsV {w : World} {K : PySem.W.Frag} {h : Heap} {mg : Str → Option Value} {fa : Addr} (X : K.In h) (G : h.Ns mainGlobals mg) (hfa : mg ("law" : Str) = some (.ref fa)) (c : seeV fsV fnV K = dueV fnV) : LawTab PySem.Challenge.rw_blindslots_k35_long_logs_numbered w K mg fa := by
  obtain ⟨oc0, od0, sl0, kV0, dc0, pm0, an0, cd0, ct0, a0, l0, c0, k0⟩ := okD (x := "is_integer") (st := sInteger) (defV c 0 rfl) (facV c 0 rfl)
  obtain ⟨oc1, od1, sl1, kV1, dc1, pm1, an1, cd1, ct1, a1, l1, c1, k1⟩ := okD (x := "is_tuple_of") (st := sTupleOf) (defV c 1 rfl) (facV c 1 rfl)
  obtain ⟨oc2, od2, sl2, kV2, dc2, pm2, an2, cd2, ct2, a2, l2, c2, k2⟩ := okD (x := "check_jobs") (st := sCheck) (defV c 2 rfl) (facV c 2 rfl)
  obtain ⟨oc3, od3, sl3, kV3, dc3, pm3, an3, cd3, ct3, a3, l3, c3, k3⟩ := okD (x := "count_arrived") (st := sCount) (defV c 3 rfl) (facV c 3 rfl)
  obtain ⟨oc4, od4, sl4, kV4, dc4, pm4, an4, cd4, ct4, a4, l4, c4, k4⟩ := okD (x := "has_arrived") (st := sHas) (defV c 4 rfl) (facV c 4 rfl)
  obtain ⟨oc5, od5, sl5, kV5, dc5, pm5, an5, cd5, ct5, a5, l5, c5, k5⟩ := okD (x := "check_each_job") (st := sEach) (defV c 5 rfl) (facV c 5 rfl)
  obtain ⟨oc6, od6, sl6, kV6, dc6, pm6, an6, cd6, ct6, a6, l6, c6, k6⟩ := okD (x := "is_job") (st := sIsJob) (defV c 6 rfl) (facV c 6 rfl)
  obtain ⟨oc7, od7, sl7, kV7, dc7, pm7, an7, cd7, ct7, a7, l7, c7, k7⟩ := okD (x := "is_arrival") (st := sArrival) (defV c 7 rfl) (facV c 7 rfl)
  obtain ⟨oc8, od8, sl8, kV8, dc8, pm8, an8, cd8, ct8, a8, l8, c8, k8⟩ := okD (x := "waits_forever") (st := sWaits) (defV c 8 rfl) (facV c 8 rfl)
  obtain ⟨oc9, od9, sl9, kV9, dc9, pm9, an9, cd9, ct9, a9, l9, c9, k9⟩ := okD (x := "check_log") (st := sCheckLog) (defV c 9 rfl) (facV c 9 rfl)
  obtain ⟨oc10, od10, sl10, kV10, dc10, pm10, an10, cd10, ct10, a10, l10, c10, k10⟩ := okD (x := "count_present") (st := sPresent) (defV c 10 rfl) (facV c 10 rfl)
  obtain ⟨oc11, od11, sl11, kV11, dc11, pm11, an11, cd11, ct11, a11, l11, c11, k11⟩ := okD (x := "count_running") (st := sRunning) (defV c 11 rfl) (facV c 11 rfl)
  obtain ⟨oc12, od12, sl12, kV12, dc12, pm12, an12, cd12, ct12, a12, l12, c12, k12⟩ := okD (x := "outcomes") (st := sOutcomes) (defV c 12 rfl) (facV c 12 rfl)
  obtain ⟨oc13, od13, sl13, kV13, dc13, pm13, an13, cd13, ct13, a13, l13, c13, k13⟩ := okD (x := "rests_of") (st := sRests) (defV c 13 rfl) (facV c 13 rfl)
  obtain ⟨oc14, od14, sl14, kV14, dc14, pm14, an14, cd14, ct14, a14, l14, c14, k14⟩ := okD (x := "in_order") (st := sInOrder) (defV c 14 rfl) (facV c 14 rfl)
  obtain ⟨oc15, od15, sl15, kV15, dc15, pm15, an15, cd15, ct15, a15, l15, c15, k15⟩ := okD (x := "_law_mix") (st := sMix) (defV c 15 rfl) (facV c 15 rfl)
  obtain ⟨oc16, od16, sl16, kV16, dc16, pm16, an16, cd16, ct16, a16, l16, c16, k16⟩ := okD (x := "_law_store") (st := sStore) (defV c 16 rfl) (facV c 16 rfl)
  obtain ⟨oc17, od17, sl17, kV17, dc17, pm17, an17, cd17, ct17, a17, l17, c17, k17⟩ := okD (x := "_law_pick") (st := sPick) (defV c 17 rfl) (facV c 17 rfl)
  obtain ⟨oc18, od18, sl18, kV18, dc18, pm18, an18, cd18, ct18, a18, l18, c18, k18⟩ := okD (x := "_law_names") (st := sNames) (defV c 18 rfl) (facV c 18 rfl)
  obtain ⟨oc19, od19, sl19, kV19, dc19, pm19, an19, cd19, ct19, a19, l19, c19, k19⟩ := okD (x := "_law_before") (st := sBefore) (defV c 19 rfl) (facV c 19 rfl)
  obtain ⟨oc20, od20, sl20, kV20, dc20, pm20, an20, cd20, ct20, a20, l20, c20, k20⟩ := okD (x := "_law_jobs") (st := sJobs) (defV c 20 rfl) (facV c 20 rfl)
  obtain ⟨oc21, od21, sl21, kV21, dc21, pm21, an21, cd21, ct21, a21, l21, c21, k21⟩ := okD (x := "_law_is_int") (st := sInt) (defV c 21 rfl) (facV c 21 rfl)
  obtain ⟨oc22, od22, sl22, kV22, dc22, pm22, an22, cd22, ct22, a22, l22, c22, k22⟩ := okD (x := "_law_kind") (st := sKind) (defV c 22 rfl) (facV c 22 rfl)
  obtain ⟨oc23, od23, sl23, kV23, dc23, pm23, an23, cd23, ct23, a23, l23, c23, k23⟩ := okD (x := "_law_present") (st := sPresentL) (defV c 23 rfl) (facV c 23 rfl)
  obtain ⟨oc24, od24, sl24, kV24, dc24, pm24, an24, cd24, ct24, a24, l24, c24, k24⟩ := okD (x := "_law_log") (st := sLog) (defV c 24 rfl) (facV c 24 rfl)
  obtain ⟨oc25, od25, sl25, kV25, dc25, pm25, an25, cd25, ct25, a25, l25, c25, k25⟩ := okD (x := "_law_log_fault") (st := sLogFault) (defV c 25 rfl) (facV c 25 rfl)
  obtain ⟨oc26, od26, sl26, kV26, dc26, pm26, an26, cd26, ct26, a26, l26, c26, k26⟩ := okD (x := "_law_certificate") (st := sCert) (defV c 26 rfl) (facV c 26 rfl)
  obtain ⟨oc27, od27, sl27, kV27, dc27, pm27, an27, cd27, ct27, a27, l27, c27, k27⟩ := okD (x := "_law_zero_right") (st := sZero) (defV c 27 rfl) (facV c 27 rfl)
  obtain ⟨oc28, od28, sl28, kV28, dc28, pm28, an28, cd28, ct28, a28, l28, c28, k28⟩ := okD (x := "law") (st := sLaw) (defV c 28 rfl) (facV c 28 rfl)
  obtain ⟨z_len, z_isinstance, z_int, z_bool, z_tuple, z_str, z_range, z_enumerate, z_list, z_all, z_min, z_max, z_zip, z_sum, z_dict, z_sorted, aS, iS, hS, tS⟩ : (PySem.W.nsIn K mainGlobals "len" = some none) ∧ (PySem.W.nsIn K mainGlobals "isinstance" = some none) ∧ (PySem.W.nsIn K mainGlobals "int" = some none) ∧ (PySem.W.nsIn K mainGlobals "bool" = some none) ∧ (PySem.W.nsIn K mainGlobals "tuple" = some none) ∧ (PySem.W.nsIn K mainGlobals "str" = some none) ∧ (PySem.W.nsIn K mainGlobals "range" = some none) ∧ (PySem.W.nsIn K mainGlobals "enumerate" = some none) ∧ (PySem.W.nsIn K mainGlobals "list" = some none) ∧ (PySem.W.nsIn K mainGlobals "all" = some none) ∧ (PySem.W.nsIn K mainGlobals "min" = some none) ∧ (PySem.W.nsIn K mainGlobals "max" = some none) ∧ (PySem.W.nsIn K mainGlobals "zip" = some none) ∧ (PySem.W.nsIn K mainGlobals "sum" = some none) ∧ (PySem.W.nsIn K mainGlobals "dict" = some none) ∧ (PySem.W.nsIn K mainGlobals "sorted" = some none) ∧ (PySem.W.nsIn K mainGlobals "SlotError" = some (some (.ref (He.ga K "SlotError")))) ∧ (PySem.W.isClsIn K (He.ga K "SlotError") = true) ∧ (PySem.W.hasDictIn K (He.ga K "SlotError") = true) ∧ (PySem.W.typeIn K (.ref (He.ga K "SlotError")) = some (.type "type")) := of_decide_eq_true (facV c 29 rfl)
  obtain ⟨eS, spG, tkG, zVE, aE0, iE0, tE0, aE1, iE1, tE1, aE2, iE2, tE2, aE3, iE3, tE3, aE4, iE4, tE4, aE5⟩ : (PySem.W.subIn K (.ref (He.ga K "SlotError")) (.type "BaseException") = some true) ∧ (PySem.W.specialIn K (.builtin "object.__class__") "__get__" = some (some (.builtin "getset_descriptor.__get__"))) ∧ (PySem.W.takesIn K (.builtin "object.__class__") = some true) ∧ (PySem.W.nsIn K mainGlobals "ValueError" = some none) ∧ (PySem.W.nsIn K mainGlobals "NoJobs" = some (some (.ref (He.ga K "NoJobs")))) ∧ (PySem.W.isClsIn K (He.ga K "NoJobs") = true) ∧ (PySem.W.typeIn K (.ref (He.ga K "NoJobs")) = some (.type "type")) ∧ (PySem.W.nsIn K mainGlobals "NoRule" = some (some (.ref (He.ga K "NoRule")))) ∧ (PySem.W.isClsIn K (He.ga K "NoRule") = true) ∧ (PySem.W.typeIn K (.ref (He.ga K "NoRule")) = some (.type "type")) ∧ (PySem.W.nsIn K mainGlobals "NoLengths" = some (some (.ref (He.ga K "NoLengths")))) ∧ (PySem.W.isClsIn K (He.ga K "NoLengths") = true) ∧ (PySem.W.typeIn K (.ref (He.ga K "NoLengths")) = some (.type "type")) ∧ (PySem.W.nsIn K mainGlobals "NoLog" = some (some (.ref (He.ga K "NoLog")))) ∧ (PySem.W.isClsIn K (He.ga K "NoLog") = true) ∧ (PySem.W.typeIn K (.ref (He.ga K "NoLog")) = some (.type "type")) ∧ (PySem.W.nsIn K mainGlobals "NoMarks" = some (some (.ref (He.ga K "NoMarks")))) ∧ (PySem.W.isClsIn K (He.ga K "NoMarks") = true) ∧ (PySem.W.typeIn K (.ref (He.ga K "NoMarks")) = some (.type "type")) ∧ (PySem.W.nsIn K mainGlobals "NoNamed" = some (some (.ref (He.ga K "NoNamed")))) := of_decide_eq_true (facV c 30 rfl)
  obtain ⟨iE5, tE5, aE6, iE6, tE6, aE7, iE7, tE7, aE8, iE8, tE8, aE9, iE9, tE9, aE10, iE10, tE10, aE11, iE11, tE11⟩ : (PySem.W.isClsIn K (He.ga K "NoNamed") = true) ∧ (PySem.W.typeIn K (.ref (He.ga K "NoNamed")) = some (.type "type")) ∧ (PySem.W.nsIn K mainGlobals "NoOrder" = some (some (.ref (He.ga K "NoOrder")))) ∧ (PySem.W.isClsIn K (He.ga K "NoOrder") = true) ∧ (PySem.W.typeIn K (.ref (He.ga K "NoOrder")) = some (.type "type")) ∧ (PySem.W.nsIn K mainGlobals "NoText" = some (some (.ref (He.ga K "NoText")))) ∧ (PySem.W.isClsIn K (He.ga K "NoText") = true) ∧ (PySem.W.typeIn K (.ref (He.ga K "NoText")) = some (.type "type")) ∧ (PySem.W.nsIn K mainGlobals "NoNumber" = some (some (.ref (He.ga K "NoNumber")))) ∧ (PySem.W.isClsIn K (He.ga K "NoNumber") = true) ∧ (PySem.W.typeIn K (.ref (He.ga K "NoNumber")) = some (.type "type")) ∧ (PySem.W.nsIn K mainGlobals "NoName" = some (some (.ref (He.ga K "NoName")))) ∧ (PySem.W.isClsIn K (He.ga K "NoName") = true) ∧ (PySem.W.typeIn K (.ref (He.ga K "NoName")) = some (.type "type")) ∧ (PySem.W.nsIn K mainGlobals "NoUndo" = some (some (.ref (He.ga K "NoUndo")))) ∧ (PySem.W.isClsIn K (He.ga K "NoUndo") = true) ∧ (PySem.W.typeIn K (.ref (He.ga K "NoUndo")) = some (.type "type")) ∧ (PySem.W.nsIn K mainGlobals "NoLine" = some (some (.ref (He.ga K "NoLine")))) ∧ (PySem.W.isClsIn K (He.ga K "NoLine") = true) ∧ (PySem.W.typeIn K (.ref (He.ga K "NoLine")) = some (.type "type")) := of_decide_eq_true (facV c 31 rfl)
  obtain ⟨nmx0_, qx0_, Nx0_, bsx0_, snx0_, sbx0_, abx0_, colx0_, ddx0_, m0x0_, m1x0_, m2x0_, m3x0_, m5x0_, x0_⟩ := okX (S := He.ga K "SlotError") (C := He.ga K "NoJobs") (facV c 32 (f := fun K => bX (He.ga K "SlotError") (He.ga K "NoJobs") K) rfl)
  obtain ⟨ocI0, odI0, slI0, kVI0, dcI0, pmI0, anI0, cdI0, ctI0, li0, ci0⟩ := okM (x := "NoJobs") (m := "__init__") (qn := "NoJobs.__init__") (st := sJobsInit) (defV c 29 rfl) (facV c 33 rfl)
  obtain ⟨sa0, ga0, gg0, np0, in0, ti0, ki0, kc0, ec0, hc0, cc0, mc0, vc0, sc0, s0_1, n0_1, s0_2, n0_2, s0_3, n0_3⟩ : (PySem.W.findIn K (.ref (He.ga K "NoJobs")) "__setattr__" = some (some (.builtin "object.__setattr__"))) ∧ (PySem.W.findIn K (.ref (He.ga K "NoJobs")) "__getattribute__" = some (some (.builtin "BaseException.__getattribute__"))) ∧ (PySem.W.findIn K (.ref (He.ga K "NoJobs")) "__getattr__" = some none) ∧ (PySem.W.findIn K (.ref (He.ga K "NoJobs")) "place" = some none) ∧ (PySem.W.findIn K (.ref (He.ga K "NoJobs")) "__init__" = some (some (.ref (He.ma K (He.ga K "NoJobs") "__init__")))) ∧ (PySem.W.typeIn K (.ref (He.ma K (He.ga K "NoJobs") "__init__")) = some (.type "function")) ∧ (PySem.W.keepIn K (.ref (He.ma K (He.ga K "NoJobs") "__init__")) = true) ∧ (PySem.W.keepIn K (.ref (He.ga K "NoJobs")) = true) ∧ (PySem.W.subIn K (.ref (He.ga K "NoJobs")) (.type "BaseException") = some true) ∧ (PySem.W.hasDictIn K (He.ga K "NoJobs") = true) ∧ (PySem.W.findIn K (.ref (He.ga K "NoJobs")) "__class__" = some (some (.builtin "object.__class__"))) ∧ (PySem.W.mroIn K (He.ga K "NoJobs") (.type "object") = some true) ∧ (PySem.W.subIn K (.ref (He.ga K "NoJobs")) (.type "ValueError") = some true) ∧ (PySem.W.subIn K (.ref (He.ga K "NoJobs")) (.ref (He.ga K "SlotError")) = some true) ∧ (PySem.W.subIn K (.ref (He.ga K "NoJobs")) (.ref (He.ga K "NoRule")) = some false) ∧ ((Value.ref (He.ga K "NoJobs") == Value.ref (He.ga K "NoRule")) = false) ∧ (PySem.W.subIn K (.ref (He.ga K "NoJobs")) (.ref (He.ga K "NoLengths")) = some false) ∧ ((Value.ref (He.ga K "NoJobs") == Value.ref (He.ga K "NoLengths")) = false) ∧ (PySem.W.subIn K (.ref (He.ga K "NoJobs")) (.ref (He.ga K "NoLog")) = some false) ∧ ((Value.ref (He.ga K "NoJobs") == Value.ref (He.ga K "NoLog")) = false) := of_decide_eq_true (facV c 34 rfl)
  obtain ⟨nmx3_, qx3_, Nx3_, bsx3_, snx3_, sbx3_, abx3_, colx3_, ddx3_, m0x3_, m1x3_, m2x3_, m3x3_, m5x3_, x3_⟩ := okX (S := He.ga K "SlotError") (C := He.ga K "NoLog") (facV c 35 (f := fun K => bX (He.ga K "SlotError") (He.ga K "NoLog") K) rfl)
  obtain ⟨s0_4, n0_4, s0_5, n0_5, s0_6, n0_6, s0_7, n0_7, s0_8, n0_8, s0_9, n0_9, s0_10, n0_10, s0_11, n0_11, sa3, ga3, gg3, np3⟩ : (PySem.W.subIn K (.ref (He.ga K "NoJobs")) (.ref (He.ga K "NoMarks")) = some false) ∧ ((Value.ref (He.ga K "NoJobs") == Value.ref (He.ga K "NoMarks")) = false) ∧ (PySem.W.subIn K (.ref (He.ga K "NoJobs")) (.ref (He.ga K "NoNamed")) = some false) ∧ ((Value.ref (He.ga K "NoJobs") == Value.ref (He.ga K "NoNamed")) = false) ∧ (PySem.W.subIn K (.ref (He.ga K "NoJobs")) (.ref (He.ga K "NoOrder")) = some false) ∧ ((Value.ref (He.ga K "NoJobs") == Value.ref (He.ga K "NoOrder")) = false) ∧ (PySem.W.subIn K (.ref (He.ga K "NoJobs")) (.ref (He.ga K "NoText")) = some false) ∧ ((Value.ref (He.ga K "NoJobs") == Value.ref (He.ga K "NoText")) = false) ∧ (PySem.W.subIn K (.ref (He.ga K "NoJobs")) (.ref (He.ga K "NoNumber")) = some false) ∧ ((Value.ref (He.ga K "NoJobs") == Value.ref (He.ga K "NoNumber")) = false) ∧ (PySem.W.subIn K (.ref (He.ga K "NoJobs")) (.ref (He.ga K "NoName")) = some false) ∧ ((Value.ref (He.ga K "NoJobs") == Value.ref (He.ga K "NoName")) = false) ∧ (PySem.W.subIn K (.ref (He.ga K "NoJobs")) (.ref (He.ga K "NoUndo")) = some false) ∧ ((Value.ref (He.ga K "NoJobs") == Value.ref (He.ga K "NoUndo")) = false) ∧ (PySem.W.subIn K (.ref (He.ga K "NoJobs")) (.ref (He.ga K "NoLine")) = some false) ∧ ((Value.ref (He.ga K "NoJobs") == Value.ref (He.ga K "NoLine")) = false) ∧ (PySem.W.findIn K (.ref (He.ga K "NoLog")) "__setattr__" = some (some (.builtin "object.__setattr__"))) ∧ (PySem.W.findIn K (.ref (He.ga K "NoLog")) "__getattribute__" = some (some (.builtin "BaseException.__getattribute__"))) ∧ (PySem.W.findIn K (.ref (He.ga K "NoLog")) "__getattr__" = some none) ∧ (PySem.W.findIn K (.ref (He.ga K "NoLog")) "place" = some none) := of_decide_eq_true (facV c 36 rfl)
  obtain ⟨ocI3, odI3, slI3, kVI3, dcI3, pmI3, anI3, cdI3, ctI3, li3, ci3⟩ := okM (x := "NoLog") (m := "__init__") (qn := "NoLog.__init__") (st := sLogInit) (defV c 30 rfl) (facV c 37 rfl)
  obtain ⟨in3, ti3, ki3, kc3, ec3, hc3, cc3, mc3, vc3, sc3, s3_0, n3_0, s3_1, n3_1, s3_2, n3_2, s3_4, n3_4, s3_5, n3_5⟩ : (PySem.W.findIn K (.ref (He.ga K "NoLog")) "__init__" = some (some (.ref (He.ma K (He.ga K "NoLog") "__init__")))) ∧ (PySem.W.typeIn K (.ref (He.ma K (He.ga K "NoLog") "__init__")) = some (.type "function")) ∧ (PySem.W.keepIn K (.ref (He.ma K (He.ga K "NoLog") "__init__")) = true) ∧ (PySem.W.keepIn K (.ref (He.ga K "NoLog")) = true) ∧ (PySem.W.subIn K (.ref (He.ga K "NoLog")) (.type "BaseException") = some true) ∧ (PySem.W.hasDictIn K (He.ga K "NoLog") = true) ∧ (PySem.W.findIn K (.ref (He.ga K "NoLog")) "__class__" = some (some (.builtin "object.__class__"))) ∧ (PySem.W.mroIn K (He.ga K "NoLog") (.type "object") = some true) ∧ (PySem.W.subIn K (.ref (He.ga K "NoLog")) (.type "ValueError") = some true) ∧ (PySem.W.subIn K (.ref (He.ga K "NoLog")) (.ref (He.ga K "SlotError")) = some true) ∧ (PySem.W.subIn K (.ref (He.ga K "NoLog")) (.ref (He.ga K "NoJobs")) = some false) ∧ ((Value.ref (He.ga K "NoLog") == Value.ref (He.ga K "NoJobs")) = false) ∧ (PySem.W.subIn K (.ref (He.ga K "NoLog")) (.ref (He.ga K "NoRule")) = some false) ∧ ((Value.ref (He.ga K "NoLog") == Value.ref (He.ga K "NoRule")) = false) ∧ (PySem.W.subIn K (.ref (He.ga K "NoLog")) (.ref (He.ga K "NoLengths")) = some false) ∧ ((Value.ref (He.ga K "NoLog") == Value.ref (He.ga K "NoLengths")) = false) ∧ (PySem.W.subIn K (.ref (He.ga K "NoLog")) (.ref (He.ga K "NoMarks")) = some false) ∧ ((Value.ref (He.ga K "NoLog") == Value.ref (He.ga K "NoMarks")) = false) ∧ (PySem.W.subIn K (.ref (He.ga K "NoLog")) (.ref (He.ga K "NoNamed")) = some false) ∧ ((Value.ref (He.ga K "NoLog") == Value.ref (He.ga K "NoNamed")) = false) := of_decide_eq_true (facV c 38 rfl)
  obtain ⟨nmx8_, qx8_, Nx8_, bsx8_, snx8_, sbx8_, abx8_, colx8_, ddx8_, m0x8_, m1x8_, m2x8_, m3x8_, m5x8_, x8_⟩ := okX (S := He.ga K "SlotError") (C := He.ga K "NoNumber") (facV c 39 (f := fun K => bX (He.ga K "SlotError") (He.ga K "NoNumber") K) rfl)
  obtain ⟨ocI8, odI8, slI8, kVI8, dcI8, pmI8, anI8, cdI8, ctI8, li8, ci8⟩ := okM (x := "NoNumber") (m := "__init__") (qn := "NoNumber.__init__") (st := sNumberInit) (defV c 31 rfl) (facV c 40 rfl)
  obtain ⟨s3_6, n3_6, s3_7, n3_7, s3_8, n3_8, s3_9, n3_9, s3_10, n3_10, s3_11, n3_11, sa8, ga8, gg8, np8, npp8, in8, ti8, ki8⟩ : (PySem.W.subIn K (.ref (He.ga K "NoLog")) (.ref (He.ga K "NoOrder")) = some false) ∧ ((Value.ref (He.ga K "NoLog") == Value.ref (He.ga K "NoOrder")) = false) ∧ (PySem.W.subIn K (.ref (He.ga K "NoLog")) (.ref (He.ga K "NoText")) = some false) ∧ ((Value.ref (He.ga K "NoLog") == Value.ref (He.ga K "NoText")) = false) ∧ (PySem.W.subIn K (.ref (He.ga K "NoLog")) (.ref (He.ga K "NoNumber")) = some false) ∧ ((Value.ref (He.ga K "NoLog") == Value.ref (He.ga K "NoNumber")) = false) ∧ (PySem.W.subIn K (.ref (He.ga K "NoLog")) (.ref (He.ga K "NoName")) = some false) ∧ ((Value.ref (He.ga K "NoLog") == Value.ref (He.ga K "NoName")) = false) ∧ (PySem.W.subIn K (.ref (He.ga K "NoLog")) (.ref (He.ga K "NoUndo")) = some false) ∧ ((Value.ref (He.ga K "NoLog") == Value.ref (He.ga K "NoUndo")) = false) ∧ (PySem.W.subIn K (.ref (He.ga K "NoLog")) (.ref (He.ga K "NoLine")) = some false) ∧ ((Value.ref (He.ga K "NoLog") == Value.ref (He.ga K "NoLine")) = false) ∧ (PySem.W.findIn K (.ref (He.ga K "NoNumber")) "__setattr__" = some (some (.builtin "object.__setattr__"))) ∧ (PySem.W.findIn K (.ref (He.ga K "NoNumber")) "__getattribute__" = some (some (.builtin "BaseException.__getattribute__"))) ∧ (PySem.W.findIn K (.ref (He.ga K "NoNumber")) "__getattr__" = some none) ∧ (PySem.W.findIn K (.ref (He.ga K "NoNumber")) "number" = some none) ∧ (PySem.W.findIn K (.ref (He.ga K "NoNumber")) "place" = some none) ∧ (PySem.W.findIn K (.ref (He.ga K "NoNumber")) "__init__" = some (some (.ref (He.ma K (He.ga K "NoNumber") "__init__")))) ∧ (PySem.W.typeIn K (.ref (He.ma K (He.ga K "NoNumber") "__init__")) = some (.type "function")) ∧ (PySem.W.keepIn K (.ref (He.ma K (He.ga K "NoNumber") "__init__")) = true) := of_decide_eq_true (facV c 41 rfl)
  obtain ⟨kc8, ec8, hc8, cc8, mc8, vc8, sc8, s8_0, n8_0, s8_1, n8_1, s8_2, n8_2, s8_3, n8_3, s8_4, n8_4, s8_5, n8_5, s8_6⟩ : (PySem.W.keepIn K (.ref (He.ga K "NoNumber")) = true) ∧ (PySem.W.subIn K (.ref (He.ga K "NoNumber")) (.type "BaseException") = some true) ∧ (PySem.W.hasDictIn K (He.ga K "NoNumber") = true) ∧ (PySem.W.findIn K (.ref (He.ga K "NoNumber")) "__class__" = some (some (.builtin "object.__class__"))) ∧ (PySem.W.mroIn K (He.ga K "NoNumber") (.type "object") = some true) ∧ (PySem.W.subIn K (.ref (He.ga K "NoNumber")) (.type "ValueError") = some true) ∧ (PySem.W.subIn K (.ref (He.ga K "NoNumber")) (.ref (He.ga K "SlotError")) = some true) ∧ (PySem.W.subIn K (.ref (He.ga K "NoNumber")) (.ref (He.ga K "NoJobs")) = some false) ∧ ((Value.ref (He.ga K "NoNumber") == Value.ref (He.ga K "NoJobs")) = false) ∧ (PySem.W.subIn K (.ref (He.ga K "NoNumber")) (.ref (He.ga K "NoRule")) = some false) ∧ ((Value.ref (He.ga K "NoNumber") == Value.ref (He.ga K "NoRule")) = false) ∧ (PySem.W.subIn K (.ref (He.ga K "NoNumber")) (.ref (He.ga K "NoLengths")) = some false) ∧ ((Value.ref (He.ga K "NoNumber") == Value.ref (He.ga K "NoLengths")) = false) ∧ (PySem.W.subIn K (.ref (He.ga K "NoNumber")) (.ref (He.ga K "NoLog")) = some false) ∧ ((Value.ref (He.ga K "NoNumber") == Value.ref (He.ga K "NoLog")) = false) ∧ (PySem.W.subIn K (.ref (He.ga K "NoNumber")) (.ref (He.ga K "NoMarks")) = some false) ∧ ((Value.ref (He.ga K "NoNumber") == Value.ref (He.ga K "NoMarks")) = false) ∧ (PySem.W.subIn K (.ref (He.ga K "NoNumber")) (.ref (He.ga K "NoNamed")) = some false) ∧ ((Value.ref (He.ga K "NoNumber") == Value.ref (He.ga K "NoNamed")) = false) ∧ (PySem.W.subIn K (.ref (He.ga K "NoNumber")) (.ref (He.ga K "NoOrder")) = some false) := of_decide_eq_true (facV c 42 rfl)
  obtain ⟨ocF, odF, slF, DF, dcF, pmF, anF, cdF, ctF, tF, aF, lF, cF, kF, nF⟩ := okK (x := "first_fault") (y := "processors") (st := sFirst) (defV c 32 rfl) (facV c 43 rfl)
  obtain ⟨ocC, odC, slC, DC, dcC, pmC, anC, cdC, ctC, tC, aC, lC, cC, kC, nC⟩ := okK (x := "count_logs") (y := "processors") (st := sCountLogs) (defV c 33 rfl) (facV c 44 rfl)
  obtain ⟨ocH, odH, slH, DH, dcH, pmH, anH, cdH, ctH, tH, aH, lH, cH, kH, nH⟩ := okK (x := "nth_log") (y := "processors") (st := sNthLog) (defV c 34 rfl) (facV c 45 rfl)
  obtain ⟨ocU, odU, slU, DU, dcU, pmU, anU, cdU, ctU, tU, aU, lU, cU, kU, nU⟩ := okK (x := "number_of_log") (y := "processors") (st := sNumLog) (defV c 35 rfl) (facV c 46 rfl)
  obtain ⟨ocN, odN, slN, kVN, dcN, pmN, anN, ctN, cN, PN, eN, ddN, vsN, scN, aN, lN, cNf, kNf, hcN, hvN, nPN⟩ := okN (x := "is_name") (st := sName) (defV c 36 rfl) (facV c 47 rfl)
  obtain ⟨n8_6, s8_7, n8_7, s8_9, n8_9, s8_10, n8_10, s8_11, n8_11, aCb⟩ : ((Value.ref (He.ga K "NoNumber") == Value.ref (He.ga K "NoOrder")) = false) ∧ (PySem.W.subIn K (.ref (He.ga K "NoNumber")) (.ref (He.ga K "NoText")) = some false) ∧ ((Value.ref (He.ga K "NoNumber") == Value.ref (He.ga K "NoText")) = false) ∧ (PySem.W.subIn K (.ref (He.ga K "NoNumber")) (.ref (He.ga K "NoName")) = some false) ∧ ((Value.ref (He.ga K "NoNumber") == Value.ref (He.ga K "NoName")) = false) ∧ (PySem.W.subIn K (.ref (He.ga K "NoNumber")) (.ref (He.ga K "NoUndo")) = some false) ∧ ((Value.ref (He.ga K "NoNumber") == Value.ref (He.ga K "NoUndo")) = false) ∧ (PySem.W.subIn K (.ref (He.ga K "NoNumber")) (.ref (He.ga K "NoLine")) = some false) ∧ ((Value.ref (He.ga K "NoNumber") == Value.ref (He.ga K "NoLine")) = false) ∧ (PySem.W.nsIn K mainGlobals "comb" = some (some (.builtin "math.comb"))) := of_decide_eq_true (facV c 48 rfl)
  exact all_mk X G hfa a0 l0 c0 k0 a1 l1 c1 k1 a2 l2 c2 k2 a3 l3 c3 k3 a4 l4 c4 k4 a5 l5 c5 k5 a6 l6 c6 k6 a7 l7 c7 k7 a8 l8 c8 k8 a9 l9 c9 k9 a10 l10 c10 k10 a11 l11 c11 k11 a12 l12 c12 k12 a13 l13 c13 k13 a14 l14 c14 k14 a15 l15 c15 k15 a16 l16 c16 k16 a17 l17 c17 k17 a18 l18 c18 k18 a19 l19 c19 k19 a20 l20 c20 k20 a21 l21 c21 k21 a22 l22 c22 k22 a23 l23 c23 k23 a24 l24 c24 k24 a25 l25 c25 k25 a26 l26 c26 k26 a27 l27 c27 k27 a28 l28 c28 k28 z_len z_isinstance z_int z_bool z_tuple z_str z_range z_enumerate z_list z_all z_min z_max z_zip z_sum z_dict z_sorted aS iS hS tS eS spG tkG zVE aE0 iE0 tE0 aE1 iE1 tE1 aE2 iE2 tE2 aE3 iE3 tE3 aE4 iE4 tE4 aE5 iE5 tE5 aE6 iE6 tE6 aE7 iE7 tE7 aE8 iE8 tE8 aE9 iE9 tE9 aE10 iE10 tE10 aE11 iE11 tE11 x0_ sa0 ga0 gg0 np0 in0 ti0 li0 ci0 ki0 kc0 ec0 hc0 cc0 mc0 vc0 sc0 s0_1 n0_1 s0_2 n0_2 s0_3 n0_3 s0_4 n0_4 s0_5 n0_5 s0_6 n0_6 s0_7 n0_7 s0_8 n0_8 s0_9 n0_9 s0_10 n0_10 s0_11 n0_11 x3_ sa3 ga3 gg3 np3 in3 ti3 li3 ci3 ki3 kc3 ec3 hc3 cc3 mc3 vc3 sc3 s3_0 n3_0 s3_1 n3_1 s3_2 n3_2 s3_4 n3_4 s3_5 n3_5 s3_6 n3_6 s3_7 n3_7 s3_8 n3_8 s3_9 n3_9 s3_10 n3_10 s3_11 n3_11 x8_ sa8 ga8 gg8 np8 npp8 in8 ti8 li8 ci8 ki8 kc8 ec8 hc8 cc8 mc8 vc8 sc8 s8_0 n8_0 s8_1 n8_1 s8_2 n8_2 s8_3 n8_3 s8_4 n8_4 s8_5 n8_5 s8_6 n8_6 s8_7 n8_7 s8_9 n8_9 s8_10 n8_10 s8_11 n8_11 aF lF cF kF nF aC lC cC kC nC aH lH cH kH nH aU lU cU kU nU aCb aN lN cNf kNf hcN hvN nPN
theorem walkV {l : PySem.W.OpenLaw} {q : Program} {loose : List Str} {XP : (Str → Option Value) → Heap → Prop} {YP : World → Heap → Prop} {d dN : DefRec} (hn : l.most = some 63) (hdf : d.params.defaults = []) (hnm : d.name = ("law" : Str))
    (hrec : (recsOf q).find? (fun e => e.name == ("is_name" : Str)) = some dN)
    (F : ∀ (w : World) (mg : Str → Option Value) (fa : Addr) (h : Heap), YP w h → h.Ns mainGlobals mg → mg ("law" : Str) = some (.ref fa) → ∃ K : PySem.W.Frag, K.In h ∧ LawTab l w K mg fa) :
    PySem.W.WalkO q loose XP YP l.row.toRowW d [] (fun f vs => PySem.call f vs) := by
  refine Att.attach_callB hn hdf fun w s₀ s₁ mg mb fa o pm cd doc a vs ns G Y ho hd hcd hmg hobj hints hlen hbits hg => ?_
  rw [hnm] at hmg
  obtain ⟨K, KX, fd, c, P, ht, nl, hb, hF⟩ := F w mg fa _ Y G.T.g hmg
  obtain ⟨hC, hP⟩ := PySem.W.tab_of G.T KX hrec ht
  have one : ∀ {C : Addr × Addr → Prop}, C (c, P) → ∀ p ∈ [(c, P)], C p := fun h p hp => by
    rw [List.mem_singleton.mp hp]
    exact h
  exact LamX.law_callTs (k := 9) (cs := [(c, P)]) (sp := spLaw K P) (CX := CX0) KX G.T.g G.T.b G.T.builtins G.T.nolimit hg (one hP) (one nl) (one hC) G.T.bmain hobj hints (Nat.le_trans hlen (by decide)) ⟨rfl, by decide, by decide⟩
    (fun base i n t => let z := t (c, P) (List.mem_singleton.mpr rfl); hF base i n ⟨z.code, z.bm, z.gP⟩) hb (fun H hH hS => ⟨a, ns, rfl, hS, hlen, ⟨#[], hH (c, P) (List.mem_singleton.mpr rfl), by simp [TriplesOk]⟩, fun _ => rfl⟩) (fun _ _ _ z => z)
end Vk
open PySem PySem.W PyProof.Rows in
set_option maxRecDepth 100000 in
set_option maxHeartbeats 0 in
theorem PySem.Challenge.cw_blindslots_k35_long_logs_numbered_holds : PySem.Challenge.rw_blindslots_k35_long_logs_numbered.Holds := by
  w_on; o_law
  refine HandSHeadRun.head_imp (r := Vk.RV) (q := Vk.qV) (H := Vk.hV) (ob := Vk.obV) (M := 30000) (loose := Vk.nmV) (d := HandSHeadRun.topDef Vk.RV.prog 53) (kwd := []) Vk.obV_eq Vk.runV (by kernel_rfl) (by kernel_rfl) (by kernel_rfl) (by rfl) (by first | assumption | decide +kernel) (by decide +kernel) ⟨rfl, rfl, rfl, rfl, rfl, by decide +kernel⟩ ?hw ?hc
  case hw => w_witness2
  case hc =>
    refine Vk.walkV (l := PySem.Challenge.rw_blindslots_k35_long_logs_numbered) rfl (by kernel_rfl) (by kernel_rfl) (dN := HandSHeadRun.topDef Vk.RV.prog 18) (by kernel_rfl)  ?_
    intro w mg fa h Y G hmg
    obtain ⟨K, KX, c⟩ := Y
    exact ⟨K, KX, Vk.factsV KX G hmg c⟩
