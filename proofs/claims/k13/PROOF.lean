import PyProof.Rows.All
import Wide.All
import OpenK.AllK
import Wide.FinOn
import HandS.ForMost
import HandS.Exc
import HandS.TryOnly
import HandS.ExcOwn
import HandS.WordsExc
import HandS.Codes
import HandS.IsInst
import HandS.Walk
import HandS.AnyAll
import HandS.Head3
import HandS.HeadHook4
import HandS.DictComp
import HandS.SetFor
import PyProof.SeqRoads2
import PyProof.EqAt
import PyProof.NeKinds
import HandS.TupAny
import HandS.TupMul
import KE.GoesEnum
import HandS.FStr
import HandS.More
import HandS.Deep
import HandS.Small
import HandS.Iter
import HandS.MakeKwOnly
import KE.KExcIs
import HandS.ExcInit
import HandS.ExcField
import HandS.ExcIs
import HandS.Defaults
import HandS.ListItems
import HandS.NoneIn
import PyProof.ExcBaseAll.ValueError
import KE.KStateDown
import HandS.EndTab
import HandS.EndBits
import PySem.Challenge.RW_blindslots_k13_bench_errors_and_undo
set_option Elab.async false
set_option linter.all false
set_option maxRecDepth 100000
set_option maxHeartbeats 8000000
set_option maxHeartbeats 4000000
/-! what every text of ours needs: a def as it stands, its call, the drawing store -/
namespace Vk
open PySem PySem.Spec PyProof.Rows L2
/-- a def of the module's top -/
structure Df (K : PySem.W.Frag) (mg : Str → Option Value) (x : Str) (st : Stmt) (ps : List Str) : Prop where
  ex : ∃ f fd, mg x = some (.ref f) ∧ Fun K x x st f fd ∧ Binds K fd ps []
/-- its promise -/
structure Cl (P : Program) (w : World) (K : PySem.W.Frag) (mg : Str → Option Value) (base : Heap) (CX : CXT) (k : Nat) (x : Str) (ps : List Str) (sp : Sp) : Prop where
  ex : ∃ f fd, mg x = some (.ref f) ∧ PySem.W.keepIn K (.ref f) = true ∧ Binds K fd ps [] ∧ FnOk P w K mg base CX k f fd ps sp
section
variable {P : Program} {w : World} {K : PySem.W.Frag} {mg : Str → Option Value} {base : Heap}
theorem cl0 {x : Str} {st : Stmt} {N ps : List Str} {k : Nat} {sp : Sp} (D : Df K mg x st ps) (S : FnScope N ps (defScope st)) (len : ∀ vs H Q E, sp vs H Q E → vs.length = ps.length)
    (body : ∀ (f : Addr) (cdv : Value) (A : Around) (outer : List Env) (s : Shared) (H : Hp) (vs : List V) (Q : VK) (E : XK), Room k (A.deeper (envOfC x (defScope st) s.heap.objs.size f cdv)) → sp vs H Q E →
      ∃ t, PSs (cxOf CX0 P w K mg base N x (defScope st) f cdv A outer s H E).nox (defBody st) t ∧ t { nx := fun _ H' => Q .non H', rt := Q } (start N vs) H) : Cl P w K mg base CX0 (k + 1) x ps sp := by
  obtain ⟨f, fd, hm, F, b⟩ := D.ex
  exact ⟨f, fd, hm, F.kp, b, F.ok S len (body f)⟩
theorem clX {x : Str} {st : Stmt} {N ps : List Str} {k : Nat} {sp : Sp} (D : Df K mg x st ps) (S : FnScope N ps (defScope st)) (len : ∀ vs H Q E, sp vs H Q E → vs.length = ps.length)
    (body : ∀ (f : Addr) (cdv : Value) (A : Around) (outer : List Env) (s : Shared) (H : Hp) (vs : List V) (Q : VK) (E : XK), Room k (A.deeper (envOfC x (defScope st) s.heap.objs.size f cdv)) → sp vs H Q E →
      ∃ t, PSs (cxOf (L2.CX P w) P w K mg base N x (defScope st) f cdv A outer s H E) (defBody st) t ∧ t { nx := fun _ H' => Q .non H', rt := Q } (start N vs) H) : Cl P w K mg base (L2.CX P w) (k + 1) x ps sp := by
  obtain ⟨f, fd, hm, F, b⟩ := D.ex
  exact ⟨f, fd, hm, F.kp, b, F.okX S len (body f)⟩
end
def tCal (sp : Sp) (t : TA) : TE := fun σ H Q => t σ H fun vs H1 => sp (vs ++ []) H1 Q E0
section
variable {X : Cx}
theorem pc {x : Str} {ps : List Str} {sp : Sp} {j k : Nat} {e : Expr} {es : List Expr} {t : TA} {p pos : Pos} (c : Cl X.prog X.w X.K X.mg X.base CX0 k x ps sp) (hr : Room j X.A) (hk : k ≤ j) (ha : PA X (e :: es) t) (hg : Gl X x := by rfl)
    (hdb : (x == ("__debug__" : Str)) = false := by decide) (he : starEach (e :: es) X.env = (false, eval e X.env) :: starEach es X.env := by rfl) (hpl : (backTo pos (starEach es X.env)).any (·.1) = false := by rfl) :
    PE X (.Call (.Name x p) (e :: es) [] pos) (tCal sp t) := by
  obtain ⟨f, fd, hm, kp, b, F⟩ := c.ex
  exact pe_call F (hr.mono hk) hg hm kp b .nil pass0 ha hdb he hpl
end
/-! ### heaps -/
def NoTbl : HO → Prop
  | .tbl _ => False
  | _ => True
/-- all that was tracked is as it was, but that tables of code objects may have grown -/
structure Same (H H' : Hp) : Prop where
  at_ : ∀ b o, H b = some o → NoTbl o → H' b = some o
  has : ∀ b, H b ≠ none → H' b ≠ none
  tab : ∀ P, GxR.TabG H P → GxR.TabG H' P
theorem Same.at {H H' : Hp} {b : Addr} {o : HO} (s : Same H H') (h : H b = some o) (n : NoTbl o := by exact True.intro) : H' b = some o := s.at_ b o h n
theorem Same.refl (H : Hp) : Same H H := ⟨fun _ _ h _ => h, fun _ h => h, fun _ h => h⟩
theorem Same.trans {H H1 H2 : Hp} (a : Same H H1) (b : Same H1 H2) : Same H H2 := ⟨fun c o h n => b.at_ c o (a.at_ c o h n) n, fun c h => b.has c (a.has c h), fun P h => b.tab P (a.tab P h)⟩
theorem Same.of {H H' : Hp} (h : ∀ b o, H b = some o → H' b = some o) : Same H H' := by
  refine ⟨fun b o e _ => h b o e, fun b e => ?_, fun P ⟨ps, e, t⟩ => ⟨ps, h _ _ e, t⟩⟩
  cases q : H b with
  | none => exact absurd q e
  | some o =>
    rw [h b o q]
    exact fun z => nomatch z
theorem Same.free {H H' : Hp} (e : Same H H') {l : Addr} (h : H' l = none) : H l = none := by
  cases q : H l with
  | none => rfl
  | some o => exact absurd h (e.has l (by rw [q]; exact fun z => nomatch z))
theorem Same.seq {K : PySem.W.Frag} {H H' : Hp} {a : Addr} {xs : List V} (e : Same H H') (h : SqL K H a xs) : SqL K H' a xs := by
  rcases h with (h | ⟨o, h⟩) | h
  · exact .inl (.inl (e.at h))
  · exact .inl (.inr ⟨o, e.at h⟩)
  · exact .inr h
theorem ne_has {H : Hp} {a p : Addr} (h : H a ≠ none) (n : H p = none) : p ≠ a := fun z => h (z ▸ n)
theorem has_of {H : Hp} {a : Addr} {o : HO} (h : H a = some o) : H a ≠ none := by
  rw [h]
  exact fun z => nomatch z
/-- a table grows -/
theorem same_tabbed {P : Addr} {H H' : Hp} (h : GxR.Tabbed P H H') (h0 : GxR.TabG H P) : Same H H' := by
  obtain ⟨⟨ps', e', t'⟩, k⟩ := h
  obtain ⟨ps, e, t⟩ := h0
  refine ⟨fun b o q n => ?_, fun b q => ?_, fun Q hq => ?_⟩
  · by_cases z : b = P
    · rw [z, e] at q
      cases q
      exact False.elim n
    · rw [k b z]
      exact q
  · by_cases z : b = P
    · rw [z, e']
      exact fun z => nomatch z
    · rw [k b z]
      exact q
  · by_cases z : Q = P
    · rw [z]
      exact ⟨ps', e', t'⟩
    · obtain ⟨qs, f, u⟩ := hq
      exact ⟨qs, by rw [k Q z]; exact f, u⟩
/-- the heap without what stands at a -/
def Off (a : Addr) (H : Hp) : Hp := fun b => if b = a then none else H b
theorem off_ne {a b : Addr} {H : Hp} (h : b ≠ a) : Off a H b = H b := if_neg h
theorem off_same {a : Addr} {H : Hp} : Off a H a = none := if_pos rfl
theorem off_some {a b : Addr} {H : Hp} {o : HO} (e : Off a H b = some o) : b ≠ a ∧ H b = some o := by
  by_cases h : b = a
  · rw [h, off_same] at e; cases e
  · exact ⟨h, by rw [off_ne h] at e; exact e⟩
theorem off_sub (a : Addr) (H : Hp) : Same (Off a H) H := .of fun b o e => (off_some e).2
theorem off_mono {a : Addr} {H H' : Hp} (s : Same H H') : Same (Off a H) (Off a H') := by
  refine ⟨fun b o e n => ?_, fun b e => ?_, fun P ⟨ps, e, t⟩ => ?_⟩
  · obtain ⟨h1, h2⟩ := off_some e
    rw [off_ne h1]
    exact s.at_ b o h2 n
  · by_cases h : b = a
    · rw [h, off_same] at e
      exact absurd rfl e
    · rw [off_ne h] at e ⊢
      exact s.has b e
  · obtain ⟨h1, h2⟩ := off_some e
    obtain ⟨qs, f, u⟩ := s.tab P ⟨ps, h2, t⟩
    exact ⟨qs, by rw [off_ne h1]; exact f, u⟩
theorem off_upd {a : Addr} {H : Hp} {o : HO} : Off a (upd H a o) = Off a H := by
  funext b
  by_cases h : b = a
  · rw [h, off_same, off_same]
  · rw [off_ne h, off_ne h, upd_ne h]
theorem same_new {H : Hp} {p : Addr} {o : HO} (h : H p = none) : Same H (upd H p o) := .of fun b u e => by
  rw [upd_ne (ne_of_none e h)]; exact e
theorem same_seqT {K : PySem.W.Frag} {H H' : Hp} {a : Addr} {xs : List V} (e : Same H H') (h : SqT K H a xs) : SqT K H' a xs := by
  rcases h with (h | ⟨o, h⟩) | h
  · exact .inl (.inl (e.at h))
  · exact .inl (.inr ⟨o, e.at h⟩)
  · exact .inr h
mutual
theorem dp_same {K : PySem.W.Frag} {H H' : Hp} (e : Same H H') : ∀ {v : V} {d : PyData}, Dp K H v d → Dp K H' v d
  | _, _, .non => .non
  | _, _, .bl b => .bl b
  | _, _, .int i => .int i
  | _, _, .str x => .str x
  | _, _, .lst h r => .lst (e.seq h) (dps_same e r)
  | _, _, .tup h r => .tup (same_seqT e h) (dps_same e r)
theorem dps_same {K : PySem.W.Frag} {H H' : Hp} (e : Same H H') : ∀ {vs : List V} {ds : List PyData}, DpAll K H vs ds → DpAll K H' vs ds
  | _, _, .nil => .nil
  | _, _, .cons h r => .cons (dp_same e h) (dps_same e r)
end
/-! ### the law's store: cells, next index, digits, all mixed, draws so far (at most n) -/
structure Sto (sc a : Addr) (n : Int) (H : Hp) : Prop where
  ex : ∃ (cs : List Int) (i dg mx c : Int), H a = some (.lst [.ref sc, .int i, .int dg, .int mx, .int c]) ∧ sc ≠ a ∧ H sc = some (.lst (cs.map V.int)) ∧ cs.length ≤ 63 ∧ 0 ≤ i ∧ 0 ≤ dg ∧ 0 ≤ c ∧ c ≤ n
theorem Sto.more {sc a : Addr} {n m : Int} {H : Hp} (s : Sto sc a n H) (h : n ≤ m) : Sto sc a m H := by
  obtain ⟨x2, x3, x4, x5, x6, h1, h2, h3, h4, h5, h6, h7, h8⟩ := s.ex
  exact ⟨x2, x3, x4, x5, x6, h1, h2, h3, h4, h5, h6, h7, by omega⟩
/-- all else stands -/
def Kept (a : Addr) (H H' : Hp) : Prop := Same (Off a H) (Off a H')
theorem Kept.refl (a : Addr) (H : Hp) : Kept a H H := Same.refl _
theorem Kept.trans {a : Addr} {H H1 H2 : Hp} (x : Kept a H H1) (y : Kept a H1 H2) : Kept a H H2 := Same.trans x y
theorem kept_same {a : Addr} {H H' : Hp} (s : Same H H') : Kept a H H' := off_mono s
theorem Sto.same {sc a : Addr} {n : Int} {H H' : Hp} (s : Sto sc a n H) (e : Same H H') : Sto sc a n H' := by
  obtain ⟨x2, x3, x4, x5, x6, h1, h2, h3, h4⟩ := s.ex
  exact ⟨x2, x3, x4, x5, x6, e.at h1, h2, e.at h3, h4⟩
theorem Sto.put {sc a : Addr} {n : Int} {H : Hp} {cs : List Int} {i dg mx c : Int} (hs : sc ≠ a) (hq : H sc = some (.lst (cs.map V.int))) (hl : cs.length ≤ 63) (hi : 0 ≤ i) (hd : 0 ≤ dg) (hc : 0 ≤ c) (hn : c ≤ n) :
    Sto sc a n (upd H a (.lst [.ref sc, .int i, .int dg, .int mx, .int c])) :=
  ⟨cs, i, dg, mx, c, upd_same, hs, by rw [upd_ne hs]; exact hq, hl, hi, hd, hc, hn⟩
/-- another list changes -/
theorem Sto.other {sc a l : Addr} {n : Int} {H : Hp} {o : HO} (s : Sto sc a n H) (h1 : l ≠ a) (h2 : l ≠ sc) : Sto sc a n (upd H l o) := by
  obtain ⟨x2, x3, x4, x5, x6, g1, g2, g3, g4⟩ := s.ex
  exact ⟨x2, x3, x4, x5, x6, by rw [upd_ne h1.symm]; exact g1, g2, by rw [upd_ne h2.symm]; exact g3, g4⟩
theorem Sto.ne {sc a p : Addr} {n : Int} {H : Hp} (s : Sto sc a n H) (h : H p = none) : p ≠ a := by
  obtain ⟨_, _, _, _, _, h1, _⟩ := s.ex
  exact (ne_of_none h1 h).symm
theorem Sto.ne2 {sc a p : Addr} {n : Int} {H : Hp} (s : Sto sc a n H) (h : H p = none) : p ≠ sc := by
  obtain ⟨_, _, _, _, _, _, _, h1, _⟩ := s.ex
  exact (ne_of_none h1 h).symm
theorem kept_put {a : Addr} {H : Hp} {o : HO} : Kept a H (upd H a o) := by unfold Kept; rw [off_upd]; exact Same.refl _
theorem Sto.hasA {sc a : Addr} {n : Int} {H : Hp} (s : Sto sc a n H) : H a ≠ none := by
  obtain ⟨_, _, _, _, _, h1, _⟩ := s.ex
  exact has_of h1
theorem Sto.tab {sc a P : Addr} {n : Int} {H : Hp} (s : Sto sc a n H) (t : GxR.TabG H P) : GxR.TabG (Off a H) P := by
  obtain ⟨_, _, _, _, _, h1, _⟩ := s.ex
  obtain ⟨ps, e, u⟩ := t
  exact ⟨ps, by rw [off_ne (ne_of h1 e (fun z => nomatch z)).symm]; exact e, u⟩
theorem Kept.tab {sc a P : Addr} {n : Int} {H H' : Hp} (k : Kept a H H') (s : Sto sc a n H) (t : GxR.TabG H P) : GxR.TabG H' P := (off_sub a H').tab P (Same.tab k P (s.tab t))
end Vk
set_option maxHeartbeats 4000000
/-! the end of a law whose top is run by the kernel at once: what is looked at behind the top -/
namespace Vk
open PySem PySem.Spec PyProof.Rows L2
abbrev SeeV : Type := Bool × List He.FnV
def seeV (fs : List (PySem.W.Frag → Bool)) (fn : List He.FnD) (K : PySem.W.Frag) : SeeV := (fs.all fun f => f K, fn.map fun d => He.fnObs K d.at_)
def dueV (fn : List He.FnD) : SeeV := (true, fn.map He.FnD.val)
/-- what stands below the module's names: their objects; code, defaults, a class's names; what stands in these; its code -/
def valsV (g : Addr → Option Obj) (a : Addr) : List Addr := match g a with
  | some ⟨_, _, .dict es _, _⟩ => es.toList.flatMap fun e => He.refV e.val
  | some ⟨_, _, .seq its _, _⟩ => its.toList.flatMap He.refV
  | _ => []
def backV (g : Addr → Option Obj) (a : Addr) : List Addr := match g a with
  | some ⟨_, _, .func fd, _⟩ => He.refV fd.code ++ (He.refV fd.kwdefaults ++ He.refV fd.defaults)
  | some ⟨_, _, .cls cd, _⟩ => [cd.ns]
  | some ⟨_, _, .seq its _, _⟩ => its.toList.flatMap He.refV
  | _ => []
def asV (g : Addr → Option Obj) : List Addr :=
  let l1 := valsV g mainGlobals
  let l2 := l1.flatMap (backV g)
  let l3 := l2.flatMap (valsV g)
  mainGlobals :: (l1 ++ (l2 ++ (l3 ++ l3.flatMap (backV g))))
def partV (_ : Nat) (g : Addr → Option Obj) : PySem.W.Frag := He.frT g (asV g)
def hookV (n : Nat) (fs : List (PySem.W.Frag → Bool)) (fn : List He.FnD) : PySem.W.Hook where
  α := SeeV
  obs := fun s => seeV fs fn (partV n s.heap.get?)
  val := fun _ => dueV fn
  says := fun _ h => ∃ K : PySem.W.Frag, K.In h ∧ seeV fs fn K = dueV fn
  of := fun _ _ e => ⟨_, He.frT_in, e⟩
  keeps := fun _ _ _ ⟨K, hK, c⟩ k => ⟨K, PySem.W.Frag.In.keeps hK k, c⟩
theorem seeV_eq {n : Nat} {fs : List (PySem.W.Frag → Bool)} {fn : List He.FnD} {g : Addr → Option Obj} {s : Shared} (h : ∀ a, g a = s.heap.get? a) : seeV fs fn (partV n g) = (hookV n fs fn).obs s := by
  have e : g = s.heap.get? := funext h
  rw [e]
  rfl
section
variable {fs : List (PySem.W.Frag → Bool)} {fn : List He.FnD} {K : PySem.W.Frag}
theorem facV (c : seeV fs fn K = dueV fn) (i : Nat) {f : PySem.W.Frag → Bool} (h : fs[i]? = some f) : f K = true :=
  List.all_eq_true.mp (show (fs.all fun f => f K) = true from congrArg (fun z : SeeV => z.1) c) f (List.mem_of_getElem? h)
theorem defV (c : seeV fs fn K = dueV fn) (i : Nat) {d : He.FnD} (h : fn[i]? = some d) : He.fnObs K d.at_ = d.val := by
  have e : fn.map (fun d => He.fnObs K d.at_) = fn.map He.FnD.val := congrArg (fun z : SeeV => z.2) c
  have e2 : (fn.map fun d => He.fnObs K d.at_)[i]? = (fn.map He.FnD.val)[i]? := by rw [e]
  rw [List.getElem?_map, List.getElem?_map, h] at e2
  exact Option.some.inj e2
end
theorem join3 {α β γ δ : Type} {o : Option α} {f : α → β} {g : α → γ} {k : α → δ} {a : β} {b : γ} {c : δ} (h1 : o.map f = some a) (h2 : o.map g = some b) (h3 : o.map k = some c) : o.map (fun x => (f x, g x, k x)) = some (a, b, c) := by
  cases o with
  | none => cases h1
  | some x =>
    cases (Option.some.inj h1)
    cases (Option.some.inj h2)
    cases (Option.some.inj h3)
    rfl
/-! ### a def of the top -/
def dD (x : Str) (st : Stmt) : He.FnD := ⟨(x, none), x, x, defArgs st, defBody st, defScope st⟩
def bD (x : Str) (K : PySem.W.Frag) : Bool := He.eqO (PySem.W.nsIn K mainGlobals x) (some (some (.ref (He.ga K x)))) && ((He.Fa.code (x, none) x).ok K && PySem.W.keepIn K (.ref (He.ga K x)))
theorem okD {K : PySem.W.Frag} {x : Str} {st : Stmt} (e : He.fnObs K (dD x st).at_ = (dD x st).val) (c : bD x K = true) :
    ∃ oc od sl kV dc pm an cd ct, PySem.W.nsIn K mainGlobals x = some (some (.ref (He.ga K x))) ∧ K.lookup (He.ga K x) = some ⟨oc, od, .func (PySem.W.fnOf x x (defArgs st) (defBody st) (defScope st) .none kV dc pm an cd ct), sl⟩ ∧ PySem.W.codeIn K cd x = true ∧
      PySem.W.keepIn K (.ref (He.ga K x)) = true := by
  obtain ⟨c1, c2⟩ := He.ba c
  obtain ⟨c2, c3⟩ := He.ba c2
  obtain ⟨oc, od, sl, kV, dc, pm, an, cd, ct, l, k⟩ := He.fn_ok (d := dD x st) e c2
  exact ⟨oc, od, sl, kV, dc, pm, an, cd, ct, He.eqO_ok c1, l, k, c3⟩
/-! ### .. with one keyword's default, 1 -/
def kwRef (K : PySem.W.Frag) (f : Addr) : Value := match K.lookup f with
  | some ⟨_, _, .func fd, _⟩ => fd.kwdefaults
  | _ => .none
def oneAt (K : PySem.W.Frag) (y : Str) (i : Int) : Value → Bool
  | .ref D => (match PySem.W.nsIn K D y with
    | some (some (.int j _)) => decide (j = i)
    | _ => false)
  | _ => false
def bK (x y : Str) (K : PySem.W.Frag) : Bool := bD x K && oneAt K y 1 (kwRef K (He.ga K x))
theorem okK {K : PySem.W.Frag} {x y : Str} {st : Stmt} (e : He.fnObs K (dD x st).at_ = (dD x st).val) (c : bK x y K = true) :
    ∃ (oc : Value) (od : Option Addr) (sl : Array (Option Value)) (D : Addr) (dc pm : Value) (an : Option Addr) (cd ct : Value) (t : Tok), PySem.W.nsIn K mainGlobals x = some (some (.ref (He.ga K x))) ∧ K.lookup (He.ga K x) = some ⟨oc, od, .func (PySem.W.fnOf x x (defArgs st) (defBody st) (defScope st) .none (.ref D) dc pm an cd ct), sl⟩ ∧ PySem.W.codeIn K cd x = true ∧
      PySem.W.keepIn K (.ref (He.ga K x)) = true ∧ PySem.W.nsIn K D y = some (some (.int 1 t)) := by
  obtain ⟨c1, c2⟩ := He.ba c
  obtain ⟨oc, od, sl, kV, dc, pm, an, cd, ct, a, l, k, k2⟩ := okD e c1
  unfold kwRef at c2
  rw [l] at c2
  have c3 : oneAt K y 1 kV = true := c2
  cases kV with
  | ref D =>
    have c4 : (match PySem.W.nsIn K D y with
      | some (some (.int j _)) => decide (j = 1)
      | _ => false) = true := c3
    cases q : PySem.W.nsIn K D y with
    | none =>
      rw [q] at c4
      cases c4
    | some o =>
      rw [q] at c4
      cases o with
      | none => cases c4
      | some v =>
        cases v with
        | int j t =>
          have ej : j = 1 := of_decide_eq_true c4
          rw [ej] at q
          exact ⟨oc, od, sl, D, dc, pm, an, cd, ct, t, a, l, k, k2, q⟩
        | _ => cases c4
  | _ => cases c3
/-! ### a number of the top -/
def bI (x : Str) (i : Int) (K : PySem.W.Frag) : Bool := match PySem.W.nsIn K mainGlobals x with
  | some (some (.int j _)) => decide (j = i)
  | _ => false
theorem okI {K : PySem.W.Frag} {x : Str} {i : Int} (c : bI x i K = true) : ∃ t, PySem.W.nsIn K mainGlobals x = some (some (.int i t)) := by
  unfold bI at c
  cases q : PySem.W.nsIn K mainGlobals x with
  | none =>
    rw [q] at c
    cases c
  | some o =>
    rw [q] at c
    cases o with
    | none => cases c
    | some v =>
      cases v with
      | int j t =>
        have ej : j = i := of_decide_eq_true c
        rw [ej]
        exact ⟨t, rfl⟩
      | _ => cases c
/-! ### a def whose code object's table grows -/
def bN (x : Str) (K : PySem.W.Frag) : Bool := bD x K && (match PySem.W.tabIn K x with
  | some (_, P) => (K.lookup P).isNone
  | none => false)
theorem okN {K : PySem.W.Frag} {x : Str} {st : Stmt} (e : He.fnObs K (dD x st).at_ = (dD x st).val) (c : bN x K = true) :
    ∃ (oc : Value) (od : Option Addr) (sl : Array (Option Value)) (kV dc pm : Value) (an : Option Addr) (ct : Value) (cN PN : Addr) (eN : Value) (dd : Option Addr) (vs : Array Value) (sc : Array (Option Value)),
      PySem.W.nsIn K mainGlobals x = some (some (.ref (He.ga K x))) ∧ K.lookup (He.ga K x) = some ⟨oc, od, .func (PySem.W.fnOf x x (defArgs st) (defBody st) (defScope st) .none kV dc pm an (.ref cN) ct), sl⟩ ∧ PySem.W.codeIn K (.ref cN) x = true ∧
      PySem.W.keepIn K (.ref (He.ga K x)) = true ∧ K.lookup cN = some ⟨eN, dd, .fields vs, sc⟩ ∧ (vs[11]? : Option Value) = some (.ref PN) ∧ K.lookup PN = none := by
  obtain ⟨c1, c2⟩ := He.ba c
  obtain ⟨oc, od, sl, kV, dc, pm, an, cd, ct, a, l, k, k2⟩ := okD e c1
  cases q : PySem.W.tabIn K x with
  | none =>
    rw [q] at c2
    cases c2
  | some r =>
    obtain ⟨cN, PN⟩ := r
    rw [q] at c2
    have c3 : (K.lookup PN).isNone = true := c2
    unfold PySem.W.tabIn at q
    rw [a] at q
    dsimp only at q
    rw [l] at q
    dsimp only [PySem.W.fnOf] at q
    cases cd with
    | ref c =>
      dsimp only at q
      cases hc : K.lookup c with
      | none =>
        rw [hc] at q
        cases q
      | some o =>
        obtain ⟨eN, dd, dt, sc⟩ := o
        rw [hc] at q
        cases dt with
        | fields vs =>
          dsimp only at q
          cases hv : (vs[11]? : Option Value) with
          | none =>
            rw [hv] at q
            cases q
          | some v =>
            rw [hv] at q
            cases v with
            | ref P =>
              cases q
              exact ⟨oc, od, sl, kV, dc, pm, an, ct, cN, PN, eN, dd, vs, sc, a, l, k, k2, hc, hv, Option.isNone_iff_eq_none.mp c3⟩
            | _ => cases q
        | _ => cases q
    | _ => cases q
/-! ### an own error's class -/
def bX (S : Addr) (C : Addr) (K : PySem.W.Frag) : Bool := match K.lookup C with
  | some ⟨.type t, _, .cls cd, sl⟩ => decide (t = "type") && (decide (cd.mro = [.ref C, .ref S, .type "ValueError", .type "Exception", .type "BaseException", .type "object"]) && (cd.hasDict && (!cd.hasDel && (match sl.toList with
    | [_, _, _, _, some (.builtin n), _] => decide (n = "ValueError.__new__")
    | _ => false))))
  | _ => false
theorem okX {K : PySem.W.Frag} {S C : Addr} (c : bX S C K = true) : ∃ (nm q : Str) (N : Addr) (bs : List Value) (sn : List Str) (sb : List Value) (ab : Bool) (col : Option Bool) (dd : Option Addr) (m0 m1 m2 m3 m5 : Option Value),
    K.lookup C = some (excClassObj nm q C N bs [.ref S, .type "ValueError", .type "Exception", .type "BaseException", .type "object"] true sn sb ab col dd m0 m1 m2 m3 m5 "ValueError.__new__") := by
  unfold bX at c
  cases q : K.lookup C with
  | none =>
    rw [q] at c
    cases c
  | some o =>
    obtain ⟨oc, dd, dt, sl⟩ := o
    rw [q] at c
    cases oc with
    | type t =>
      cases dt with
      | cls cd =>
        obtain ⟨nm, bs, mro, N, qn, hd, sn, sb, ab, col, del⟩ := cd
        obtain ⟨sl⟩ := sl
        obtain ⟨h1, c⟩ := He.ba c
        obtain ⟨h2, c⟩ := He.ba c
        obtain ⟨h3, c⟩ := He.ba c
        obtain ⟨h4, h5⟩ := He.ba c
        have e1 : t = "type" := of_decide_eq_true h1
        have e2 : mro = _ := of_decide_eq_true h2
        have e3 : hd = true := h3
        have e4 : del = false := by
          cases del
          · rfl
          · cases h4
        dsimp only at h5
        split at h5
        · rename_i k0 k1 k2 k3 n k5 z1 z2 z3
          have e5 : n = "ValueError.__new__" := of_decide_eq_true h5
          subst e1 e2 e3 e4 e5
          exact ⟨nm, qn, N, bs, sn, sb, ab, col, dd, k0, k1, k2, k3, k5, rfl⟩
        · cases h5
      | _ => cases c
    | _ => cases dt <;> cases c
/-! ### a method of a class of the top -/
def dM (x m q : Str) (st : Stmt) : He.FnD := ⟨(x, some m), m, q, defArgs st, defBody st, defScope st⟩
theorem okM {K : PySem.W.Frag} {x m qn : Str} {st : Stmt} (e : He.fnObs K (dM x m qn st).at_ = (dM x m qn st).val) (c : (He.Fa.code (x, some m) qn).ok K = true) :
    ∃ oc od sl kV dc pm an cd ct, K.lookup (He.ma K (He.ga K x) m) = some ⟨oc, od, .func (PySem.W.fnOf m qn (defArgs st) (defBody st) (defScope st) .none kV dc pm an cd ct), sl⟩ ∧ PySem.W.codeIn K cd qn = true := He.fn_ok (d := dM x m qn st) e c
end Vk
set_option maxHeartbeats 4000000
namespace Vk
open PySem L2
def top (i : Nat) : Stmt := PySem.Challenge.pw_blindslots_k13_bench_errors_and_undo.main.body.getD i (.Pass ⟨0, 0, 0, 0⟩)
abbrev sBdInit : Stmt := inClass (top 2) 0
abbrev sBdCopied : Stmt := inClass (top 2) 1
abbrev sBdEnter : Stmt := inClass (top 2) 2
abbrev sBdOrder : Stmt := inClass (top 2) 3
abbrev sBdRunning : Stmt := inClass (top 2) 4
abbrev sBdLevelOf : Stmt := inClass (top 2) 5
abbrev sBdEndUnits : Stmt := inClass (top 2) 8
abbrev sBdEndQuanta : Stmt := inClass (top 2) 9
abbrev sBdLift : Stmt := inClass (top 2) 10
abbrev sBdLog : Stmt := inClass (top 2) 11
abbrev sBdLengths : Stmt := inClass (top 2) 12
abbrev sNameInit : Stmt := inClass (top 14) 0
abbrev sInteger : Stmt := top 18
abbrev sTupleOf : Stmt := top 19
abbrev sName : Stmt := top 20
abbrev sCheck : Stmt := top 23
abbrev sLevel : Stmt := top 24
abbrev sCount : Stmt := top 25
abbrev sBnInit : Stmt := inClass (top 27) 0
abbrev sBnArrive : Stmt := inClass (top 27) 1
abbrev sBnEnd : Stmt := inClass (top 27) 2
abbrev sBnMoment : Stmt := inClass (top 27) 4
abbrev sBnRunning : Stmt := inClass (top 27) 5
abbrev sBnState : Stmt := inClass (top 27) 6
abbrev sBnLengths : Stmt := inClass (top 27) 7
abbrev sBnLog : Stmt := inClass (top 27) 8
abbrev sMix : Stmt := top 29
abbrev sStore : Stmt := top 30
abbrev sPick : Stmt := top 31
abbrev sNames : Stmt := top 32
abbrev sSome : Stmt := top 33
abbrev sRule : Stmt := top 34
abbrev sEnter : Stmt := top 35
abbrev sOrder : Stmt := top 36
abbrev sEnd : Stmt := top 37
abbrev sState : Stmt := top 38
abbrev sAsDue : Stmt := top 39
abbrev sStep : Stmt := top 40
abbrev sLaw : Stmt := top 48

abbrev sBnUndo : Stmt := inClass (top 27) 3
abbrev sKind : Stmt := top 41
abbrev sCaught : Stmt := top 42
abbrev sBadNames : Stmt := top 43
abbrev sBadFinish : Stmt := top 44
abbrev sWrong : Stmt := top 45
abbrev sCopy : Stmt := top 46
abbrev sRuleRight : Stmt := top 47
end Vk
set_option maxHeartbeats 4000000
/-! values as data: kinds, integers, tuples -/
namespace Vk
open PySem PySem.Spec PyProof.Rows L2
def tyN : PyData → String
  | .none => "NoneType"
  | .bool _ => "bool"
  | .int _ => "int"
  | .str _ => "str"
  | .list _ => "list"
  | .tuple _ => "tuple"
  | .dict _ => "dict"
theorem dp_ty {K : PySem.W.Frag} {H : Hp} {v : V} {d : PyData} (h : Dp K H v d) : TyX K H v (.type (tyN d)) := by
  cases h with
  | non => exact .base .non
  | bl b => exact .base (.bl b)
  | int i => exact .base (.int i)
  | str x => exact .base (.str x)
  | lst q _ =>
    rcases q with (q | ⟨o, q⟩) | ⟨o, its, n, hk, hc, _⟩
    · exact .base (.lst q)
    · exact .base (.frz q)
    · exact .kList hk hc
  | tup q _ =>
    rcases q with (q | ⟨o, q⟩) | ⟨o, its, n, hk, hc, _⟩
    · exact .base (.tup q)
    · exact .fTuple q
    · exact .kTuple hk hc
def isIntD : PyData → Bool
  | .bool _ => true
  | .int _ => true
  | _ => false
def isBoolD : PyData → Bool
  | .bool _ => true
  | _ => false
def isTupD : PyData → Bool
  | .tuple _ => true
  | _ => false
def isStrD : PyData → Bool
  | .str _ => true
  | _ => false
section
variable {K : PySem.W.Frag} {H : Hp} {v : V} {d : PyData}
theorem kit_int (h : Dp K H v d) : PySem.W.kitOne K (.type (tyN d)) (.type "int") = some (isIntD d) := by
  cases h with
  | non => exact kit_ty (show kitB "NoneType" "int" = some false by decide +kernel)
  | bl _ => exact kit_ty (show kitB "bool" "int" = some true by decide +kernel)
  | int _ => exact kit_ty (show kitB "int" "int" = some true by decide +kernel)
  | str _ => exact kit_ty (show kitB "str" "int" = some false by decide +kernel)
  | lst _ _ => exact kit_ty (show kitB "list" "int" = some false by decide +kernel)
  | tup _ _ => exact kit_ty (show kitB "tuple" "int" = some false by decide +kernel)
theorem kit_bool (h : Dp K H v d) : PySem.W.kitOne K (.type (tyN d)) (.type "bool") = some (isBoolD d) := by
  cases h with
  | non => exact kit_ty (show kitB "NoneType" "bool" = some false by decide +kernel)
  | bl _ => exact kit_ty (show kitB "bool" "bool" = some true by decide +kernel)
  | int _ => exact kit_ty (show kitB "int" "bool" = some false by decide +kernel)
  | str _ => exact kit_ty (show kitB "str" "bool" = some false by decide +kernel)
  | lst _ _ => exact kit_ty (show kitB "list" "bool" = some false by decide +kernel)
  | tup _ _ => exact kit_ty (show kitB "tuple" "bool" = some false by decide +kernel)
theorem kit_tup (h : Dp K H v d) : PySem.W.kitOne K (.type (tyN d)) (.type "tuple") = some (isTupD d) := by
  cases h with
  | non => exact kit_ty (show kitB "NoneType" "tuple" = some false by decide +kernel)
  | bl _ => exact kit_ty (show kitB "bool" "tuple" = some false by decide +kernel)
  | int _ => exact kit_ty (show kitB "int" "tuple" = some false by decide +kernel)
  | str _ => exact kit_ty (show kitB "str" "tuple" = some false by decide +kernel)
  | lst _ _ => exact kit_ty (show kitB "list" "tuple" = some false by decide +kernel)
  | tup _ _ => exact kit_ty (show kitB "tuple" "tuple" = some true by decide +kernel)
theorem kit_strT (h : Dp K H v d) : PySem.W.kitOne K (.type (tyN d)) (.type "str") = some (isStrD d) := by
  cases h with
  | non => exact kit_ty (show kitB "NoneType" "str" = some false by decide +kernel)
  | bl _ => exact kit_ty (show kitB "bool" "str" = some false by decide +kernel)
  | int _ => exact kit_ty (show kitB "int" "str" = some false by decide +kernel)
  | str _ => exact kit_ty (show kitB "str" "str" = some true by decide +kernel)
  | lst _ _ => exact kit_ty (show kitB "list" "str" = some false by decide +kernel)
  | tup _ _ => exact kit_ty (show kitB "tuple" "str" = some false by decide +kernel)
theorem dp_tuple {ds : List PyData} (h : Dp K H v (.tuple ds)) : ∃ a xs, v = .ref a ∧ SqT K H a xs ∧ DpAll K H xs ds := by
  cases h with
  | tup q r => exact ⟨_, _, rfl, q, r⟩
theorem dp_int {i : Int} (h : Dp K H v (.int i)) : v = .int i := by
  cases h
  rfl
theorem dp_bool {i : Bool} (h : Dp K H v (.bool i)) : v = .bl i := by
  cases h
  rfl
theorem dp_str {i : Str} (h : Dp K H v (.str i)) : v = .str i := by
  cases h
  rfl
theorem dp_none (h : Dp K H v .none) : v = .non := by
  cases h
  rfl
theorem dps_len : ∀ {vs : List V} {ds : List PyData}, DpAll K H vs ds → vs.length = ds.length
  | _, _, .nil => rfl
  | _, _, .cons _ r => congrArg (· + 1) (dps_len r)
theorem dps_get : ∀ {vs : List V} {ds : List PyData} {i : Nat} {d : PyData}, DpAll K H vs ds → ds[i]? = some d → ∃ v, vs[i]? = some v ∧ Dp K H v d
  | _, _, 0, _, .cons h _, e => by cases e; exact ⟨_, rfl, h⟩
  | _, _, i + 1, _, .cons _ r, e => by
    obtain ⟨v, h1, h2⟩ := dps_get r (i := i) (by simpa using e)
    exact ⟨v, by simpa using h1, h2⟩
theorem dps_getV : ∀ {vs : List V} {ds : List PyData} {i : Nat} {v : V}, DpAll K H vs ds → vs[i]? = some v → ∃ d, ds[i]? = some d ∧ Dp K H v d
  | _, _, 0, _, .cons h _, e => by cases e; exact ⟨_, rfl, h⟩
  | _, _, i + 1, _, .cons _ r, e => by
    obtain ⟨v, h1, h2⟩ := dps_getV r (i := i) (by simpa using e)
    exact ⟨v, by simpa using h1, h2⟩
theorem dps_app : ∀ {vs us : List V} {ds es : List PyData}, DpAll K H vs ds → DpAll K H us es → DpAll K H (vs ++ us) (ds ++ es)
  | _, _, _, _, .nil, h => h
  | _, _, _, _, .cons h r, q => .cons h (dps_app r q)
theorem dps_take : ∀ {vs : List V} {ds : List PyData} (n : Nat), DpAll K H vs ds → DpAll K H (vs.take n) (ds.take n)
  | _, _, 0, _ => .nil
  | _, _, n + 1, .nil => .nil
  | _, _, n + 1, .cons h r => .cons h (dps_take n r)
theorem dps_drop : ∀ {vs : List V} {ds : List PyData} (n : Nat), DpAll K H vs ds → DpAll K H (vs.drop n) (ds.drop n)
  | _, _, 0, h => h
  | _, _, n + 1, .nil => .nil
  | _, _, n + 1, .cons h r => dps_drop n r
/-- flat data -/
def flatD : PyData → Bool
  | .none => true
  | .bool _ => true
  | .int _ => true
  | .str _ => true
  | _ => false
theorem dp_flat (h : Dp K H v d) : flatV v = flatD d := by
  cases h <;> rfl
end
/-- an integer from a least one on -/
def integerD (least : Int) : PyData → Bool
  | .int i => decide (least ≤ i)
  | _ => false
def tupleND (n : Int) : PyData → Bool
  | .tuple ds => decide ((ds.length : Int) = n)
  | _ => false
/-! ### their defs' promises -/
def spInteger (K : PySem.W.Frag) : Sp := fun vs H Q _ => ∃ (v : V) (d : PyData) (least : Int), vs = [v, .int least] ∧ Dp K H v d ∧ Q (.bl (integerD least d)) H
def spTupleOf (K : PySem.W.Frag) : Sp := fun vs H Q _ => ∃ (v : V) (d : PyData) (n : Int), vs = [v, .int n] ∧ Dp K H v d ∧ Q (.bl (tupleND n d)) H
structure Blt (mg : Str → Option Value) : Prop where
  len : mg "len" = none
  isi : mg "isinstance" = none
  int : mg "int" = none
  bool : mg "bool" = none
  tuple : mg "tuple" = none
  str : mg "str" = none
  range : mg "range" = none
  enum : mg "enumerate" = none
  list : mg "list" = none
/-- isinstance(e, T), T a built-in type -/
def tIsi (K : PySem.W.Frag) (T : String) (te : TE) : TE := tCB (rIsi K) (tCons te (tCons (tC (.ty T)) tNil))
theorem isi_go {K : PySem.W.Frag} {T : String} {te : TE} {σ : L2.St} {H H1 : Hp} {v : V} {d : PyData} {b : Bool} {Q : VK} (h : ∀ R : VK, R v H1 → te σ H R) (hd : Dp K H1 v d) (k : PySem.W.kitOne K (.type (tyN d)) (.type T) = some b) (q : Q (.bl b) H1) : tIsi K T te σ H Q :=
  h _ ⟨v, .ty T, _, _, b, rfl, .ty T, dp_ty hd, k, q⟩
end Vk
set_option maxHeartbeats 4000000
/-! the board: what it is, and where it stands -/
namespace Vk
open PySem PySem.Spec PyProof.Rows L2
/-- a rule: for each level whether it is a stack, its quantum; the boost -/
structure Rl where
  levels : List (Bool × Option Int)
  boost : Option Int
def bOptD : Option Int → PyData
  | none => .none
  | some i => .int i
def bOptW : Option Int → V
  | none => .non
  | some i => .int i
def bKindS (b : Bool) : Str := if b then "stack" else "queue"
def bLevD (l : Bool × Option Int) : PyData := .tuple [.str (bKindS l.1), bOptD l.2]
def bRulD (r : Rl) : PyData := .tuple [.tuple (r.levels.map bLevD), bOptD r.boost]
structure Rl.Ok (r : Rl) : Prop where
  len1 : 1 ≤ r.levels.length
  len6 : r.levels.length ≤ 6
  quanta : ∀ l ∈ r.levels, ∀ q, l.2 = some q → 1 ≤ q
  boost : ∀ q, r.boost = some q → 1 ≤ q
/-- a board: the moment, the lines, the units since the level was entered and all of them, the finishes -/
structure Bd where
  now : Int
  lines : List (List Str)
  used : List (Str × Int)
  ran : List (Str × Int)
  fins : List (Int × List Str × List Str)
def kvS (l : List (Str × Int)) : List (Key × V) := l.map fun p => (Sum.inr p.1, V.int p.2)
def Bd.order (s : Bd) : List Str := s.lines.flatten
def Bd.run (s : Bd) (c : Int) : List Str := s.order.take c.toNat
def finD (f : Int × List Str × List Str) : PyData := .tuple [.int f.1, .tuple (f.2.1.map PyData.str), .tuple (f.2.2.map PyData.str)]
/-! ### dictionaries of texts and ints -/
def addS (l : List (Str × Int)) (x : Str) (d : Int) : List (Str × Int) := l.map fun p => if p.1 = x then (p.1, p.2 + d) else p
def putS (l : List (Str × Int)) (x : Str) (v : Int) : List (Str × Int) := l.map fun p => if p.1 = x then (p.1, v) else p
def dropS (l : List (Str × Int)) (x : Str) : List (Str × Int) := l.filter fun p => decide (p.1 ≠ x)
def getS (l : List (Str × Int)) (x : Str) : Int := (l.lookup x).getD 0
theorem valS : ∀ (l : List (Str × Int)) (x : Str), valV (kvS l) (Sum.inr x) = (l.lookup x).map V.int
  | [], _ => rfl
  | (y, v) :: r, x => by
    show valV ((Sum.inr y, V.int v) :: kvS r) (Sum.inr x) = _
    rw [List.lookup_cons]
    by_cases e : x = y
    · subst e
      rw [beq_self_eq_true, valV_pos rfl]
      rfl
    · rw [valV_neg (fun z => e (Sum.inr.inj z).symm), valS r x]
      rw [show (x == y) = false from beq_eq_false_iff_ne.mpr e]
theorem lookS {l : List (Str × Int)} {x : Str} (h : x ∈ l.map (·.1)) : l.lookup x = some (getS l x) := by
  unfold getS
  cases e : l.lookup x with
  | some v => rfl
  | none =>
    obtain ⟨p, hp, rfl⟩ := List.mem_map.mp h
    have z := List.lookup_eq_none_iff.mp e p hp
    simp at z
theorem lookS_none {l : List (Str × Int)} {x : Str} (h : x ∉ l.map (·.1)) : l.lookup x = none :=
  List.lookup_eq_none_iff.mpr fun p hp => bne_iff_ne.mpr fun z => h (List.mem_map.mpr ⟨p, hp, z.symm⟩)
theorem putK_S {l : List (Str × Int)} {x : Str} {v : Int} (h : x ∈ l.map (·.1)) : putK (kvS l) (Sum.inr x) (.int v) = kvS (putS l x v) := by
  have e : (valV (kvS l) (Sum.inr x)).isSome = true := by rw [valS, lookS h]; rfl
  unfold putK
  rw [if_pos (by rw [valV_any]; exact e)]
  unfold kvS putS
  rw [List.map_map, List.map_map]
  refine List.map_congr_left fun p _ => ?_
  show (if Sum.inr p.1 = (Sum.inr x : Key) then _ else _) = _
  by_cases z : p.1 = x
  · rw [if_pos (by rw [z])]
    simp [z]
  · rw [if_neg (fun q => z (Sum.inr.inj q))]
    simp [z]
theorem putK_new_S {l : List (Str × Int)} {x : Str} {v : Int} (h : x ∉ l.map (·.1)) : putK (kvS l) (Sum.inr x) (.int v) = kvS (l ++ [(x, v)]) := by
  rw [putK_new _ (by rw [valS, lookS_none h]; rfl)]
  unfold kvS
  rw [List.map_append]
  rfl
theorem putS_keys (l : List (Str × Int)) (x : Str) (v : Int) : (putS l x v).map (·.1) = l.map (·.1) := by
  unfold putS
  rw [List.map_map]
  refine List.map_congr_left fun p _ => ?_
  show (if p.1 = x then (p.1, v) else p).1 = p.1
  split <;> rfl
theorem addS_keys (l : List (Str × Int)) (x : Str) (v : Int) : (addS l x v).map (·.1) = l.map (·.1) := by
  unfold addS
  rw [List.map_map]
  refine List.map_congr_left fun p _ => ?_
  show (if p.1 = x then (p.1, p.2 + v) else p).1 = p.1
  split <;> rfl
theorem put_add {l : List (Str × Int)} {x : Str} {d : Int} (nd : (l.map (·.1)).Nodup) : putS l x (getS l x + d) = addS l x d := by
  induction l with
  | nil => rfl
  | cons p r ih =>
    obtain ⟨h1, h2⟩ := List.nodup_cons.mp nd
    obtain ⟨y, v⟩ := p
    by_cases e : y = x
    · subst e
      have out : ∀ q ∈ r, q.1 ≠ y := fun q hq z => h1 (List.mem_map.mpr ⟨q, hq, z⟩)
      have g : getS ((y, v) :: r) y = v := by
        unfold getS
        rw [List.lookup_cons, beq_self_eq_true]
        rfl
      rw [g]
      unfold putS addS
      rw [List.map_cons, List.map_cons, if_pos rfl]
      congr 1
      exact List.map_congr_left fun q hq => by rw [if_neg (out q hq), if_neg (out q hq)]
    · have g : getS ((y, v) :: r) x = getS r x := by
        unfold getS
        rw [List.lookup_cons, show (x == y) = false from beq_eq_false_iff_ne.mpr (Ne.symm e)]
      rw [g]
      unfold putS addS
      rw [List.map_cons, List.map_cons, if_neg (show (y, v).1 ≠ x from e), if_neg (show (y, v).1 ≠ x from e)]
      congr 1
      exact ih h2
theorem dropK_S (l : List (Str × Int)) (x : Str) : dropK (kvS l) (Sum.inr x) = kvS (dropS l x) := by
  unfold dropK kvS dropS
  rw [List.filter_map]
  congr 1
  refine List.filter_congr fun p _ => ?_
  show decide (Sum.inr p.1 ≠ (Sum.inr x : Key)) = decide (p.1 ≠ x)
  by_cases z : p.1 = x
  · simp [z]
  · simp [z]
/-! ### a part of the heap hidden -/
def OffL (ft : List Addr) (H : Hp) : Hp := fun x => if x ∈ ft then none else H x
theorem offL_in {ft : List Addr} {H : Hp} {x : Addr} (h : x ∈ ft) : OffL ft H x = none := if_pos h
theorem offL_out {ft : List Addr} {H : Hp} {x : Addr} (h : x ∉ ft) : OffL ft H x = H x := if_neg h
theorem offL_some {ft : List Addr} {H : Hp} {x : Addr} {o : HO} (h : OffL ft H x = some o) : x ∉ ft ∧ H x = some o := by
  by_cases m : x ∈ ft
  · rw [offL_in m] at h
    cases h
  · rw [offL_out m] at h
    exact ⟨m, h⟩
theorem offL_sub (ft : List Addr) (H : Hp) : Same (OffL ft H) H := .of fun b o e => (offL_some e).2
theorem offL_upd {ft : List Addr} {H : Hp} {a : Addr} {o : HO} (h : a ∈ ft) : OffL ft (upd H a o) = OffL ft H := by
  funext x
  by_cases m : x ∈ ft
  · rw [offL_in m, offL_in m]
  · rw [offL_out m, offL_out m, upd_ne (fun z => m (by rw [z]; exact h))]
theorem offL_put {ft : List Addr} {H : Hp} {a : Addr} {o : HO} (h : a ∉ ft) : OffL ft (upd H a o) = upd (OffL ft H) a o := by
  funext x
  by_cases e : x = a
  · rw [e, upd_same, offL_out h, upd_same]
  · rw [upd_ne e]
    by_cases m : x ∈ ft
    · rw [offL_in m, offL_in m]
    · rw [offL_out m, offL_out m, upd_ne e]
/-- all that stood keeps standing; what is hidden is hidden again -/
theorem offL_mono {ft : List Addr} {H H' : Hp} (s : Same H H') : Same (OffL ft H) (OffL ft H') := by
  refine ⟨fun b o e n => ?_, fun b e => ?_, fun P ⟨ps, e, t⟩ => ?_⟩
  · obtain ⟨h1, h2⟩ := offL_some e
    rw [offL_out h1]
    exact s.at_ b o h2 n
  · by_cases m : b ∈ ft
    · rw [offL_in m] at e
      exact absurd rfl e
    · rw [offL_out m] at e ⊢
      exact s.has b e
  · obtain ⟨h1, h2⟩ := offL_some e
    obtain ⟨qs, f, u⟩ := s.tab P ⟨ps, h2, t⟩
    exact ⟨qs, by rw [offL_out h1]; exact f, u⟩
/-- another hidden part, of new addresses -/
theorem offL_swap {ft ft' : List Addr} {H : Hp} (h : ∀ x ∈ ft', x ∈ ft ∨ H x = none) : Same (OffL ft H) (OffL ft' H) := by
  have key : ∀ b o, OffL ft H b = some o → OffL ft' H b = some o := fun b o e => by
    obtain ⟨h1, h2⟩ := offL_some e
    rw [offL_out (fun m => by
      rcases h b m with z | z
      · exact h1 z
      · rw [z] at h2
        cases h2)]
    exact h2
  exact .of key
end Vk
set_option maxHeartbeats 4000000
/-! methods as they stand; the board's place -/
namespace Vk
open PySem PySem.Spec PyProof.Rows L2
structure MDf (K : PySem.W.Frag) (C : Addr) (m qual : Str) (st : Stmt) (ps : List Str) : Prop where
  ex : ∃ f fd, Meth K C m f ∧ Fun K m qual st f fd ∧ Binds K fd ps []
structure MCl (P : Program) (w : World) (K : PySem.W.Frag) (mg : Str → Option Value) (base : Heap) (CX : CXT) (k : Nat) (C : Addr) (m : Str) (ps : List Str) (sp : Sp) : Prop where
  ex : ∃ f fd, Meth K C m f ∧ Binds K fd ps [] ∧ FnOk P w K mg base CX k f fd ps sp
section
variable {P : Program} {w : World} {K : PySem.W.Frag} {mg : Str → Option Value} {base : Heap}
theorem mcl0 {C : Addr} {m qual : Str} {st : Stmt} {N ps : List Str} {k : Nat} {sp : Sp} (D : MDf K C m qual st ps) (S : FnScope N ps (defScope st)) (len : ∀ vs H Q E, sp vs H Q E → vs.length = ps.length)
    (body : ∀ (f : Addr) (cdv : Value) (A : Around) (outer : List Env) (s : Shared) (H : Hp) (vs : List V) (Q : VK) (E : XK), Room k (A.deeper (envOfC qual (defScope st) s.heap.objs.size f cdv)) → sp vs H Q E →
      ∃ t, PSs (cxOf CX0 P w K mg base N qual (defScope st) f cdv A outer s H E).nox (defBody st) t ∧ t { nx := fun _ H' => Q .non H', rt := Q } (start N vs) H) : MCl P w K mg base CX0 (k + 1) C m ps sp := by
  obtain ⟨f, fd, M, F, b⟩ := D.ex
  exact ⟨f, fd, M, b, F.ok S len (body f)⟩
end
/-- what is asked of a class: its fields stand in no class -/
structure ClsF (K : PySem.W.Frag) (C : Addr) (fs : List Str) : Prop where
  cl : Cls K C
  no : ∀ f ∈ fs, NoAttr K C f
def bdF : List Str := ["rule", "processors", "now", "lines", "used", "ran", "finishes"]
/-- the addresses of a board's objects -/
structure BdA where
  dx : Addr
  L : Addr
  u : Addr
  n : Addr
  F : Addr
  ls : List Addr
def bf (rv : V) (c t : Int) (A : BdA) : List (Str × V) := [("rule", rv), ("processors", .int c), ("now", .int t), ("lines", .ref A.L), ("used", .ref A.u), ("ran", .ref A.n), ("finishes", .ref A.F)]
section
variable {rv : V} {c t : Int} {A : BdA}
theorem bf_rule : (bf rv c t A).lookup ("rule" : Str) = some rv := by kernel_rfl
theorem bf_proc : (bf rv c t A).lookup ("processors" : Str) = some (.int c) := by kernel_rfl
theorem bf_now : (bf rv c t A).lookup ("now" : Str) = some (.int t) := by kernel_rfl
theorem bf_lines : (bf rv c t A).lookup ("lines" : Str) = some (.ref A.L) := by kernel_rfl
theorem bf_used : (bf rv c t A).lookup ("used" : Str) = some (.ref A.u) := by kernel_rfl
theorem bf_ran : (bf rv c t A).lookup ("ran" : Str) = some (.ref A.n) := by kernel_rfl
theorem bf_fins : (bf rv c t A).lookup ("finishes" : Str) = some (.ref A.F) := by kernel_rfl
theorem bf_setNow (i : Int) : putF "now" (.int i) (bf rv c t A) = bf rv c i A := by kernel_rfl
theorem bf_setLines (a : Addr) : putF "lines" (.ref a) (bf rv c t A) = bf rv c t { A with L := a } := by kernel_rfl
theorem bf_setUsed (a : Addr) : putF "used" (.ref a) (bf rv c t A) = bf rv c t { A with u := a } := by kernel_rfl
theorem bf_setRan (a : Addr) : putF "ran" (.ref a) (bf rv c t A) = bf rv c t { A with n := a } := by kernel_rfl
theorem bf_setFins (a : Addr) : putF "finishes" (.ref a) (bf rv c t A) = bf rv c t { A with F := a } := by kernel_rfl
theorem bf_make (L u n F : Addr) (dx : Addr) : putF "finishes" (.ref F) (putF "ran" (.ref n) (putF "used" (.ref u) (putF "lines" (.ref L) (putF "now" (.int t) (putF "processors" (.int c) (putF "rule" rv [])))))) = bf rv c t ⟨dx, L, u, n, F, []⟩ := by kernel_rfl
end
def ftB (b : Addr) (A : BdA) : List Addr := b :: A.L :: A.u :: A.n :: A.F :: A.ls
/-- a board stands at b -/
structure BdAt (CB : Addr) (K : PySem.W.Frag) (H : Hp) (b : Addr) (rv : V) (c : Int) (A : BdA) (s : Bd) : Prop where
  ob : H b = some (.ins CB A.dx (bf rv c s.now A))
  lines : H A.L = some (.lst (A.ls.map V.ref))
  len : A.ls.length = s.lines.length
  line : ∀ (i : Nat) l ns, A.ls[i]? = some l → s.lines[i]? = some ns → H l = some (.lst (ns.map V.str))
  used : H A.u = some (.dK (kvS s.used))
  ran : H A.n = some (.dK (kvS s.ran))
  fins : ∃ xs, H A.F = some (.lst xs) ∧ DpAll K (OffL (ftB b A) H) xs (s.fins.map finD)
  nd : (A.L :: A.F :: A.ls).Nodup
  un : A.u ≠ A.n
section
variable {CB : Addr} {K : PySem.W.Frag} {H H' : Hp} {b : Addr} {rv : V} {c : Int} {A : BdA} {s : Bd}
theorem BdAt.bL (B : BdAt CB K H b rv c A s) : b ≠ A.L := ne_of B.ob B.lines (by intro z; cases z)
theorem BdAt.bu (B : BdAt CB K H b rv c A s) : b ≠ A.u := ne_of B.ob B.used (by intro z; cases z)
theorem BdAt.bn (B : BdAt CB K H b rv c A s) : b ≠ A.n := ne_of B.ob B.ran (by intro z; cases z)
theorem BdAt.bF (B : BdAt CB K H b rv c A s) : b ≠ A.F := by
  obtain ⟨xs, h, _⟩ := B.fins
  exact ne_of B.ob h (by intro z; cases z)
theorem BdAt.uL (B : BdAt CB K H b rv c A s) : A.u ≠ A.L := ne_of B.used B.lines (by intro z; cases z)
theorem BdAt.nL (B : BdAt CB K H b rv c A s) : A.n ≠ A.L := ne_of B.ran B.lines (by intro z; cases z)
theorem BdAt.uF (B : BdAt CB K H b rv c A s) : A.u ≠ A.F := by
  obtain ⟨xs, h, _⟩ := B.fins
  exact ne_of B.used h (by intro z; cases z)
theorem BdAt.nF (B : BdAt CB K H b rv c A s) : A.n ≠ A.F := by
  obtain ⟨xs, h, _⟩ := B.fins
  exact ne_of B.ran h (by intro z; cases z)
theorem BdAt.LF (B : BdAt CB K H b rv c A s) : A.L ≠ A.F := by
  have z := B.nd
  simp only [List.nodup_cons, List.mem_cons, not_or] at z
  exact z.1.1
theorem BdAt.Ll (B : BdAt CB K H b rv c A s) {l : Addr} (h : l ∈ A.ls) : l ≠ A.L := by
  have z := B.nd
  simp only [List.nodup_cons, List.mem_cons, not_or] at z
  exact fun e => z.1.2 (e ▸ h)
theorem BdAt.Fl (B : BdAt CB K H b rv c A s) {l : Addr} (h : l ∈ A.ls) : l ≠ A.F := by
  have z := B.nd
  simp only [List.nodup_cons, List.mem_cons, not_or] at z
  exact fun e => z.2.1 (e ▸ h)
theorem BdAt.at_line (B : BdAt CB K H b rv c A s) {l : Addr} (h : l ∈ A.ls) : ∃ (i : Nat) (ns : List Str), A.ls[i]? = some l ∧ s.lines[i]? = some ns ∧ H l = some (.lst (ns.map V.str)) := by
  obtain ⟨i, hi, e⟩ := List.mem_iff_getElem.mp h
  have h1 : A.ls[i]? = some l := by rw [List.getElem?_eq_getElem hi, e]
  have hl : i < s.lines.length := by rw [← B.len]; exact hi
  have h2 : s.lines[i]? = some s.lines[i] := List.getElem?_eq_getElem hl
  exact ⟨i, _, h1, h2, B.line i _ _ h1 h2⟩
theorem BdAt.bl (B : BdAt CB K H b rv c A s) {l : Addr} (h : l ∈ A.ls) : l ≠ b := by
  obtain ⟨_, _, _, _, e⟩ := B.at_line h
  exact (ne_of B.ob e (by intro z; cases z)).symm
theorem BdAt.ul (B : BdAt CB K H b rv c A s) {l : Addr} (h : l ∈ A.ls) : l ≠ A.u := by
  obtain ⟨_, _, _, _, e⟩ := B.at_line h
  exact (ne_of B.used e (by intro z; cases z)).symm
theorem BdAt.nl (B : BdAt CB K H b rv c A s) {l : Addr} (h : l ∈ A.ls) : l ≠ A.n := by
  obtain ⟨_, _, _, _, e⟩ := B.at_line h
  exact (ne_of B.ran e (by intro z; cases z)).symm
/-- nothing of it has changed -/
theorem BdAt.keep (B : BdAt CB K H b rv c A s) (e : ∀ x ∈ ftB b A, H' x = H x) (r : Same (OffL (ftB b A) H) (OffL (ftB b A) H')) : BdAt CB K H' b rv c A s := by
  have m1 : b ∈ ftB b A := by simp [ftB]
  have m2 : A.L ∈ ftB b A := by simp [ftB]
  have m3 : A.u ∈ ftB b A := by simp [ftB]
  have m4 : A.n ∈ ftB b A := by simp [ftB]
  have m5 : A.F ∈ ftB b A := by simp [ftB]
  obtain ⟨xs, f1, f2⟩ := B.fins
  exact ⟨(e _ m1).trans B.ob, (e _ m2).trans B.lines, B.len, fun i l ns h1 h2 => (e l (by simp [ftB, List.mem_of_getElem? h1])).trans (B.line i l ns h1 h2), (e _ m3).trans B.used, (e _ m4).trans B.ran, ⟨xs, (e _ m5).trans f1, dps_same r f2⟩, B.nd, B.un⟩
/-- all stands, some is new -/
theorem BdAt.same (B : BdAt CB K H b rv c A s) (k : Same H H') : BdAt CB K H' b rv c A s := by
  obtain ⟨xs, f1, f2⟩ := B.fins
  exact ⟨k.at B.ob, k.at B.lines, B.len, fun i l ns h1 h2 => k.at (B.line i l ns h1 h2), k.at B.used, k.at B.ran, ⟨xs, k.at f1, dps_same (offL_mono k) f2⟩, B.nd, B.un⟩
/-- the moment -/
theorem BdAt.setNow (B : BdAt CB K H b rv c A s) (t : Int) : BdAt CB K (upd H b (.ins CB A.dx (bf rv c t A))) b rv c A { s with now := t } := by
  obtain ⟨xs, f1, f2⟩ := B.fins
  refine ⟨upd_same, by rw [upd_ne B.bL.symm]; exact B.lines, B.len, fun i l ns h1 h2 => by rw [upd_ne (B.bl (List.mem_of_getElem? h1))]; exact B.line i l ns h1 h2, by rw [upd_ne B.bu.symm]; exact B.used, by rw [upd_ne B.bn.symm]; exact B.ran, ⟨xs, by rw [upd_ne B.bF.symm]; exact f1, by rw [offL_upd (by simp [ftB])]; exact f2⟩, B.nd, B.un⟩
/-- the units since -/
theorem BdAt.setUsed (B : BdAt CB K H b rv c A s) (u : List (Str × Int)) : BdAt CB K (upd H A.u (.dK (kvS u))) b rv c A { s with used := u } := by
  obtain ⟨xs, f1, f2⟩ := B.fins
  exact ⟨by rw [upd_ne B.bu]; exact B.ob, by rw [upd_ne B.uL.symm]; exact B.lines, B.len, fun i l ns h1 h2 => by rw [upd_ne (B.ul (List.mem_of_getElem? h1))]; exact B.line i l ns h1 h2, upd_same, by rw [upd_ne B.un.symm]; exact B.ran, ⟨xs, by rw [upd_ne B.uF.symm]; exact f1, by rw [offL_upd (by simp [ftB])]; exact f2⟩, B.nd, B.un⟩
theorem BdAt.setRan (B : BdAt CB K H b rv c A s) (u : List (Str × Int)) : BdAt CB K (upd H A.n (.dK (kvS u))) b rv c A { s with ran := u } := by
  obtain ⟨xs, f1, f2⟩ := B.fins
  exact ⟨by rw [upd_ne B.bn]; exact B.ob, by rw [upd_ne B.nL.symm]; exact B.lines, B.len, fun i l ns h1 h2 => by rw [upd_ne (B.nl (List.mem_of_getElem? h1))]; exact B.line i l ns h1 h2, by rw [upd_ne B.un]; exact B.used, upd_same, ⟨xs, by rw [upd_ne B.nF.symm]; exact f1, by rw [offL_upd (by simp [ftB])]; exact f2⟩, B.nd, B.un⟩
/-- a line -/
theorem BdAt.setLine (B : BdAt CB K H b rv c A s) {j : Nat} {l : Addr} {ns : List Str} (hj : A.ls[j]? = some l) : BdAt CB K (upd H l (.lst (ns.map V.str))) b rv c A { s with lines := s.lines.set j ns } := by
  have hl := List.mem_of_getElem? hj
  obtain ⟨xs, f1, f2⟩ := B.fins
  have ndl : A.ls.Nodup := (List.nodup_cons.mp (List.nodup_cons.mp B.nd).2).2
  refine ⟨by rw [upd_ne (B.bl hl).symm]; exact B.ob, by rw [upd_ne (B.Ll hl).symm]; exact B.lines, by rw [List.length_set]; exact B.len, fun i l' ns' h1 h2 => ?_, by rw [upd_ne (B.ul hl).symm]; exact B.used, by rw [upd_ne (B.nl hl).symm]; exact B.ran, ⟨xs, by rw [upd_ne (B.Fl hl).symm]; exact f1, by rw [offL_upd (by simp [ftB, hl])]; exact f2⟩, B.nd, B.un⟩
  by_cases e : i = j
  · subst e
    rw [hj] at h1
    cases h1
    have hlen : i < s.lines.length := by rw [← B.len]; exact (List.getElem?_eq_some_iff.mp hj).1
    replace h2 : (s.lines.set i ns)[i]? = some ns' := h2
    rw [List.getElem?_set_self hlen] at h2
    cases h2
    exact upd_same
  · replace h2 : (s.lines.set j ns)[i]? = some ns' := h2
    rw [List.getElem?_set_ne (Ne.symm e)] at h2
    rw [upd_ne (fun z => e (nd_ix ndl (by rw [← z]; exact h1) hj))]
    exact B.line i l' ns' h1 h2
/-- a finish -/
theorem BdAt.setFins (B : BdAt CB K H b rv c A s) {fs : List (Int × List Str × List Str)} {xs : List V} (d : DpAll K (OffL (ftB b A) H) xs (fs.map finD)) : BdAt CB K (upd H A.F (.lst xs)) b rv c A { s with fins := fs } := by
  obtain ⟨ys, f1, f2⟩ := B.fins
  exact ⟨by rw [upd_ne B.bF]; exact B.ob, by rw [upd_ne B.LF]; exact B.lines, B.len, fun i l ns h1 h2 => by rw [upd_ne (B.Fl (List.mem_of_getElem? h1))]; exact B.line i l ns h1 h2, by rw [upd_ne B.uF]; exact B.used, by rw [upd_ne B.nF]; exact B.ran, ⟨xs, upd_same, by rw [offL_upd (by simp [ftB])]; exact d⟩, B.nd, B.un⟩
end
end Vk
set_option maxHeartbeats 4000000
/-! {k: v for .. in .. if .. for .. in .. if ..}: a dict comprehension of two clauses -/
namespace Vk
open PySem PySem.Spec PyProof.Rows L2
abbrev E2 (kx vx t0 i0 : Expr) (f0 : List Expr) (t1 i1 : Expr) (f1 : List Expr) (sc : Scope) (ps : Pos) : Expr := .DictComp kx vx [⟨t0, i0, f0, 0⟩, ⟨t1, i1, f1, 0⟩] sc ps
theorem turnD_out (kx vx t0 i0 : Expr) (f0 : List Expr) (t1 i1 : Expr) (f1 : List Expr) (sc : Scope) (ps : Pos) (it ac : Value) (ev : Env) : compTurn (E2 kx vx t0 i0 f0 t1 i1 f1 sc ps) 0 it ac ev = (do
    standAt i0.pos
    match ← pyNext it with
    | none => pure (.done .next)
    | some got =>
      letOwnedTupleGo t0 it got
      assign t0 ev got
      let mut fits := true
      for cc in f0 do
        if fits then fits ← isTrue cc ev (eval cc ev)
      if fits then
        let src ← eval i1 ev
        standAt i1.pos
        let src ← foldedSetIterable i1 ev src
        let _ ← runOwn (.compStart (E2 kx vx t0 i0 f0 t1 i1 f1 sc ps) 1 (← holding [src] (pyIter src)) ac ev) ev
      again (.compLoop (E2 kx vx t0 i0 f0 t1 i1 f1 sc ps) 0 it ac ev)) := by rfl
theorem turnD_in (kx vx t0 i0 : Expr) (f0 : List Expr) (t1 i1 : Expr) (f1 : List Expr) (sc : Scope) (ps : Pos) (it : Value) (D : Addr) (ev : Env) : compTurn (E2 kx vx t0 i0 f0 t1 i1 f1 sc ps) 1 it (.ref D) ev = (do
    standAt i1.pos
    match ← pyNext it with
    | none => pure (.done .next)
    | some got =>
      letOwnedTupleGo t1 it got
      assign t1 ev got
      let mut fits := true
      for cc in f1 do
        if fits then fits ← isTrue cc ev (eval cc ev)
      if fits then
        (do
          let key ← eval kx ev
          let val ← holding [key] (eval vx ev)
          standAt { kx.pos with endLine := vx.pos.endLine, endCol := vx.pos.endCol }
          holding [key, val] (dictSet D key val))
      again (.compLoop (E2 kx vx t0 i0 f0 t1 i1 f1 sc ps) 1 it (.ref D) ev)) := by rfl
section
variable {prog : Program} {w : World} {A : Around} {R : Result → Shared → Prop} {s : Shared} {kx vx t0 i0 t1 i1 : Expr} {f0 f1 : List Expr} {sc : Scope} {ps : Pos} {it ac : Value} {D : Addr} {ev : Env}
/-- what is raised within a turn -/
abbrev nEv (prog : Program) (w : World) (A : Around) (R : Result → Shared → Prop) (ev : Env) : Value → Shared → Prop := notedBy (model prog w) A ev fun er z => R (.error er) z
abbrev fitsOf (ev : Env) (fs : List Expr) : Sem Bool := forIn fs true fun c q => if q = true then do let ok ← isTrue c ev (eval c ev); pure (ForInStep.yield ok) else pure (ForInStep.yield q)
theorem loopD_out (hs : ∀ x, foldedSetIterable i1 ev x = pure x) (J : Nat → Shared → Prop)
    (go : ∀ n z, J n z → wpAny (model prog w) A (pyNext it) (fun r z1 => match r with
      | none => R (.ok .next) z1
      | some got => wpAny (model prog w) A (letOwnedTupleGo t0 it got) (fun _ z2 => wpAny (model prog w) A (assign t0 ev got) (fun _ z3 => wpAny (model prog w) A (fitsOf ev f0) (fun ok z4 =>
            if ok = true then wpAny (model prog w) A (eval i1 ev) (fun x z5 => wpAny (model prog w) A (pyIter x) (fun it1 z6 =>
                codeAny (model prog w) A (.compStart (E2 kx vx t0 i0 f0 t1 i1 f1 sc ps) 1 it1 ac ev) (fun r z7 => match r with
                  | .ok _ => ∃ m, m < n ∧ J m z7
                  | .error _ => False) z6) (nEv prog w A R ev) z5) (nEv prog w A R ev) z4
            else ∃ m, m < n ∧ J m z4) (nEv prog w A R ev) z3) (nEv prog w A R ev) z2) (nEv prog w A R ev) z1) (nEv prog w A R ev) z)
    (n : Nat) (h : J n s) : codeAny (model prog w) A (.compLoop (E2 kx vx t0 i0 f0 t1 i1 f1 sc ps) 0 it ac ev) R s := by
  refine codeAny_loop rfl J (fun n z hJ => ?_) n h
  show wpAny _ A ((compTurn (E2 kx vx t0 i0 f0 t1 i1 f1 sc ps) 0 it ac ev).onRaise (fun er => do noteFrame er ev; theTreesLotGoes er)) _ _ z
  refine wpAny_noted ?_
  rw [turnD_out]
  refine wpAny_bind (wpAny_standAt (wpAny_bind (wpAny_mono (go n z hJ) (fun r z1 k1 => ?_) fun _ _ k => k)))
  cases r with
  | none => exact wpAny_pure k1
  | some got =>
    refine wpAny_bind (wpAny_mono k1 (fun _ z2 k2 => ?_) fun _ _ k => k)
    refine wpAny_bind (wpAny_mono k2 (fun _ z3 k3 => wpAny_bind (wpAny_mono k3 (fun ok z4 k4 => ?_) fun _ _ k => k)) fun _ _ k => k)
    cases ok with
    | false => exact wpAny_pure ⟨rfl, k4⟩
    | true =>
      refine wpAny_bind (wpAny_mono k4 (fun x z5 k5 => ?_) fun _ _ k => k)
      refine wpAny_bind (wpAny_standAt (wpAny_bind (wpAny_of_eq (hs x) (wpAny_bind (wpAny_holding (wpAny_mono k5 (fun it1 z6 k6 => ?_) fun _ _ k => k))))))
      refine wpAny_bind (wpAny_runOwn ?_)
      rw [Around.mark_none]
      refine codeAny_mono k6 fun r z7 k7 => ?_
      cases r with
      | ok f => first | exact wpAny_pure ⟨rfl, k7⟩ | exact wpAny_bind (wpAny_pure (wpAny_pure ⟨rfl, k7⟩))
      | error er => exact k7.elim
theorem loopD_in (J : Nat → Shared → Prop)
    (go : ∀ n z, J n z → wpAny (model prog w) A (pyNext it) (fun r z1 => match r with
      | none => R (.ok .next) z1
      | some got => wpAny (model prog w) A (letOwnedTupleGo t1 it got) (fun _ z2 => wpAny (model prog w) A (assign t1 ev got) (fun _ z3 => wpAny (model prog w) A (fitsOf ev f1) (fun ok z4 =>
            if ok = true then wpAny (model prog w) A (eval kx ev) (fun key z5 => wpAny (model prog w) A (eval vx ev) (fun val z6 => wpAny (model prog w) A (dictSet D key val) (fun _ z7 => ∃ m, m < n ∧ J m z7) (nEv prog w A R ev) z6) (nEv prog w A R ev) z5) (nEv prog w A R ev) z4
            else ∃ m, m < n ∧ J m z4) (nEv prog w A R ev) z3) (nEv prog w A R ev) z2) (nEv prog w A R ev) z1) (nEv prog w A R ev) z)
    (n : Nat) (h : J n s) : codeAny (model prog w) A (.compLoop (E2 kx vx t0 i0 f0 t1 i1 f1 sc ps) 1 it (.ref D) ev) R s := by
  refine codeAny_loop rfl J (fun n z hJ => ?_) n h
  show wpAny _ A ((compTurn (E2 kx vx t0 i0 f0 t1 i1 f1 sc ps) 1 it (.ref D) ev).onRaise (fun er => do noteFrame er ev; theTreesLotGoes er)) _ _ z
  refine wpAny_noted ?_
  rw [turnD_in]
  refine wpAny_bind (wpAny_standAt (wpAny_bind (wpAny_mono (go n z hJ) (fun r z1 k1 => ?_) fun _ _ k => k)))
  cases r with
  | none => exact wpAny_pure k1
  | some got =>
    refine wpAny_bind (wpAny_mono k1 (fun _ z2 k2 => ?_) fun _ _ k => k)
    refine wpAny_bind (wpAny_mono k2 (fun _ z3 k3 => wpAny_bind (wpAny_mono k3 (fun ok z4 k4 => ?_) fun _ _ k => k)) fun _ _ k => k)
    cases ok with
    | false => exact wpAny_pure ⟨rfl, k4⟩
    | true =>
      exact wpAny_bind (wpAny_bind (wpAny_mono k4 (fun key z5 k5 => wpAny_bind (wpAny_holding (wpAny_mono k5 (fun val z6 k6 => wpAny_bind (wpAny_standAt (wpAny_holding (wpAny_mono k6 (fun _ z7 k7 => wpAny_pure ⟨rfl, k7⟩) fun _ _ k => k)))) fun _ _ k => k))) fun _ _ k => k))
theorem startD (h0 : codeAny (model prog w) A (.compLoop (E2 kx vx t0 i0 f0 t1 i1 f1 sc ps) 1 it ac ev) R s)
    (h : wpAny (model prog w) A (pyIter it) (fun it1 z => codeAny (model prog w) A (.compLoop (E2 kx vx t0 i0 f0 t1 i1 f1 sc ps) 1 it1 ac ev) R z) (nEv prog w A R ev) s) :
    codeAny (model prog w) A (.compStart (E2 kx vx t0 i0 f0 t1 i1 f1 sc ps) 1 it ac ev) R s := by
  refine codeAny_of_tree ?_
  show wpAny _ _ ((compStart (E2 kx vx t0 i0 f0 t1 i1 f1 sc ps) 1 it ac ev).onRaise (fun er => do noteFrame er ev; standAt theWindowsPlace)) _ _ s
  refine wpAny_notedAt ?_
  unfold compStart
  show wpAny _ _ (ask >>= _) _ _ s
  refine wpAny_bind (wpAny_askSetting (wpAny_ite ?_))
  split
  · first | exact wpAny_bind (wpAny_pure (wpAny_pure (And.intro rfl h0))) | exact wpAny_pure (And.intro rfl h0)
  · first
      | exact wpAny_bind (wpAny_rule (wpAny_bind (wpAny_standAt (wpAny_bind (wpAny_mono h (fun it1 z k => wpAny_pure (And.intro rfl k)) fun _ _ k => k)))))
      | (refine wpAny_bind (wpAny_rule ?_); show wpAny _ _ (standAt i1.pos >>= _) _ _ s; exact wpAny_bind (wpAny_standAt (wpAny_bind (wpAny_mono h (fun it1 z k => wpAny_pure (And.intro rfl k)) fun _ _ k => k))))
end
/-- what holds in every block of the comprehension -/
abbrev InBlk (X : Cx) (sc : Scope) (F : Cx → Prop) : Prop := ∀ (z : Shared) (G : Hp) (C : Addr) (cl : List (Str × Addr)) (fp : List Addr), F (X.blk z G sc (compEnvC sc cl C X.env) fp)
def tDc2 (wi : TI) (g : TG) (tt : TT) (wj : TI) (gj : TG) (tj : TT) (tk tv : TE) (vs vj : List Nat) : TE := fun σ H Q => wi σ H fun J H1 => ∀ D, H1 D = none → ∃ W : Nat → Nat → Hp → Prop, (∃ m, W 0 m (upd H1 D (.dK []))) ∧ ∀ i m H, W i m H →
  (J.stop i H ∧ Q (.ref D) H) ∨ (J.go i H ∧ ∃ Nx : Hp → Prop, (∀ G, Nx G → ∃ m', m' < m ∧ W (i + 1) m' G) ∧ ∀ x G, J.yld i H x G → g x (wipe σ vs) G fun σ2 H2 => wipe σ2 vs = wipe σ vs ∧ tt σ2 H2 fun b H3 =>
    if b = true then wj σ2 H3 fun J1 H4 => ∃ V : Nat → Nat → Hp → Prop, (∃ m, V 0 m H4) ∧ ∀ j k H, V j k H →
      (J1.stop j H ∧ Nx H) ∨ (J1.go j H ∧ ∃ Ny : Hp → Prop, (∀ G, Ny G → ∃ k', k' < k ∧ V (j + 1) k' G) ∧ ∀ x G, J1.yld j H x G → gj x (wipe σ2 vj) G fun σ3 H5 => wipe σ3 vj = wipe σ2 vj ∧ tj σ3 H5 fun b H6 =>
        if b = true then tk σ3 H6 fun y H7 => tv σ3 H7 fun z H8 => ∃ kvs k, y = kV k ∧ H8 D = some (.dK kvs) ∧ kvs.length < sizeLine ∧ Ny (upd H8 D (.dK (putK kvs k z))) else Ny H6)
    else Nx H3)
section
variable {X : Cx}
theorem coreD {pins : List (Addr × Obj)} {s : Shared} {σ : L2.St} {H : Hp} {Q : VK} {kx vx t0 i0 t1 i1 : Expr} {f0 f1 : List Expr} {sc : Scope} {own : List (Str × Nat)} {vj : List Nat} {ps ps2 : Pos} {wi wj : TI} {g gj : TG} {tt tj : TT} {tk tv : TE} {use : Option (Value → Sem Unit)} {Qf : Value → Shared → Prop}
    (hc : X.calm = true) (hN : X.N.Nodup) (I : Inv X pins σ H s) (hi : PI X t0 i0 wi) (ok : BlkOk X.N X.env.scope sc own) (hv : ∀ i ∈ vj, i ∈ own.map (·.2))
    (hg : InBlk X sc fun Y => PG Y t0 g) (ht : InBlk X sc fun Y => PTs Y f0 tt) (hj : InBlk X sc fun Y => PI Y t1 i1 wj) (hgj : InBlk X sc fun Y => PG Y t1 gj) (htj : InBlk X sc fun Y => PTs Y f1 tj) (hk : InBlk X sc fun Y => PE Y kx tk) (hx : InBlk X sc fun Y => PE Y vx tv)
    (hs : ∀ x, foldedSetIterable i0 X.env x = pure x) (hs1 : ∀ env x, foldedSetIterable i1 env x = pure x) (h : tDc2 wi g tt wj gj tj tk tv (own.map (·.2)) vj σ H Q)
    (hRR : ∀ D C z m G, Inv X pins σ G z → Q (.ref D) G → z.heap.Ns C m → FpOk X pins G C → compPost (model X.prog X.w) X.A X.xe use Qf (.ref D) C (.ok .next) z) :
    wpAny (model X.prog X.w) X.A (comprehension (E2 kx vx t0 i0 f0 t1 i1 f1 sc ps) sc X.env ps2 newDict false (eval i0 X.env) use) Qf X.xe s := by
  have hfree : ∀ y ∈ sc.names, y.2 = .free → ∃ c, X.env.cells.lookup y.1 = some c := fun y hy e => (ok.free y hy e).elim (fun k => I.ok.has _ (.inl k)) fun k => I.ok.has _ (.inr k)
  refine wpAny_comprehension_free (use := use) rfl hs (closure_ok hfree) ok.kind (fun y hy e => by rw [ok.uniq y hy, e]) (thn (hi.run pins s σ H _ I h) fun xv z1 hxv => thn hxv fun itv z2 k2 => ?_)
  obtain ⟨it, fp, tn, J, H2, e, I2, T, st2, f2, q⟩ := k2
  subst e
  refine wpAny_newObj_type (newEnv_comp ?_)
  generalize hD : z2.heap.objs.size = D
  have hDn : H2 D = none := I2.hok.fresh (Nat.le_of_eq hD)
  obtain ⟨W, ⟨m0, w0⟩, turn⟩ := q D hDn
  generalize hz3 : ({ z2 with heap := z2.heap.push { cls := .type "dict", data := .dict #[] } } : Shared) = z3
  have I3 : Inv X pins σ (upd H2 D (.dK [])) z3 := by
    rw [← hz3]
    refine I2.laid (t' := z2.toks) (fun b o e => Heap.get?_push_of_some _ e) (Nat.le_of_eq hD) ?_
    rw [← hD]
    exact dk_empty z2.heap I2.big
  have h3 : z3.heap = z2.heap.push { cls := .type "dict", data := .dict #[] } := by rw [← hz3]
  have small : ∀ b ∈ fp, b < z2.heap.objs.size := fun b hb => by
    obtain ⟨o, e, _⟩ := T.obj _ _ st2 b hb
    exact Heap.lt_size e
  have f3 : ∀ b ∈ fp, FpOk X pins (upd H2 D (.dK [])) b ∧ b < z3.heap.objs.size := fun b hb => by
    have lt := small b hb
    refine ⟨⟨?_, (f2 b hb).2⟩, by rw [h3, Heap.size_push]; exact Nat.lt_succ_of_lt lt⟩
    rw [upd_ne (by rw [← hD]; exact Nat.ne_of_lt lt)]
    exact (f2 b hb).1
  have st3 : tn 0 z3.heap := T.keep _ _ _ st2 fun b _ o e => by rw [h3]; exact Heap.get?_push_of_some _ e
  have I4 := block_start I3 ok hN f3
  have pg := hg z3 (upd H2 D (.dK [])) z3.heap.objs.size (cellsFrom (z3.heap.objs.size + 1) sc.names (cloFrom X.env.cells sc.names [])) fp
  have pt := ht z3 (upd H2 D (.dK [])) z3.heap.objs.size (cellsFrom (z3.heap.objs.size + 1) sc.names (cloFrom X.env.cells sc.names [])) fp
  have pj := hj z3 (upd H2 D (.dK [])) z3.heap.objs.size (cellsFrom (z3.heap.objs.size + 1) sc.names (cloFrom X.env.cells sc.names [])) fp
  have pgj := hgj z3 (upd H2 D (.dK [])) z3.heap.objs.size (cellsFrom (z3.heap.objs.size + 1) sc.names (cloFrom X.env.cells sc.names [])) fp
  have ptj := htj z3 (upd H2 D (.dK [])) z3.heap.objs.size (cellsFrom (z3.heap.objs.size + 1) sc.names (cloFrom X.env.cells sc.names [])) fp
  have pk := hk z3 (upd H2 D (.dK [])) z3.heap.objs.size (cellsFrom (z3.heap.objs.size + 1) sc.names (cloFrom X.env.cells sc.names [])) fp
  have px := hx z3 (upd H2 D (.dK [])) z3.heap.objs.size (cellsFrom (z3.heap.objs.size + 1) sc.names (cloFrom X.env.cells sc.names [])) fp
  show codeAny _ _ (.compStart (E2 kx vx t0 i0 f0 t1 i1 f1 sc ps) 0 (.ref it) (.ref D) (compEnvC sc (cellsFrom (z3.heap.objs.size + 1) sc.names (cloFrom X.env.cells sc.names [])) z3.heap.objs.size X.env)) (compPost (model X.prog X.w) X.A X.xe use Qf (.ref D) z3.heap.objs.size) { z3 with heap := pushCells (z3.heap.push { cls := .type "dict", data := .dict #[] }) sc.names }
  have nfp : ∀ b ∈ fp, (upd H2 D (.dK [])) b = none := fun b hb => (f3 b hb).1.1
  generalize hce : compEnvC sc (cellsFrom (z3.heap.objs.size + 1) sc.names (cloFrom X.env.cells sc.names [])) z3.heap.objs.size X.env = ce at I4 pg pt pj pgj ptj pk px ⊢
  have cL : ce.locals = z3.heap.objs.size := by subst hce; rfl
  generalize hH3 : upd H2 D (.dK []) = H3 at I3 I4 pg pt pj pgj ptj pk px w0 nfp f3
  generalize hz4 : ({ z3 with heap := pushCells (z3.heap.push { cls := .type "dict", data := .dict #[] }) sc.names } : Shared) = z4 at I4 ⊢
  have st4 : tn 0 z4.heap := T.keep _ _ _ st3 fun b _ o e => by rw [← hz4]; exact pushCells_keeps _ _ _ _ (Heap.get?_push_of_some _ e)
  have stat : ∀ {τ : L2.St} {G : Hp} {z : Shared}, Inv (X.blk z3 H3 sc ce fp) [] τ G z → (∀ b ∈ fp, G b = none) → ∀ b ∈ fp, FpOk (X.blk z3 H3 sc ce fp) [] G b := fun {τ G z} K hn b hb =>
    ⟨hn b hb, (K.ok.exf b hb).1, K.ok.exfs b hb, .inl hb, fun x c e => (K.ok.exf b hb).2 x c e, fun p hp => absurd (show p ∈ ([] : List (Addr × Obj)) ++ [] from hp) (by simp)⟩
  have loop : codeAny (model X.prog X.w) X.A (.compLoop (E2 kx vx t0 i0 f0 t1 i1 f1 sc ps) 0 (.ref it) (.ref D) ce) (compPost (model X.prog X.w) X.A X.xe use Qf (.ref D) z3.heap.objs.size) z4 := by
    refine loopD_out (hs1 ce) (fun n z => ∃ i G, Inv (X.blk z3 H3 sc ce fp) [] (wipe σ (own.map (·.2))) G z ∧ tn i z.heap ∧ (∀ b ∈ fp, G b = none) ∧ W i n G) ?_ m0 ⟨0, H3, I4, st4, nfp, w0⟩
    rintro n z5 ⟨i, H5, I5, st5, n5, w5⟩
    rcases turn i n H5 w5 with ⟨stop, qq⟩ | ⟨go, Nx, hNx, step⟩
    · refine thnF (T.done (X.blk z3 H3 sc ce fp) rfl rfl rfl hc i [] z5 _ H5 (fun _ _ => False) I5 (stat I5 n5) st5 stop) fun r z6 ⟨hr, I6⟩ => ?_
      subst hr
      have I7 : Inv X pins σ H5 z6 := I3.call' (ch := fp) I6.os I6.base I6.hok I6.bare fun b hb => ⟨(f3 b hb).1.2.2.2.1, (f3 b hb).1.2.1, (f3 b hb).1.2.2.2.2.1, (f3 b hb).1.2.2.2.2.2⟩
      have nC : H5 z3.heap.objs.size = none := by
        have k : H5 ce.locals = none := I6.free
        rw [cL] at k
        exact k
      obtain ⟨m, hn, _⟩ := I6.loc
      have hn : z6.heap.Ns ce.locals m := hn
      rw [cL] at hn
      exact hRR D z3.heap.objs.size z6 m H5 I7 qq hn (I3.fpOk (Nat.le_refl _) nC)
    · refine thnF (T.item (X.blk z3 H3 sc ce fp) rfl rfl rfl hc i [] z5 _ H5 (fun _ _ => False) I5 (stat I5 n5) st5 go) fun r z6 ⟨u, hr, h6⟩ => ?_
      subst hr
      refine thnF h6 fun _ z7 ⟨x, H7, I7, r7, y7, st7, n7⟩ => ?_
      have I7' := I7.pinned (stat I7 n7) (T.obj _ _ st7)
      refine thnF (pg.run _ z7 _ H7 x u _ I7' r7 (step x H7 y7)) fun _ z8 ⟨σ8, H8, I8, hw8, q8⟩ => ?_
      refine thnF (pt.run _ z8 σ8 H8 _ I8 q8) fun b z9 ⟨H9, I9, q9⟩ => ?_
      have fin : ∀ {τ : L2.St} {z : Shared} {G : Hp}, Inv (X.blk z3 H3 sc ce fp) ([] ++ pinsAt fp z7.heap) τ G z → (wipe σ (own.map (·.2))).length = τ.length → (∀ (j : Nat) v, (wipe σ (own.map (·.2)))[j]? = some (some v) → τ[j]? = some (some v)) → Nx G →
          ∃ m, m < n ∧ ∃ i G, Inv (X.blk z3 H3 sc ce fp) [] (wipe σ (own.map (·.2))) G z ∧ tn i z.heap ∧ (∀ b ∈ fp, G b = none) ∧ W i m G := fun {τ z G} K hl hkk nx => by
        obtain ⟨m', hm, w'⟩ := hNx G nx
        have pin : ∀ b ∈ fp, ∀ o, z7.heap.get? b = some o → z.heap.get? b = some o ∧ G b = none := fun b hb o e =>
          let k := K.pin (b, o) (List.mem_append_right _ (List.mem_append_right _ (mem_pinsAt hb e)))
          ⟨k.1, k.2.1⟩
        refine ⟨m', hm, i + 1, G, (K.unpinned (pins := [])).weak hl hkk, T.keep _ _ _ st7 fun b hb o e => (pin b hb o e).1, fun b hb => ?_, w'⟩
        obtain ⟨o, e, _⟩ := T.obj _ _ st7 b hb
        exact (pin b hb o e).2
      have hl8 : (wipe σ (own.map (·.2))).length = σ8.length := by rw [← hw8, wipe_length]
      have hk8 : ∀ (j : Nat) v, (wipe σ (own.map (·.2)))[j]? = some (some v) → σ8[j]? = some (some v) := fun j v e => by
        rw [← hw8] at e
        exact (wipe_some e).1
      have hk9 : ∀ (j : Nat) v, (wipe σ (own.map (·.2)))[j]? = some (some v) → (wipe σ8 vj)[j]? = some (some v) := fun j v e => by
        rw [← hw8] at e
        obtain ⟨e1, e2⟩ := wipe_some e
        rw [wipe_out fun k => e2 (hv j k)]
        exact e1
      cases b with
      | false =>
        simp only [Bool.false_eq_true, if_false] at q9 ⊢
        exact fin I9 hl8 hk8 q9
      | true =>
        simp only [if_true] at q9 ⊢
        refine thnF (pj.run _ z9 σ8 H9 _ I9 q9) fun xv z10 hxv => thnF hxv fun itv z11 k11 => ?_
        obtain ⟨it1, fp1, tn1, J1, H11, e1, I11, T1, st11, f11, V, ⟨m1, w1⟩, turn1⟩ := k11
        subst e1
        have stat1 : ∀ {G : Hp}, (∀ b ∈ fp1, G b = none) → ∀ b ∈ fp1, FpOk (X.blk z3 H3 sc ce fp) ([] ++ pinsAt fp z7.heap) G b := fun hn b hb => ⟨hn b hb, (f11 b hb).2⟩
        have loop1 : codeAny (model X.prog X.w) X.A (.compLoop (E2 kx vx t0 i0 f0 t1 i1 f1 sc ps) 1 (.ref it1) (.ref D) ce)
            (fun r z => match r with
              | .ok _ => ∃ m, m < n ∧ ∃ i G, Inv (X.blk z3 H3 sc ce fp) [] (wipe σ (own.map (·.2))) G z ∧ tn i z.heap ∧ (∀ b ∈ fp, G b = none) ∧ W i m G
              | .error _ => False) z11 := by
          refine loopD_in (fun k z => ∃ j G, Inv (X.blk z3 H3 sc ce fp) ([] ++ pinsAt fp z7.heap) (wipe σ8 vj) G z ∧ tn1 j z.heap ∧ (∀ b ∈ fp1, G b = none) ∧ V j k G) ?_ m1 ⟨0, H11, I11.weak (wipe_length _ _) (fun j v e => (wipe_some e).1), st11, fun b hb => (f11 b hb).1, w1⟩
          rintro k z12 ⟨j, H12, I12, st12, n12, w12⟩
          rcases turn1 j k H12 w12 with ⟨stop1, nx1⟩ | ⟨go1, Ny, hNy, step1⟩
          · refine thnF (T1.done (X.blk z3 H3 sc ce fp) rfl rfl rfl hc j _ z12 (wipe σ8 vj) H12 (fun _ _ => False) I12 (stat1 n12) st12 stop1) fun r z13 ⟨hr, I13⟩ => ?_
            subst hr
            exact fin I13 (hl8.trans (wipe_length σ8 vj).symm) hk9 nx1
          · refine thnF (T1.item (X.blk z3 H3 sc ce fp) rfl rfl rfl hc j _ z12 (wipe σ8 vj) H12 (fun _ _ => False) I12 (stat1 n12) st12 go1) fun r z13 ⟨u1, hr, k13⟩ => ?_
            subst hr
            refine thnF k13 fun _ z14 ⟨x1, H14, I14, r14, y14, st14, n14⟩ => ?_
            have I14' := I14.pinned (stat1 n14) (T1.obj _ _ st14)
            refine thnF (pgj.run _ z14 (wipe σ8 vj) H14 x1 u1 _ I14' r14 (step1 x1 H14 y14)) fun _ z15 ⟨σ15, H15, I15, hw15, q15⟩ => ?_
            refine thnF (ptj.run _ z15 σ15 H15 _ I15 q15) fun b1 z16 ⟨H16, I16, q16⟩ => ?_
            have fin1 : ∀ {z : Shared} {G : Hp}, Inv (X.blk z3 H3 sc ce fp) (([] ++ pinsAt fp z7.heap) ++ pinsAt fp1 z14.heap) σ15 G z → Ny G → ∃ m, m < k ∧ ∃ j G, Inv (X.blk z3 H3 sc ce fp) ([] ++ pinsAt fp z7.heap) (wipe σ8 vj) G z ∧ tn1 j z.heap ∧ (∀ b ∈ fp1, G b = none) ∧ V j m G := fun {z G} K nx => by
              obtain ⟨m', hm, w'⟩ := hNy G nx
              have pin : ∀ b ∈ fp1, ∀ o, z14.heap.get? b = some o → z.heap.get? b = some o ∧ G b = none := fun b hb o e =>
                let k := K.pin (b, o) (List.mem_append_right _ (List.mem_append_right _ (mem_pinsAt hb e)))
                ⟨k.1, k.2.1⟩
              refine ⟨m', hm, j + 1, G, K.unpinned.weak (by rw [← hw15, wipe_length]) (fun j v e => by rw [← hw15] at e; exact (wipe_some e).1), T1.keep _ _ _ st14 fun b hb o e => (pin b hb o e).1, fun b hb => ?_, w'⟩
              obtain ⟨o, e, _⟩ := T1.obj _ _ st14 b hb
              exact (pin b hb o e).2
            cases b1 with
            | false =>
              simp only [Bool.false_eq_true, if_false] at q16 ⊢
              exact fin1 I16 q16
            | true =>
              simp only [if_true] at q16 ⊢
              refine thnF (pk.run _ z16 σ15 H16 _ I16 q16) fun zk z17 ⟨yk, H17, I17, r17, q17⟩ => ?_
              refine thnF (px.run _ z17 σ15 H17 _ I17 q17) fun zv z18 ⟨yv, H18, I18, r18, kvs, kk, ek, hD18, len18, nx⟩ => ?_
              subst ek
              exact d_dictSet (X := X.blk z3 H3 sc ce fp) I18 hD18 len18 r17 r18 fun z19 I19 => fin1 I19 nx
        exact startD loop1 (T1.self X.A 0 _ _ _ st11 loop1)
  exact codeAny_compStart_dict loop (T.self X.A 0 _ _ _ st4 loop)
theorem pe_dc2 {kx vx t0 i0 t1 i1 : Expr} {f0 f1 : List Expr} {sc : Scope} {own : List (Str × Nat)} {vj : List Nat} {ps : Pos} {wi wj : TI} {g gj : TG} {tt tj : TT} {tk tv : TE} (hc : X.calm = true) (hN : X.N.Nodup) (hi : PI X t0 i0 wi) (ok : BlkOk X.N X.env.scope sc own) (hv : ∀ i ∈ vj, i ∈ own.map (·.2))
    (hg : InBlk X sc fun Y => PG Y t0 g) (ht : InBlk X sc fun Y => PTs Y f0 tt) (hj : InBlk X sc fun Y => PI Y t1 i1 wj) (hgj : InBlk X sc fun Y => PG Y t1 gj) (htj : InBlk X sc fun Y => PTs Y f1 tj) (hk : InBlk X sc fun Y => PE Y kx tk) (hx : InBlk X sc fun Y => PE Y vx tv)
    (hs : ∀ x, foldedSetIterable i0 X.env x = pure x := by intro _; rfl) (hs1 : ∀ env x, foldedSetIterable i1 env x = pure x := by intro _ _; rfl) :
    PE X (E2 kx vx t0 i0 f0 t1 i1 f1 sc ps) (tDc2 wi g tt wj gj tj tk tv (own.map (·.2)) vj) := by
  refine ⟨fun pins s σ H Q I h => ?_⟩
  rw [arm_eval_DictComp]
  refine coreD hc hN I hi ok hv hg ht hj hgj htj hk hx hs hs1 h fun D C z m G K q hn f => ⟨m, hn, fun h2 sb => ?_⟩
  obtain ⟨a0, a1, a2, a3, a4, a5⟩ := f
  exact ⟨.ref D, G, K.turned (t' := z.toks) (fun b o hb e => (sb.2 b hb).trans e) a0 a1 a3 a4 a5, rfl, q⟩
end
end Vk
set_option maxHeartbeats 4000000
/-! xs.remove(text) -/
namespace Vk
open PySem PySem.Spec PyProof.Rows L2
def eqT (x : Str) (v : Value) : Bool := match v with
  | .str y _ => y.cps.toList == x.cps.toList
  | _ => false
theorem cps_inj {x y : Str} (h : x.cps.toList = y.cps.toList) : x = y := by
  obtain ⟨a⟩ := x
  obtain ⟨b⟩ := y
  have z : a = b := Array.toList_inj.mp h
  rw [z]
theorem relS {x : Str} {u : Value} (h : RelV (.str x) u) : ∃ t, u = .str x t := h
theorem valsS : ∀ {us : List Value} {xs : List Str}, Vals (xs.map V.str) us → (∀ y ∈ us, ∃ z t, y = .str z t) ∧ ∀ (i : Nat) (h : i < us.length), ∃ t z, xs[i]? = some z ∧ us[i] = .str z t
  | us, [], h => by
    cases h
    exact ⟨fun y hy => absurd hy (by simp), fun i hi => absurd hi (by simp)⟩
  | us, x :: xs, h => by
    obtain _ | ⟨r, t⟩ := h
    obtain ⟨tk, rfl⟩ := relS r
    obtain ⟨h1, h2⟩ := valsS t
    refine ⟨fun y hy => ?_, fun i hi => ?_⟩
    · rcases List.mem_cons.mp hy with rfl | hy
      · exact ⟨x, tk, rfl⟩
      · exact h1 y hy
    · cases i with
      | zero => exact ⟨tk, x, rfl, rfl⟩
      | succ i => exact h2 i (Nat.lt_of_succ_lt_succ hi)
theorem erase_at : ∀ {xs : List Str} {x : Str}, x ∈ xs → ∃ j, j < xs.length ∧ xs[j]? = some x ∧ (∀ m, m < j → xs[m]? ≠ some x) ∧ xs.eraseIdx j = xs.erase x
  | [], x, h => absurd h (by simp)
  | y :: r, x, h => by
    by_cases e : y = x
    · subst e
      exact ⟨0, Nat.succ_pos _, rfl, fun m hm => absurd hm (Nat.not_lt_zero m), by rw [List.erase_cons_head]; rfl⟩
    · have h2 : x ∈ r := by
        rcases List.mem_cons.mp h with z | z
        · exact absurd z.symm e
        · exact z
      obtain ⟨j, a1, a2, a3, a4⟩ := erase_at h2
      refine ⟨j + 1, Nat.succ_lt_succ a1, a2, fun m hm => ?_, ?_⟩
      · cases m with
        | zero => exact fun z => e (Option.some.inj z)
        | succ m => exact a3 m (Nat.lt_of_succ_lt_succ hm)
      · rw [List.erase_cons_tail (by simpa using e), ← a4]
        rfl
theorem map_ix : ∀ (l : List Str) (j : Nat), (l.map V.str).eraseIdx j = (l.eraseIdx j).map V.str
  | [], _ => rfl
  | _ :: _, 0 => rfl
  | x :: r, j + 1 => by
    show V.str x :: (r.map V.str).eraseIdx j = V.str x :: (r.eraseIdx j).map V.str
    rw [map_ix r j]
section
variable {X : Cx}
def rRemS : V → List V → Hp → VK → Prop := fun x xs H Q => ∃ (l : Addr) (ns : List Str) (k : Str), x = .ref l ∧ xs = [.str k] ∧ H l = some (.lst (ns.map V.str)) ∧ k ∈ ns ∧ Q .non (upd H l (.lst ((ns.erase k).map V.str)))
theorem mt_removeS : MtM X "list.remove" rRemS := by
  intro pins s σ H x xs v us Q I rx rxs h
  obtain ⟨l, ns, k, rfl, rfl, hH, hk, q⟩ := h
  cases rx
  obtain ⟨u, rfl, ru⟩ := rxs.one
  obtain ⟨t, rfl⟩ := relS ru
  obtain ⟨z, its, n, r, hl, e⟩ := I.lstM hH
  obtain ⟨all1, at1⟩ := valsS r
  have rl := r.length
  rw [List.length_map] at rl hl z
  obtain ⟨j, j1, j2, j3, j4⟩ := erase_at hk
  have hjl : j < its.toArray.size := by rw [List.size_toArray]; omega
  refine call_meets PySem.F.slot_list_remove ⟨_, e, rfl⟩ PySem.F.entry_list_remove (PySem.F.args_list_remove_2 _ _)
    (MeetsSeq.list_remove l its.toArray n (.str k t) (eqT k) (fun y hy => ?_) j hjl ?_ ?_ (by rw [List.size_toArray]; omega)) ⟨e, ?_⟩
  · obtain ⟨y', t', rfl⟩ := all1 y (by simpa using hy)
    exact PySem.SeqRoads2.EqGives.str y' k t' t
  · obtain ⟨t', y', h1, h2⟩ := at1 j (by omega)
    rw [j2] at h1
    cases h1
    have e1 : its.toArray[j] = .str k t' := by simpa using h2
    rw [e1]
    exact beq_self_eq_true _
  · intro m hm hmj
    obtain ⟨t', y', h1, h2⟩ := at1 m (by rw [List.size_toArray] at hm; exact hm)
    have e1 : its.toArray[m] = .str y' t' := by simpa using h2
    rw [e1]
    exact beq_eq_false_iff_ne.mpr fun e2 => j3 m hmj (by rw [h1, cps_inj e2])
  · have rr := r.eraseIdx j
    have em : (ns.map V.str).eraseIdx j = (ns.erase k).map V.str := by
      rw [← j4, map_ix]
    rw [em] at rr
    refine ⟨.non, _, I.lset (its' := its.eraseIdx j) (t' := s.toks) hH e ?_ rr ?_, rfl, q⟩
    · show its.toArray.eraseIdxIfInBounds j = (its.eraseIdx j).toArray
      rw [List.eraseIdxIfInBounds_toArray]
    · rw [List.length_map]
      have := List.length_erase_le (a := k) (l := ns)
      omega
end
end Vk
set_option maxHeartbeats 4000000
/-! xs == [], t != () -/
namespace Vk
open PySem PySem.Spec PyProof.Rows L2
def rEqNilL (K : PySem.W.Frag) : R2 := fun x y H Q => ∃ p q xs, x = .ref p ∧ y = .ref q ∧ SqL K H p xs ∧ SqL K H q [] ∧ Q (.bl xs.isEmpty) H
def rNeNilL (K : PySem.W.Frag) : R2 := fun x y H Q => ∃ p q xs, x = .ref p ∧ y = .ref q ∧ SqL K H p xs ∧ SqL K H q [] ∧ Q (.bl (!xs.isEmpty)) H
def rNeNilT (K : PySem.W.Frag) : R2 := fun x y H Q => ∃ p q xs, x = .ref p ∧ y = .ref q ∧ SqT K H p xs ∧ SqT K H q [] ∧ Q (.bl (!xs.isEmpty)) H
section
variable {X : Cx}
theorem op_eqNilL (hu : X.A.units < cLine) : OpR X (compareOp .Eq) (rEqNilL X.K) := by
  intro pins s σ H x y v u Q I rx ry h
  obtain ⟨p, q, xs, rfl, rfl, hp, hq, k⟩ := h
  cases rx
  cases ry
  obtain ⟨is1, r1, p1, _⟩ := I.list hp
  obtain ⟨is2, r2, p2, _⟩ := I.list hq
  cases r2
  have l1 := r1.length
  cases xs with
  | nil =>
    cases r1
    exact SeqAt.eq_listAt (e := fun _ => true) p1.isList p2.isList rfl hu (fun j h1 _ => absurd h1 (Nat.not_lt_zero _)) ⟨.bl true, H, I, rfl, k⟩
  | cons x r =>
    cases r1
    exact SeqAt.eq_list_lengthsAt p1.isList p2.isList (by simp) hu ⟨.bl false, H, I, rfl, k⟩
theorem op_neNilL (hu : X.A.units < cLine) : OpR X (compareOp .NotEq) (rNeNilL X.K) := by
  intro pins s σ H x y v u Q I rx ry h
  obtain ⟨p, q, xs, rfl, rfl, hp, hq, k⟩ := h
  cases rx
  cases ry
  obtain ⟨is1, r1, p1, _⟩ := I.list hp
  obtain ⟨is2, r2, p2, _⟩ := I.list hq
  cases r2
  have l1 := r1.length
  cases xs with
  | nil =>
    cases r1
    exact SeqAt.RcNeAt.lists (e := fun _ => true) p1.isList p2.isList rfl hu (fun j h1 _ => absurd h1 (Nat.not_lt_zero _)) _ _ _ _ ⟨.bl false, H, I, rfl, k⟩
  | cons x r =>
    cases r1
    exact SeqAt.RcNeAt.lists_lengths p1.isList p2.isList (by simp) hu _ _ _ _ ⟨.bl true, H, I, rfl, k⟩
theorem op_neNilT (hu : X.A.units < cLine) : OpR X (compareOp .NotEq) (rNeNilT X.K) := by
  intro pins s σ H x y v u Q I rx ry h
  obtain ⟨p, q, xs, rfl, rfl, hp, hq, k⟩ := h
  cases rx
  cases ry
  obtain ⟨is1, r1, p1, _⟩ := I.tuple hp
  obtain ⟨is2, r2, p2, _⟩ := I.tuple hq
  cases r2
  have l1 := r1.length
  have z : (!((List.range (min is1.toArray.size ([] : List Value).toArray.size)).all (fun _ => true) && is1.toArray.size == ([] : List Value).toArray.size)) = !xs.isEmpty := by
    cases xs with
    | nil =>
      cases r1
      rfl
    | cons x r =>
      cases r1
      simp
  refine SeqAt.RcNeAt.tuples (e := fun _ => true) p1 p2 hu (fun j _ h2 => absurd h2 (Nat.not_lt_zero _)) _ _ _ _ ?_
  rw [z]
  exact ⟨.bl (!xs.isEmpty), H, I, rfl, k⟩
end
end Vk
set_option maxHeartbeats 4000000
/-! walks of comprehensions of two clauses, of dict comprehensions -/
namespace Vk
open PySem PySem.Spec PyProof.Rows L2
section
variable {J : It} {n : Nat} {G : Hp → Prop} {Y : Nat → Hp → V → Hp → Prop}
/-- the first clause: Pv by its turn -/
theorem lc2_it (w : Walk J n G Y) {g g1 : TG} {tt tt1 : TT} {wi1 : TI} {te : TE} {vs vs1 : List Nat} {σ : L2.St} {H1 : Hp} {D : Addr} {Qd : Hp → Prop} (Pv : Nat → Hp → Prop) (h0 : Pv 0 (upd H1 D (.lst []))) (hG : ∀ i H, i ≤ n → Pv i H → G H)
    (hs : ∀ i x H H', i < n → Pv i H → Y i H x H' → g x (wipe σ vs) H' fun σ2 H2 => wipe σ2 vs = wipe σ vs ∧ tt σ2 H2 fun b H3 =>
      if b = true then wi1 σ2 H3 fun J1 H4 => ∃ W1 : Nat → Nat → Hp → Prop, (∃ m, W1 0 m H4) ∧ ∀ j k H, W1 j k H →
        (J1.stop j H ∧ Pv (i + 1) H) ∨ (J1.go j H ∧ ∃ Nx1 : Hp → Prop, (∀ H', Nx1 H' → ∃ k', k' < k ∧ W1 (j + 1) k' H') ∧ ∀ x H', J1.yld j H x H' → g1 x (wipe σ2 vs1) H' fun σ3 H5 => wipe σ3 vs1 = wipe σ2 vs1 ∧ tt1 σ3 H5 fun b H6 =>
          if b = true then te σ3 H6 fun y H7 => ∃ acc, H7 D = some (.lst acc) ∧ acc.length < sizeLine ∧ Nx1 (upd H7 D (.lst (acc ++ [y]))) else Nx1 H6)
      else Pv (i + 1) H3) (hd : ∀ H, Pv n H → Qd H) :
    ∃ W : Nat → Nat → Hp → Prop, (∃ m, W 0 m (upd H1 D (.lst []))) ∧ ∀ i m H, W i m H →
      (J.stop i H ∧ Qd H) ∨ (J.go i H ∧ ∃ Nx : Hp → Prop, (∀ H', Nx H' → ∃ m', m' < m ∧ W (i + 1) m' H') ∧ ∀ x H', J.yld i H x H' → g x (wipe σ vs) H' fun σ2 H2 => wipe σ2 vs = wipe σ vs ∧ tt σ2 H2 fun b H3 =>
        if b = true then wi1 σ2 H3 fun J1 H4 => ∃ W1 : Nat → Nat → Hp → Prop, (∃ m, W1 0 m H4) ∧ ∀ j k H, W1 j k H →
          (J1.stop j H ∧ Nx H) ∨ (J1.go j H ∧ ∃ Nx1 : Hp → Prop, (∀ H', Nx1 H' → ∃ k', k' < k ∧ W1 (j + 1) k' H') ∧ ∀ x H', J1.yld j H x H' → g1 x (wipe σ2 vs1) H' fun σ3 H5 => wipe σ3 vs1 = wipe σ2 vs1 ∧ tt1 σ3 H5 fun b H6 =>
            if b = true then te σ3 H6 fun y H7 => ∃ acc, H7 D = some (.lst acc) ∧ acc.length < sizeLine ∧ Nx1 (upd H7 D (.lst (acc ++ [y]))) else Nx1 H6)
        else Nx H3) := by
  refine ⟨fun i m H => m = n - i ∧ i ≤ n ∧ Pv i H, ⟨n, by simp, Nat.zero_le _, h0⟩, ?_⟩
  rintro i m H ⟨rfl, hi, p⟩
  have q := hG i H hi p
  by_cases lt : i < n
  · exact .inr ⟨w.goes i H lt q, Pv (i + 1), fun H' p' => ⟨n - (i + 1), by omega, rfl, lt, p'⟩, fun x H' y => hs i x H H' lt p (w.yields i H x H' lt q y)⟩
  · have e : i = n := by omega
    subst e
    exact .inl ⟨w.stops H q, hd H p⟩
/-- the second clause of a list comprehension -/
theorem in_it (w : Walk J n G Y) {g : TG} {tt : TT} {te : TE} {vs : List Nat} {σ : L2.St} {H1 : Hp} {D : Addr} {Qd : Hp → Prop} (Pv : Nat → Hp → Prop) (h0 : Pv 0 H1) (hG : ∀ i H, i ≤ n → Pv i H → G H)
    (hs : ∀ i x H H', i < n → Pv i H → Y i H x H' → g x (wipe σ vs) H' fun σ2 H2 => wipe σ2 vs = wipe σ vs ∧ tt σ2 H2 fun b H3 =>
      if b = true then te σ2 H3 fun y H4 => ∃ acc, H4 D = some (.lst acc) ∧ acc.length < sizeLine ∧ Pv (i + 1) (upd H4 D (.lst (acc ++ [y]))) else Pv (i + 1) H3) (hd : ∀ H, Pv n H → Qd H) :
    ∃ W : Nat → Nat → Hp → Prop, (∃ m, W 0 m H1) ∧ ∀ i m H, W i m H →
      (J.stop i H ∧ Qd H) ∨ (J.go i H ∧ ∃ Nx : Hp → Prop, (∀ H', Nx H' → ∃ m', m' < m ∧ W (i + 1) m' H') ∧ ∀ x H', J.yld i H x H' → g x (wipe σ vs) H' fun σ2 H2 => wipe σ2 vs = wipe σ vs ∧ tt σ2 H2 fun b H3 =>
        if b = true then te σ2 H3 fun y H4 => ∃ acc, H4 D = some (.lst acc) ∧ acc.length < sizeLine ∧ Nx (upd H4 D (.lst (acc ++ [y]))) else Nx H3) := by
  refine ⟨fun i m H => m = n - i ∧ i ≤ n ∧ Pv i H, ⟨n, by simp, Nat.zero_le _, h0⟩, ?_⟩
  rintro i m H ⟨rfl, hi, p⟩
  have q := hG i H hi p
  by_cases lt : i < n
  · exact .inr ⟨w.goes i H lt q, Pv (i + 1), fun H' p' => ⟨n - (i + 1), by omega, rfl, lt, p'⟩, fun x H' y => hs i x H H' lt p (w.yields i H x H' lt q y)⟩
  · have e : i = n := by omega
    subst e
    exact .inl ⟨w.stops H q, hd H p⟩
/-- a dict comprehension, one clause -/
theorem dc_it (w : Walk J n G Y) {g : TG} {tt : TT} {tk tv : TE} {vs : List Nat} {σ : L2.St} {H1 : Hp} {D : Addr} {Qd : Hp → Prop} (Pv : Nat → Hp → Prop) (h0 : Pv 0 H1) (hG : ∀ i H, i ≤ n → Pv i H → G H)
    (hs : ∀ i x H H', i < n → Pv i H → Y i H x H' → g x (wipe σ vs) H' fun σ2 H2 => wipe σ2 vs = wipe σ vs ∧ tt σ2 H2 fun b H3 =>
      if b = true then tk σ2 H3 fun y H4 => tv σ2 H4 fun z H5 => ∃ kvs k, y = kV k ∧ H5 D = some (.dK kvs) ∧ kvs.length < sizeLine ∧ Pv (i + 1) (upd H5 D (.dK (putK kvs k z))) else Pv (i + 1) H3) (hd : ∀ H, Pv n H → Qd H) :
    ∃ W : Nat → Nat → Hp → Prop, (∃ m, W 0 m H1) ∧ ∀ i m H, W i m H →
      (J.stop i H ∧ Qd H) ∨ (J.go i H ∧ ∃ Nx : Hp → Prop, (∀ H', Nx H' → ∃ m', m' < m ∧ W (i + 1) m' H') ∧ ∀ x H', J.yld i H x H' → g x (wipe σ vs) H' fun σ2 H2 => wipe σ2 vs = wipe σ vs ∧ tt σ2 H2 fun b H3 =>
        if b = true then tk σ2 H3 fun y H4 => tv σ2 H4 fun z H5 => ∃ kvs k, y = kV k ∧ H5 D = some (.dK kvs) ∧ kvs.length < sizeLine ∧ Nx (upd H5 D (.dK (putK kvs k z))) else Nx H3) := by
  refine ⟨fun i m H => m = n - i ∧ i ≤ n ∧ Pv i H, ⟨n, by simp, Nat.zero_le _, h0⟩, ?_⟩
  rintro i m H ⟨rfl, hi, p⟩
  have q := hG i H hi p
  by_cases lt : i < n
  · exact .inr ⟨w.goes i H lt q, Pv (i + 1), fun H' p' => ⟨n - (i + 1), by omega, rfl, lt, p'⟩, fun x H' y => hs i x H H' lt p (w.yields i H x H' lt q y)⟩
  · have e : i = n := by omega
    subst e
    exact .inl ⟨w.stops H q, hd H p⟩
/-- .. two clauses, the first -/
theorem dc2_it (w : Walk J n G Y) {g g1 : TG} {tt tt1 : TT} {wi1 : TI} {tk tv : TE} {vs vs1 : List Nat} {σ : L2.St} {H1 : Hp} {D : Addr} {Qd : Hp → Prop} (Pv : Nat → Hp → Prop) (h0 : Pv 0 H1) (hG : ∀ i H, i ≤ n → Pv i H → G H)
    (hs : ∀ i x H H', i < n → Pv i H → Y i H x H' → g x (wipe σ vs) H' fun σ2 H2 => wipe σ2 vs = wipe σ vs ∧ tt σ2 H2 fun b H3 =>
      if b = true then wi1 σ2 H3 fun J1 H4 => ∃ V : Nat → Nat → Hp → Prop, (∃ m, V 0 m H4) ∧ ∀ j k H, V j k H →
        (J1.stop j H ∧ Pv (i + 1) H) ∨ (J1.go j H ∧ ∃ Ny : Hp → Prop, (∀ G, Ny G → ∃ k', k' < k ∧ V (j + 1) k' G) ∧ ∀ x G, J1.yld j H x G → g1 x (wipe σ2 vs1) G fun σ3 H5 => wipe σ3 vs1 = wipe σ2 vs1 ∧ tt1 σ3 H5 fun b H6 =>
          if b = true then tk σ3 H6 fun y H7 => tv σ3 H7 fun z H8 => ∃ kvs k, y = kV k ∧ H8 D = some (.dK kvs) ∧ kvs.length < sizeLine ∧ Ny (upd H8 D (.dK (putK kvs k z))) else Ny H6)
      else Pv (i + 1) H3) (hd : ∀ H, Pv n H → Qd H) :
    ∃ W : Nat → Nat → Hp → Prop, (∃ m, W 0 m H1) ∧ ∀ i m H, W i m H →
      (J.stop i H ∧ Qd H) ∨ (J.go i H ∧ ∃ Nx : Hp → Prop, (∀ G, Nx G → ∃ m', m' < m ∧ W (i + 1) m' G) ∧ ∀ x G, J.yld i H x G → g x (wipe σ vs) G fun σ2 H2 => wipe σ2 vs = wipe σ vs ∧ tt σ2 H2 fun b H3 =>
        if b = true then wi1 σ2 H3 fun J1 H4 => ∃ V : Nat → Nat → Hp → Prop, (∃ m, V 0 m H4) ∧ ∀ j k H, V j k H →
          (J1.stop j H ∧ Nx H) ∨ (J1.go j H ∧ ∃ Ny : Hp → Prop, (∀ G, Ny G → ∃ k', k' < k ∧ V (j + 1) k' G) ∧ ∀ x G, J1.yld j H x G → g1 x (wipe σ2 vs1) G fun σ3 H5 => wipe σ3 vs1 = wipe σ2 vs1 ∧ tt1 σ3 H5 fun b H6 =>
            if b = true then tk σ3 H6 fun y H7 => tv σ3 H7 fun z H8 => ∃ kvs k, y = kV k ∧ H8 D = some (.dK kvs) ∧ kvs.length < sizeLine ∧ Ny (upd H8 D (.dK (putK kvs k z))) else Ny H6)
        else Nx H3) := by
  refine ⟨fun i m H => m = n - i ∧ i ≤ n ∧ Pv i H, ⟨n, by simp, Nat.zero_le _, h0⟩, ?_⟩
  rintro i m H ⟨rfl, hi, p⟩
  have q := hG i H hi p
  by_cases lt : i < n
  · exact .inr ⟨w.goes i H lt q, Pv (i + 1), fun H' p' => ⟨n - (i + 1), by omega, rfl, lt, p'⟩, fun x H' y => hs i x H H' lt p (w.yields i H x H' lt q y)⟩
  · have e : i = n := by omega
    subst e
    exact .inl ⟨w.stops H q, hd H p⟩
end
/-- a board's class -/
structure BdC (K : PySem.W.Frag) (C : Addr) : Prop where
  cl : Cls K C
  nR : NoAttr K C "rule"
  nP : NoAttr K C "processors"
  nN : NoAttr K C "now"
  nL : NoAttr K C "lines"
  nU : NoAttr K C "used"
  nA : NoAttr K C "ran"
  nF : NoAttr K C "finishes"
/-- what a board keeps to, its finishes aside -/
structure Bd.Ok0 (s : Bd) : Prop where
  small : s.ran.length ≤ 1000
  ndr : (s.ran.map (·.1)).Nodup
  ndu : (s.used.map (·.1)).Nodup
  ndo : s.order.Nodup
  sub : ∀ x ∈ s.order, x ∈ s.ran.map (·.1)
  here : ∀ x, x ∈ s.used.map (·.1) ↔ x ∈ s.order
  lines1 : 1 ≤ s.lines.length
  lines6 : s.lines.length ≤ 6
structure Bd.Ok (s : Bd) : Prop extends Bd.Ok0 s where
  flen : s.fins.length ≤ 100000
  fst : ∀ f ∈ s.fins, f.2.1.length ≤ 1000 ∧ f.2.2.length ≤ 1000 ∧ ∀ x ∈ f.2.2, x ∈ s.ran.map (·.1)
  ndf : (s.fins.flatMap fun f => f.2.2).Nodup
  gone : ∀ x ∈ s.fins.flatMap (fun f => f.2.2), x ∉ s.order
theorem nd_len {α : Type} [DecidableEq α] : ∀ {l m : List α}, l.Nodup → (∀ x ∈ l, x ∈ m) → l.length ≤ m.length
  | [], m, _, _ => Nat.zero_le _
  | a :: l, m, nd, h => by
    obtain ⟨h1, h2⟩ := List.nodup_cons.mp nd
    have am := h a (List.mem_cons_self ..)
    have ih := nd_len (m := m.erase a) h2 fun x hx => (List.mem_erase_of_ne (fun e => h1 (by rw [← e]; exact hx))).mpr (h x (List.mem_cons_of_mem _ hx))
    rw [List.length_erase_of_mem am] at ih
    have := List.length_pos_of_mem am
    rw [List.length_cons]
    omega
theorem Bd.Ok0.order_le {s : Bd} (h : s.Ok0) : s.order.length ≤ 1000 := by
  have z := nd_len h.ndo fun x hx => h.sub x hx
  rw [List.length_map] at z
  exact Nat.le_trans z h.small
theorem Bd.Ok0.used_le {s : Bd} (h : s.Ok0) : s.used.length ≤ 1000 := by
  have z := nd_len h.ndu fun x hx => (h.here x).mp hx
  rw [List.length_map] at z
  exact Nat.le_trans z h.order_le
theorem Bd.Ok0.line_le {s : Bd} (h : s.Ok0) {i : Nat} {ns : List Str} (e : s.lines[i]? = some ns) : ns.length ≤ 1000 := by
  have z : ns.Sublist s.order := List.sublist_flatten_of_mem (List.mem_of_getElem? e)
  exact Nat.le_trans z.length_le h.order_le
end Vk
set_option maxHeartbeats 8000000
/-! what a board is asked -/
namespace Vk
open PySem PySem.Spec PyProof.Rows L2
theorem off_newB {a : Addr} {H : Hp} {o : HO} (h : H a = none) : Same H (Off a (upd H a o)) := by
  have e : Off a (upd H a o) = H := by
    rw [off_upd]
    funext b
    by_cases z : b = a
    · rw [z, off_same, h]
    · rw [off_ne z]
  rw [e]
  exact Same.refl H
theorem all_flatS (l : List Str) : (l.map V.str).all flatV = true := List.all_eq_true.mpr fun z hz => by
  obtain ⟨y, _, rfl⟩ := List.mem_map.mp hz
  rfl
theorem inV_S (x : Str) (l : List Str) : inV (.str x) (l.map V.str) = decide (x ∈ l) := by
  unfold inV
  rw [List.any_map]
  induction l with
  | nil => rfl
  | cons y r ih =>
    rw [List.any_cons, ih]
    show ((y == x) || decide (x ∈ r)) = decide (x ∈ y :: r)
    by_cases e : y = x
    · simp [e]
    · simp [e, Ne.symm e]
def Bd.level (s : Bd) (x : Str) : Nat := s.lines.findIdx fun l => decide (x ∈ l)
section
variable {P : Program} {w : World} {K : PySem.W.Frag} {mg : Str → Option Value} {base : Heap} {CB : Addr}
def spOrder (K : PySem.W.Frag) (CB : Addr) : Sp := fun vs H Q _ => ∃ (b : Addr) (rv : V) (c : Int) (A : BdA) (s : Bd), vs = [.ref b] ∧ BdAt CB K H b rv c A s ∧ s.Ok0 ∧ ∀ (D : Addr) (H' : Hp), H D = none → Same H H' → H' D = some (.lst (s.order.map V.str)) → Q (.ref D) H'
theorem scOrder : FnScope ["self", "line", "name"] ["self"] (defScope sBdOrder) := ⟨rfl, rfl, rfl, by decide +kernel, rfl, by decide +kernel, by decide +kernel⟩
theorem ok_order (D : MDf K CB "order" "Board.order" sBdOrder ["self"]) (T : BdC K CB) : MCl P w K mg base CX0 1 CB "order" ["self"] (spOrder K CB) := by
  refine mcl0 D scOrder (fun vs H Q E h => ?_) (fun f cdv A outer s H vs Q E hr h => ?_)
  · obtain ⟨b, rv, c, A, s, rfl, _⟩ := h
    rfl
  · obtain ⟨b, rv, c, Ab, sb, rfl, B, ok, k⟩ := h
    refine ⟨_, pss_one (ps_ret (pe_lc2 (own := [("line", 1), ("name", 2)]) (vs1 := [2]) (g := gName 1) (tt := tYes) (wi1 := iList K (tVar 1)) (g1 := gName 2) (tt1 := tYes) (te := tVar 2) (by rfl) scOrder.nd (pi_list (pe_fld (pv 0) rfl))
        (blkOk_by (own := [("line", 1), ("name", 2)]) (N := ["self", "line", "name"]) (sc := defScope sBdOrder) (by decide +kernel)) (by decide) (fun _ _ _ _ _ => pg_name (i := 1) scOrder.nd rfl (Or.inl rfl)) (fun _ _ _ _ _ => pts_nil)
        (fun _ _ _ _ _ => pi_list (pv 1)) (fun _ _ _ _ _ => pg_name (i := 2) scOrder.nd rfl (Or.inl rfl)) (fun _ _ _ _ _ => pts_nil) (fun _ _ _ _ _ => pv 2))), ?_⟩
    refine ⟨_, rfl, b, CB, Ab.dx, _, _, rfl, B.ob, T.cl, T.nL, bf_lines, Ab.L, rfl, ⟨_, SqL.of B.lines⟩, fun D nD => ?_⟩
    have ole := ok.order_le
    refine lc2_it (walk_list (K := K) (a := Ab.L) (xs := Ab.ls.map V.ref)) (fun i Hc => Hc D = some (.lst ((sb.lines.take i).flatten.map V.str)) ∧ Same H (Off D Hc)) ⟨upd_same, off_newB nD⟩ (fun i Hc _ ⟨_, sc⟩ => SqL.of ((sc.trans (off_sub D Hc)).at B.lines)) ?_ ?_
    · rintro i y Hc0 Hc hi ⟨hD, sc⟩ ⟨rfl, hy⟩
      rw [List.getElem?_map] at hy
      obtain ⟨l, hl, rfl⟩ := Option.map_eq_some_iff.mp hy
      have li : i < sb.lines.length := by rw [← B.len]; exact (List.getElem?_eq_some_iff.mp hl).1
      have hns : sb.lines[i]? = some sb.lines[i] := List.getElem?_eq_getElem li
      generalize sb.lines[i] = ns at hns
      have hln := B.line i l ns hl hns
      have tk : (sb.lines.take (i + 1)).flatten = (sb.lines.take i).flatten ++ ns := by
        rw [List.take_add_one, hns, List.flatten_append]
        simp
      have tle : ((sb.lines.take (i + 1)).flatten).length ≤ 1000 := by
        have z := congrArg (fun l => l.flatten.length) (List.take_append_drop (i + 1) sb.lines)
        simp only [List.flatten_append, List.length_append] at z
        have o2 : sb.lines.flatten.length ≤ 1000 := ole
        omega
      rw [tk, List.length_append] at tle
      have sH := sc.trans (off_sub D Hc)
      refine ⟨rfl, _, rfl, l, rfl, ⟨_, SqL.of (sH.at hln)⟩, ?_⟩
      refine in_it (walk_list (K := K) (a := l) (xs := ns.map V.str)) (fun j Hd => Hd D = some (.lst (((sb.lines.take i).flatten ++ ns.take j).map V.str)) ∧ Same H (Off D Hd)) ⟨by rw [List.take_zero, List.append_nil]; exact hD, sc⟩ (fun j Hd _ ⟨_, sd⟩ => SqL.of ((sd.trans (off_sub D Hd)).at hln)) ?_ ?_
      · rintro j z Hd0 Hd hj ⟨hDd, sd⟩ ⟨rfl, hz⟩
        rw [List.getElem?_map] at hz
        obtain ⟨x, hx, rfl⟩ := Option.map_eq_some_iff.mp hz
        refine ⟨rfl, _, rfl, _, hDd, ?_, ?_, ?_⟩
        · rw [List.length_map, List.length_append, List.length_take]
          exact Nat.lt_of_le_of_lt (show (sb.lines.take i).flatten.length + min j ns.length ≤ 1000 by omega) (by decide)
        · rw [upd_same, List.take_add_one, hx]
          simp
        · rw [off_upd]
          exact sd
      · rintro Hd ⟨hDd, sd⟩
        rw [List.length_map, List.take_length] at hDd
        exact ⟨by rw [tk]; exact hDd, sd⟩
    · rintro Hc ⟨hD, sc⟩
      rw [List.length_map, B.len, List.take_length] at hD
      exact k D Hc nD (sc.trans (off_sub D Hc)) hD
def spRun (K : PySem.W.Frag) (CB : Addr) : Sp := fun vs H Q _ => ∃ (b : Addr) (rv : V) (c : Int) (A : BdA) (s : Bd), vs = [.ref b] ∧ BdAt CB K H b rv c A s ∧ s.Ok0 ∧ 0 ≤ c ∧ ∀ (D : Addr) (H' : Hp), H D = none → Same H H' → H' D = some (.tup ((s.run c).map V.str)) → Q (.ref D) H'
theorem scRunning : FnScope ["self"] ["self"] (defScope sBdRunning) := ⟨rfl, rfl, rfl, by decide +kernel, rfl, by decide +kernel, by decide +kernel⟩
theorem cut_take {xs : List V} {c : Int} (h : 0 ≤ c) : cutV xs none (some c) = xs.take c.toNat := by
  unfold cutV
  obtain ⟨n, rfl⟩ : ∃ n : Nat, c = (n : Int) := ⟨c.toNat, by omega⟩
  rw [HT.sIx_none, HT.sIx_nat, List.drop_zero, Nat.sub_zero, Int.toNat_natCast]
  by_cases z : n ≤ xs.length
  · rw [Nat.min_eq_left z]
  · rw [Nat.min_eq_right (by omega), List.take_of_length_le (Nat.le_refl _), List.take_of_length_le (by omega)]
theorem ok_running (D : MDf K CB "running" "Board.running" sBdRunning ["self"]) (T : BdC K CB) (mt : mg "tuple" = none) (OR : MCl P w K mg base CX0 1 CB "order" ["self"] (spOrder K CB)) : MCl P w K mg base CX0 2 CB "running" ["self"] (spRun K CB) := by
  refine mcl0 D scRunning (fun vs H Q E h => ?_) (fun f cdv A outer s H vs Q E hr h => ?_)
  · obtain ⟨b, rv, c, A, s, rfl, _⟩ := h
    rfl
  · obtain ⟨b, rv, c, Ab, sb, rfl, B, ok, c0, k⟩ := h
    obtain ⟨fO, fdO, MO, bO, FO⟩ := OR.ex
    refine ⟨_, pss_one (ps_ret (pe_callTy call_tuple_of (by rfl) mt (by decide +kernel) (pa_cons (pe_slice sl_list (pe_meth0 (pv 0) T.cl MO FO hr bO .nil pass0) po_none (po_some (pe_fld (pv 0) rfl))) pa_nil))), ?_⟩
    refine ⟨_, rfl, b, Ab.dx, _, rfl, B.ob, by kernel_rfl, b, rv, c, Ab, sb, rfl, B, ok, fun D H1 nD s1 hD => ?_⟩
    dsimp only [tNoPart]
    refine ⟨_, rfl, b, CB, Ab.dx, _, _, rfl, s1.at B.ob, T.cl, T.nP, bf_proc, _, rfl, D, _, rfl, SqL.of hD, fun q nq => ?_⟩
    rw [cut_take c0]
    have s2 := same_new (o := .lst ((sb.order.map V.str).take c.toNat)) nq
    refine ⟨q, _, rfl, .inl ⟨SqL.of upd_same, fun t nt => ?_⟩⟩
    have s3 := same_new (o := .tup ((sb.order.map V.str).take c.toNat)) nt
    refine k t _ ((s1.trans s2).free nt) ((s1.trans s2).trans s3) ?_
    rw [upd_same]
    unfold Bd.run
    rw [List.map_take]
def spLevelOf (K : PySem.W.Frag) (CB : Addr) : Sp := fun vs H Q _ => ∃ (b : Addr) (rv : V) (c : Int) (A : BdA) (s : Bd) (x : Str), vs = [.ref b, .str x] ∧ BdAt CB K H b rv c A s ∧ s.Ok0 ∧ x ∈ s.order ∧ ∀ H', Same H H' → Q (.int (s.level x : Nat)) H'
theorem scLevelOf : FnScope ["self", "name", "line"] ["self", "name"] (defScope sBdLevelOf) := ⟨rfl, rfl, rfl, by decide +kernel, rfl, by decide +kernel, by decide +kernel⟩
theorem ok_levelOf (D : MDf K CB "level_of" "Board.level_of" sBdLevelOf ["self", "name"]) (T : BdC K CB) : MCl P w K mg base CX0 1 CB "level_of" ["self", "name"] (spLevelOf K CB) := by
  refine mcl0 D scLevelOf (fun vs H Q E h => ?_) (fun f cdv A outer s H vs Q E hr h => ?_)
  · obtain ⟨b, rv, c, A, s, x, rfl, _⟩ := h
    rfl
  · obtain ⟨b, rv, c, Ab, sb, x, rfl, B, ok, xo, k⟩ := h
    refine ⟨_, pss_one (ps_ret (pe_bm PySem.F.plainAttrs_list PySem.F.slot_list_index PySem.F.type_list_index mt_index
        (pe_lc (own := [("line", 2)]) (g := gName 2) (tt := tYes) (te := tOp (rIn K false) (tVar 1) (tVar 2)) (by rfl) scLevelOf.nd (pi_list (pe_fld (pv 0) rfl))
          (blkOk_by (own := [("line", 2)]) (N := ["self", "name", "line"]) (sc := defScope sBdLevelOf) (by decide +kernel)) (fun _ _ _ _ _ => pg_name (i := 2) scLevelOf.nd rfl (Or.inl rfl)) (fun _ _ _ _ _ => pts_nil)
          (fun _ _ _ _ _ => pe_cmpR op_in_seq (pv 1) (pv 2) (by rfl))) (pa_cons pe_bl pa_nil))), ?_⟩
    refine ⟨_, rfl, b, CB, Ab.dx, _, _, rfl, B.ob, T.cl, T.nL, bf_lines, Ab.L, rfl, ⟨_, SqL.of B.lines⟩, fun D nD => ?_⟩
    refine lc_it (walk_list (K := K) (a := Ab.L) (xs := Ab.ls.map V.ref)) (fun i Hc => Hc D = some (.lst ((sb.lines.take i).map fun l => V.bl (decide (x ∈ l)))) ∧ Same H (Off D Hc)) ⟨upd_same, off_newB nD⟩ (fun i Hc _ ⟨_, sc⟩ => SqL.of ((sc.trans (off_sub D Hc)).at B.lines)) ?_ ?_
    · rintro i y Hc0 Hc hi ⟨hD, sc⟩ ⟨rfl, hy⟩
      rw [List.getElem?_map] at hy
      obtain ⟨l, hl, rfl⟩ := Option.map_eq_some_iff.mp hy
      have li : i < sb.lines.length := by rw [← B.len]; exact (List.getElem?_eq_some_iff.mp hl).1
      have hns : sb.lines[i]? = some sb.lines[i] := List.getElem?_eq_getElem li
      generalize sb.lines[i] = ns at hns
      have hln := (sc.trans (off_sub D Hc)).at (B.line i l ns hl hns)
      refine ⟨rfl, _, rfl, _, rfl, l, _, rfl, .inl (SqL.of hln), rfl, all_flatS ns, _, hD, ?_, ?_, by rw [off_upd]; exact sc⟩
      · have := ok.lines6
        rw [List.length_map, List.length_take]
        exact Nat.lt_of_le_of_lt (show min i sb.lines.length ≤ 1000 by omega) (by decide)
      · rw [upd_same, List.take_add_one, hns, List.map_append]
        show some (HO.lst (_ ++ [V.bl (if false = true then !inV (.str x) (ns.map V.str) else inV (.str x) (ns.map V.str))])) = _
        rw [if_neg Bool.false_ne_true, inV_S]
        rfl
    · rintro Hc ⟨hD, sc⟩
      rw [List.length_map, B.len, List.take_length] at hD
      have ex : ∃ l ∈ sb.lines, decide (x ∈ l) = true := by
        obtain ⟨l, hl, hx⟩ := List.mem_flatten.mp xo
        exact ⟨l, hl, decide_eq_true hx⟩
      have lt : sb.level x < sb.lines.length := List.findIdx_lt_length_of_exists ex
      refine ⟨.inl ⟨rfl, _, SqL.of hD⟩, D, _, .bl true, sb.level x, .bl true, rfl, rfl, SqL.of hD, rfl, ?_, ?_, rfl, fun m z hm hz => ?_, k Hc (sc.trans (off_sub D Hc))⟩
      · exact List.all_eq_true.mpr fun z hz => by
          obtain ⟨y, _, rfl⟩ := List.mem_map.mp hz
          rfl
      · rw [List.getElem?_map, List.getElem?_eq_getElem lt]
        show some (V.bl (decide (x ∈ sb.lines[sb.level x]))) = _
        have z : decide (x ∈ sb.lines[sb.level x]) = true := List.findIdx_getElem (p := fun l => decide (x ∈ l)) (xs := sb.lines) (w := lt)
        rw [z]
      · rw [List.getElem?_map] at hz
        obtain ⟨l, hl, rfl⟩ := Option.map_eq_some_iff.mp hz
        obtain ⟨h1, h2⟩ := List.getElem?_eq_some_iff.mp hl
        have z := List.not_of_lt_findIdx (p := fun l => decide (x ∈ l)) (xs := sb.lines) (i := m) hm
        rw [← h2]
        have z2 : decide (x ∈ sb.lines[m]) = false := by simpa using z
        rw [z2]
        rfl
end
end Vk
set_option maxHeartbeats 4000000
/-! what a board does, as mathematics -/
namespace Vk
open PySem PySem.Spec PyProof.Rows L2
def Rl.stackAt (r : Rl) (i : Nat) : Bool := (r.levels.getD i (false, none)).1
def Rl.quantAt (r : Rl) (i : Nat) : Option Int := (r.levels.getD i (false, none)).2
def Bd.enter (r : Rl) (s : Bd) (x : Str) (e : Nat) : Bd :=
  { s with lines := s.lines.set (min e (s.lines.length - 1)) (if r.stackAt (min e (s.lines.length - 1)) = true then x :: s.lines.getD (min e (s.lines.length - 1)) [] else s.lines.getD (min e (s.lines.length - 1)) [] ++ [x]),
           used := s.used ++ [(x, 0)], ran := s.ran ++ [(x, 0)] }
def Bd.tick1 (s : Bd) (d : Int) (x : Str) : Bd := { s with ran := addS s.ran x d, used := addS s.used x d }
def Bd.leave (s : Bd) (x : Str) : Bd := { s with lines := s.lines.set (s.level x) ((s.lines.getD (s.level x) []).erase x), used := dropS s.used x }
def Bd.out (s : Bd) (x : Str) : Bd := { s with lines := s.lines.set (s.level x) ((s.lines.getD (s.level x) []).erase x) }
def Bd.quanta1 (r : Rl) (s : Bd) (x : Str) : Bd :=
  if r.quantAt (s.level x) = some (getS s.used x) then
    { s with lines := (s.out x).lines.set (min (s.level x + 1) (s.lines.length - 1)) ((s.out x).lines.getD (min (s.level x + 1) (s.lines.length - 1)) [] ++ [x]), used := putS s.used x 0 }
  else s
def Bd.lift (s : Bd) : Bd := { s with lines := s.order :: List.replicate (s.lines.length - 1) [], used := s.used.map fun p => (p.1, 0) }
def Bd.mid (s : Bd) (c d : Int) (fin : List Str) : Bd :=
  let s1 : Bd := { (s.run c).foldl (fun t x => t.tick1 d x) { s with now := s.now + d } with now := s.now + d }
  if (s.run c).filter (fun x => decide (x ∈ fin)) = [] then s1 else { s1 with fins := s1.fins ++ [(s.now + d, s.run c, (s.run c).filter fun x => decide (x ∈ fin))] }
def Bd.endUnits (r : Rl) (c : Int) (s : Bd) (d : Int) (fin : List Str) : Bd :=
  let s4 := ((s.run c).filter fun x => decide (x ∉ (s.run c).filter fun x => decide (x ∈ fin))).foldl (Bd.quanta1 r) (((s.run c).filter fun x => decide (x ∈ fin)).foldl Bd.leave (s.mid c d fin))
  match r.boost with
  | some q => if s4.now.fmod q = 0 then s4.lift else s4
  | none => s4
/-! ### lists of lines -/
theorem flat_erase : ∀ {L : List (List Str)} {i : Nat} {l : List Str} {x : Str}, L[i]? = some l → x ∈ l → (x :: (L.set i (l.erase x)).flatten).Perm L.flatten
  | [], _, _, _, h, _ => by simp at h
  | a :: L, 0, l, x, h, hx => by
    cases (Option.some.inj h)
    show (x :: (a.erase x ++ L.flatten)).Perm (a ++ L.flatten)
    exact ((List.perm_cons_erase hx).symm).append_right L.flatten
  | a :: L, i + 1, l, x, h, hx => by
    have ih := flat_erase (L := L) (i := i) h hx
    show (x :: (a ++ (L.set i (l.erase x)).flatten)).Perm (a ++ L.flatten)
    exact (List.perm_middle.symm).trans (ih.append_left a)
theorem flat_add : ∀ {L : List (List Str)} {i : Nat} {l l' : List Str} {x : Str}, L[i]? = some l → l'.Perm (x :: l) → (L.set i l').flatten.Perm (x :: L.flatten)
  | [], _, _, _, _, h, _ => by simp at h
  | a :: L, 0, l, l', x, h, hp => by
    cases (Option.some.inj h)
    show (l' ++ L.flatten).Perm (x :: (a ++ L.flatten))
    exact hp.append_right L.flatten
  | a :: L, i + 1, l, l', x, h, hp => by
    have ih := flat_add (L := L) (i := i) h hp
    show (a ++ (L.set i l').flatten).Perm (x :: (a ++ L.flatten))
    exact (ih.append_left a).trans List.perm_middle
theorem getD_at {L : List (List Str)} {i : Nat} {l : List Str} (h : L[i]? = some l) : L.getD i [] = l := by
  rw [List.getD_eq_getElem?_getD, h]
  rfl
/-- the line in which a present job stands -/
theorem Bd.level_at {s : Bd} {x : Str} (h : x ∈ s.order) : ∃ l, s.lines[s.level x]? = some l ∧ x ∈ l := by
  have ex : ∃ l ∈ s.lines, decide (x ∈ l) = true := by
    obtain ⟨l, hl, hx⟩ := List.mem_flatten.mp h
    exact ⟨l, hl, decide_eq_true hx⟩
  have lt : s.level x < s.lines.length := List.findIdx_lt_length_of_exists ex
  have z : decide (x ∈ s.lines[s.level x]) = true := List.findIdx_getElem (p := fun l => decide (x ∈ l)) (xs := s.lines) (w := lt)
  exact ⟨_, List.getElem?_eq_getElem lt, of_decide_eq_true z⟩
theorem Bd.Ok0.perm {s t : Bd} (h : s.Ok0) (ho : t.order.Perm s.order) (hl : t.lines.length = s.lines.length) (hu : t.used.map (·.1) = s.used.map (·.1)) (hr : t.ran.map (·.1) = s.ran.map (·.1)) : t.Ok0 := by
  have lr : t.ran.length = s.ran.length := by
    have z := congrArg List.length hr
    rwa [List.length_map, List.length_map] at z
  exact ⟨by rw [lr]; exact h.small, by rw [hr]; exact h.ndr, by rw [hu]; exact h.ndu, ho.nodup_iff.mpr h.ndo, fun x hx => by rw [hr]; exact h.sub x (ho.mem_iff.mp hx), fun x => by rw [hu, h.here x, ho.mem_iff], by rw [hl]; exact h.lines1, by rw [hl]; exact h.lines6⟩
theorem Bd.Ok0.tick1 {s : Bd} (h : s.Ok0) (d : Int) (x : Str) : (s.tick1 d x).Ok0 := h.perm (List.Perm.refl _) rfl (addS_keys _ _ _) (addS_keys _ _ _)
theorem Bd.out_order {s : Bd} {x : Str} (h : x ∈ s.order) : (x :: (s.out x).order).Perm s.order := by
  obtain ⟨l, hl, hx⟩ := Bd.level_at h
  show (x :: (s.lines.set (s.level x) ((s.lines.getD (s.level x) []).erase x)).flatten).Perm s.lines.flatten
  rw [getD_at hl]
  exact flat_erase hl hx
theorem dropS_keys (l : List (Str × Int)) (x : Str) : (dropS l x).map (·.1) = (l.map (·.1)).filter fun y => decide (y ≠ x) := by
  unfold dropS
  rw [List.filter_map]
  rfl
theorem Bd.Ok0.leave {s : Bd} (h : s.Ok0) {x : Str} (hx : x ∈ s.order) : (s.leave x).Ok0 := by
  have p : (x :: (s.leave x).order).Perm s.order := Bd.out_order hx
  have nd := p.nodup_iff.mpr h.ndo
  obtain ⟨nx, nd2⟩ := List.nodup_cons.mp nd
  refine ⟨h.small, h.ndr, ?_, nd2, fun y hy => h.sub y (p.mem_iff.mp (List.mem_cons_of_mem _ hy)), fun y => ?_, ?_, ?_⟩
  · show ((dropS s.used x).map (·.1)).Nodup
    rw [dropS_keys]
    exact h.ndu.filter _
  · show y ∈ (dropS s.used x).map (·.1) ↔ _
    rw [dropS_keys, List.mem_filter, h.here y, ← p.mem_iff, List.mem_cons, decide_eq_true_iff]
    constructor
    · rintro ⟨e | m, ne⟩
      · exact absurd e ne
      · exact m
    · intro m
      exact ⟨.inr m, fun e => by subst e; exact nx m⟩
  · show 1 ≤ (s.lines.set _ _).length
    rw [List.length_set]
    exact h.lines1
  · show (s.lines.set _ _).length ≤ 6
    rw [List.length_set]
    exact h.lines6
theorem Bd.quanta_order {r : Rl} {s : Bd} (h1 : 1 ≤ s.lines.length) {x : Str} (hx : x ∈ s.order) : (s.quanta1 r x).order.Perm s.order := by
  unfold Bd.quanta1
  split
  · have lt : min (s.level x + 1) (s.lines.length - 1) < (s.out x).lines.length := by
      show _ < (s.lines.set _ _).length
      rw [List.length_set]
      omega
    have e := List.getElem?_eq_getElem lt
    refine List.Perm.trans ?_ (Bd.out_order hx)
    show (((s.out x).lines.set _ _).flatten).Perm (x :: (s.out x).lines.flatten)
    rw [getD_at e]
    exact flat_add e (List.perm_append_singleton _ _)
  · exact List.Perm.refl _
theorem Bd.Ok0.quanta1 {r : Rl} {s : Bd} (h : s.Ok0) {x : Str} (hx : x ∈ s.order) : (s.quanta1 r x).Ok0 := by
  refine h.perm (Bd.quanta_order h.lines1 hx) ?_ ?_ ?_
  · unfold Bd.quanta1
    split
    · show ((s.lines.set _ _).set _ _).length = _
      rw [List.length_set, List.length_set]
    · rfl
  · unfold Bd.quanta1
    split
    · exact putS_keys _ _ _
    · rfl
  · unfold Bd.quanta1
    split <;> rfl
theorem Bd.lift_order (s : Bd) : s.lift.order = s.order := by
  show (s.order :: List.replicate (s.lines.length - 1) []).flatten = s.order
  rw [List.flatten_cons]
  have z : (List.replicate (s.lines.length - 1) ([] : List Str)).flatten = [] := by simp
  rw [z, List.append_nil]
theorem Bd.Ok0.lift {s : Bd} (h : s.Ok0) : s.lift.Ok0 := by
  have h1 := h.lines1
  refine h.perm (by rw [Bd.lift_order]) ?_ ?_ rfl
  · show (s.order :: List.replicate (s.lines.length - 1) []).length = _
    rw [List.length_cons, List.length_replicate]
    omega
  · show (s.used.map fun p => (p.1, (0 : Int))).map (·.1) = _
    rw [List.map_map]
    rfl
end Vk
set_option maxHeartbeats 4000000
namespace Vk
open PySem PySem.Spec PyProof.Rows L2
section
variable {P : Program} {w : World} {K : PySem.W.Frag} {mg : Str → Option Value} {base : Heap}
theorem scInteger : FnScope ["value", "least"] ["value", "least"] (defScope sInteger) := ⟨rfl, rfl, rfl, by decide +kernel, rfl, by decide +kernel, by decide +kernel⟩
theorem ok_integer (D : Df K mg "is_integer" sInteger ["value", "least"]) (B : Blt mg) : Cl P w K mg base CX0 1 "is_integer" ["value", "least"] (spInteger K) := by
  refine cl0 D scInteger (fun vs H Q E h => ?_) (fun f cdv A outer s H vs Q E hr h => ?_)
  · obtain ⟨v, d, least, rfl, _⟩ := h
    rfl
  · obtain ⟨v, d, least, rfl, hd, k⟩ := h
    refine ⟨_, pss_one (ps_ret (pe_and (pe_callB call_isi (by rfl) B.isi (by decide +kernel) (pa_cons (pv 0) (pa_cons (pe_bltn (v := .ty "int") (u := .type "int") (by rfl) B.int (by decide +kernel) rfl) pa_nil))) (pe_and (pe_not (pe_callB call_isi (by rfl) B.isi (by decide +kernel) (pa_cons (pv 0) (pa_cons (pe_bltn (v := .ty "bool") (u := .type "bool") (by rfl) B.bool (by decide +kernel) rfl) pa_nil)))) (pe_one (pe_cmpR op_ge (pv 0) (pv 1) (nomark _)))))), ?_⟩
    refine ⟨_, rfl, v, _, _, _, _, rfl, .ty "int", dp_ty hd, kit_int hd, _, rfl, ?_⟩
    cases hd with
    | int i =>
      refine iteT ⟨_, rfl, _, _, _, _, _, rfl, .ty "bool", dp_ty (.int i), kit_bool (H := H) (.int i), _, rfl, _, rfl, iteT ?_⟩
      exact ⟨_, rfl, _, rfl, _, _, rfl, rfl, k⟩
    | bl b => exact iteT ⟨_, rfl, _, _, _, _, _, rfl, .ty "bool", dp_ty (.bl b), kit_bool (H := H) (.bl b), _, rfl, _, rfl, iteF k⟩
    | non => exact iteF k
    | str x => exact iteF k
    | lst q r => exact iteF k
    | tup q r => exact iteF k
theorem scTupleOf : FnScope ["value", "many"] ["value", "many"] (defScope sTupleOf) := ⟨rfl, rfl, rfl, by decide +kernel, rfl, by decide +kernel, by decide +kernel⟩
theorem ok_tupleOf (D : Df K mg "is_tuple_of" sTupleOf ["value", "many"]) (B : Blt mg) : Cl P w K mg base CX0 1 "is_tuple_of" ["value", "many"] (spTupleOf K) := by
  refine cl0 D scTupleOf (fun vs H Q E h => ?_) (fun f cdv A outer s H vs Q E hr h => ?_)
  · obtain ⟨v, d, n, rfl, _⟩ := h
    rfl
  · obtain ⟨v, d, n, rfl, hd, k⟩ := h
    refine ⟨_, pss_one (ps_ret (pe_and (pe_callB call_isi (by rfl) B.isi (by decide +kernel) (pa_cons (pv 0) (pa_cons (pe_bltn (v := .ty "tuple") (u := .type "tuple") (by rfl) B.tuple (by decide +kernel) rfl) pa_nil))) (pe_one (pe_cmpR op_eq (pe_callB call_len_seq (by rfl) B.len PySem.boot_len (pa_cons (pv 0) pa_nil)) (pv 1) (nomark _))))), ?_⟩
    refine ⟨_, rfl, v, _, _, _, _, rfl, .ty "tuple", dp_ty hd, kit_tup hd, _, rfl, ?_⟩
    cases hd with
    | int i => exact iteF k
    | bl b => exact iteF k
    | non => exact iteF k
    | str x => exact iteF k
    | lst q r => exact iteF k
    | @tup a xs ds q r =>
      refine iteT ⟨_, rfl, _, xs, rfl, .inr q, _, rfl, rfl, ?_⟩
      have e : decide (V.int (xs.length : Nat) = V.int n) = tupleND n (.tuple ds) := by
        show _ = decide ((ds.length : Int) = n)
        rw [dps_len r]
        by_cases z : (ds.length : Int) = n
        · rw [z, decide_eq_true rfl, decide_eq_true rfl]
        · rw [decide_eq_false z, decide_eq_false (fun y => z (V.int.inj y))]
      show Q (.bl (decide (V.int (xs.length : Nat) = V.int n))) H
      rw [e]
      exact k
end
end Vk
set_option maxHeartbeats 4000000
namespace Vk
open PySem PySem.Spec PyProof.Rows L2
def countD : PyData → Bool
  | .none => true
  | d => integerD 1 d
def kindD : PyData → Bool
  | .str x => x == ("queue" : Str) || x == ("stack" : Str)
  | _ => false
def levelD : PyData → Bool
  | .tuple [a, b] => kindD a && countD b
  | _ => false
/-- the first of a pair is flat -/
def headD : PyData → Bool
  | .tuple [a, _] => flatD a
  | _ => true
theorem in_kinds {K : PySem.W.Frag} {H : Hp} {v : V} {d : PyData} (h : Dp K H v d) : inV v [.str ("queue" : Str), .str ("stack" : Str)] = kindD d := by
  cases h with
  | str x =>
    show (("queue" : Str) == x || (("stack" : Str) == x || false)) = (x == ("queue" : Str) || x == ("stack" : Str))
    rw [Bool.or_false, BEq.comm (a := ("queue" : Str)), BEq.comm (a := ("stack" : Str))]
  | non => rfl
  | bl b => rfl
  | int i => rfl
  | lst q r => rfl
  | tup q r => rfl
section
variable {P : Program} {w : World} {K : PySem.W.Frag} {mg : Str → Option Value} {base : Heap}
def spCount (K : PySem.W.Frag) : Sp := fun vs H Q _ => ∃ (v : V) (d : PyData), vs = [v] ∧ Dp K H v d ∧ Q (.bl (countD d)) H
theorem scCount : FnScope ["value"] ["value"] (defScope sCount) := ⟨rfl, rfl, rfl, by decide +kernel, rfl, by decide +kernel, by decide +kernel⟩
theorem ok_count (D : Df K mg "is_count" sCount ["value"]) (I : Cl P w K mg base CX0 1 "is_integer" ["value", "least"] (spInteger K)) : Cl P w K mg base CX0 2 "is_count" ["value"] (spCount K) := by
  refine cl0 D scCount (fun vs H Q E h => ?_) (fun f cdv A outer s H vs Q E hr h => ?_)
  · obtain ⟨v, d, rfl, _⟩ := h
    rfl
  · obtain ⟨v, d, rfl, hd, k⟩ := h
    refine ⟨_, pss_one (ps_ret (pe_or (pe_cmpR op_isN (pv 0) pe_non (nomark _)) (pe_one (pc I hr (by decide) (pa_cons (pv 0) (pa_cons pe_int pa_nil)))))), ?_⟩
    refine ⟨_, rfl, rfl, _, rfl, ?_⟩
    cases hd with
    | non => exact iteT k
    | int i => exact iteF ⟨_, rfl, _, _, 1, rfl, .int i, k⟩
    | bl b => exact iteF ⟨_, rfl, _, _, 1, rfl, .bl b, k⟩
    | str x => exact iteF ⟨_, rfl, _, _, 1, rfl, .str x, k⟩
    | lst q r => exact iteF ⟨_, rfl, _, _, 1, rfl, .lst q r, k⟩
    | tup q r => exact iteF ⟨_, rfl, _, _, 1, rfl, .tup q r, k⟩
def spLevel (K : PySem.W.Frag) : Sp := fun vs H Q _ => ∃ (v : V) (d : PyData), vs = [v] ∧ Dp K H v d ∧ headD d = true ∧ ∀ H', Same H H' → Q (.bl (levelD d)) H'
theorem scLevel : FnScope ["level"] ["level"] (defScope sLevel) := ⟨rfl, rfl, rfl, by decide +kernel, rfl, by decide +kernel, by decide +kernel⟩
theorem level_two {d : PyData} (h : tupleND 2 d = true) : ∃ a b, d = .tuple [a, b] := by
  cases d with
  | tuple ds =>
    have z : (ds.length : Int) = 2 := of_decide_eq_true h
    match ds, z with
    | [a, b], _ => exact ⟨a, b, rfl⟩
    | [], z => cases z
    | [_], z => cases z
    | _ :: _ :: _ :: l, z => simp only [List.length_cons] at z; omega
  | _ => cases h
theorem level_not {d : PyData} (h : tupleND 2 d = false) : levelD d = false := by
  cases d with
  | tuple ds =>
    have z : ¬ (ds.length : Int) = 2 := of_decide_eq_false h
    match ds, z with
    | [a, b], z => exact absurd rfl z
    | [], _ => rfl
    | [_], _ => rfl
    | _ :: _ :: _ :: l, _ => rfl
  | _ => rfl
theorem dp_two {K : PySem.W.Frag} {H : Hp} {v : V} {a b : PyData} (h : Dp K H v (.tuple [a, b])) : ∃ p x y, v = .ref p ∧ SqT K H p [x, y] ∧ Dp K H x a ∧ Dp K H y b := by
  obtain ⟨p, xs, rfl, q, r⟩ := dp_tuple h
  cases r with
  | cons h1 r =>
    cases r with
    | cons h2 r =>
      cases r
      exact ⟨p, _, _, rfl, q, h1, h2⟩
theorem ok_level (D : Df K mg "is_level" sLevel ["level"]) (T : Cl P w K mg base CX0 1 "is_tuple_of" ["value", "many"] (spTupleOf K)) (C : Cl P w K mg base CX0 2 "is_count" ["value"] (spCount K)) : Cl P w K mg base CX0 3 "is_level" ["level"] (spLevel K) := by
  refine cl0 D scLevel (fun vs H Q E h => ?_) (fun f cdv A outer s H vs Q E hr h => ?_)
  · obtain ⟨v, d, rfl, _⟩ := h
    rfl
  · obtain ⟨v, d, rfl, hd, fl, k⟩ := h
    refine ⟨_, pss_one (ps_ret (pe_and (pc T hr (by decide) (pa_cons (pv 0) (pa_cons pe_int pa_nil))) (pe_and (pe_cmpR op_in_seq (pe_ix ix_tup (pv 0) pe_int (fun _ _ => rfl)) (pe_tup (pa_cons pe_str (pa_cons pe_str pa_nil))) (by rfl))
      (pe_one (pc C hr (by decide) (pa_cons (pe_ix ix_tup (pv 0) pe_int (fun _ _ => rfl)) pa_nil)))))), ?_⟩
    refine ⟨_, rfl, v, d, 2, rfl, hd, _, rfl, ?_⟩
    cases ht : tupleND 2 d with
    | false =>
      refine iteF ?_
      have z := k H (Same.refl H)
      rw [level_not ht] at z
      exact z
    | true =>
      obtain ⟨a, b, rfl⟩ := level_two ht
      obtain ⟨p, x, y, rfl, q, ha, hb⟩ := dp_two hd
      refine iteT ⟨_, rfl, p, _, _, _, rfl, rfl, q, rfl, (by show 2 ≤ sizeLine; decide), fun t nt => ?_⟩
      have s1 := same_new (o := .tup [.str ("queue" : Str), .str ("stack" : Str)]) nt
      refine ⟨t, _, rfl, .inr (SqT.of upd_same), (by rw [dp_flat ha]; exact fl), rfl, _, rfl, ?_⟩
      show if inV x [.str ("queue" : Str), .str ("stack" : Str)] = true then _ else _
      rw [in_kinds ha]
      have kk := k _ s1
      have e : levelD (.tuple [a, b]) = (kindD a && countD b) := rfl
      rw [e] at kk
      cases hk : kindD a with
      | false =>
        rw [hk] at kk
        exact iteF kk
      | true =>
        rw [hk] at kk
        exact iteT ⟨_, rfl, p, _, _, _, rfl, rfl, same_seqT s1 q, rfl, y, b, rfl, dp_same s1 hb, kk⟩
end
end Vk
set_option maxHeartbeats 4000000
/-! all(lo <= c <= hi for c in text) -/
namespace Vk
open PySem PySem.Spec PyProof.Rows L2 GxR
def between (lo hi : Str) (c : Nat) : Bool := !decide ([c] < lo.cps.toList) && !decide (hi.cps.toList < [c])
theorem elt_between {prog : Program} {w : World} {scope : Scope} {x lo hi : Str} {j1 j2 : Nat} {p1 p2 p3 p4 : Pos} (hk : scope.kind = .function) (hl : scope.names.lookup x = some .local) (hd : (x == ("__debug__" : Str)) = false := by decide) :
    EltP prog w scope x (.Compare (.Constant (.str lo) j1 p1) [.LtE, .LtE] [.Name x p2, .Constant (.str hi) j2 p3] p4) (between lo hi) := by
  intro cenv A' E' c t s₂ m₂ hs hn hm
  refine Compare_chain ?_
  refine Calls.Constant_str (chain_link ?_)
  refine wpAny_Name (wpAny_loadName_local (by rw [hs]; exact hk) (show cenv.scope.names.lookup x = some .local by rw [hs]; exact hl) hn hm ?_) hd
  refine PySem.P.le_str (wpAny_truthy_bool ?_)
  have e1 : (⟨#[c]⟩ : Str).cps.toList = [c] := rfl
  cases h1 : decide ([c] < lo.cps.toList) with
  | true =>
    refine ite_ff ⟨?_, keeps_tok _ _⟩
    unfold between
    rw [h1]
    rfl
  | false =>
    refine ite_tt (chain_last (Calls.Constant_str (PySem.P.le_str ⟨?_, keeps_tok _ _⟩)))
    unfold between
    rw [h1]
    rfl
end Vk
set_option maxHeartbeats 4000000
namespace Vk
open PySem PySem.Spec PyProof.Rows L2 GxR
/-- a def whose code object stands at c -/
structure DfC (K : PySem.W.Frag) (mg : Str → Option Value) (x : Str) (st : Stmt) (ps : List Str) (c : Addr) : Prop where
  ex : ∃ (f : Addr) (oc : Value) (od : Option Addr) (kV doc pm : Value) (an : Option Addr) (ct : Value) (osl : Array (Option Value)), mg x = some (.ref f) ∧
    K.lookup f = some ⟨oc, od, .func (PySem.W.fnOf x x (defArgs st) (defBody st) (defScope st) .none kV doc pm an (.ref c) ct), osl⟩ ∧ PySem.W.codeIn K (.ref c) x = true ∧ PySem.W.keepIn K (.ref f) = true ∧
    Binds K (PySem.W.fnOf x x (defArgs st) (defBody st) (defScope st) .none kV doc pm an (.ref c) ct) ps []
theorem clC {P : Program} {w : World} {K : PySem.W.Frag} {mg : Str → Option Value} {base : Heap} {x : Str} {st : Stmt} {N ps : List Str} {k : Nat} {sp : Sp} {c : Addr} (D : DfC K mg x st ps c) (S : FnScope N ps (defScope st)) (len : ∀ vs H Q E, sp vs H Q E → vs.length = ps.length)
    (body : ∀ (f : Addr) (A : Around) (outer : List Env) (s : Shared) (H : Hp) (vs : List V) (Q : VK) (E : XK), Room k (A.deeper (envOfC x (defScope st) s.heap.objs.size f (.ref c))) → sp vs H Q E →
      ∃ t, PSs (cxOf CX0 P w K mg base N x (defScope st) f (.ref c) A outer s H E).nox (defBody st) t ∧ t { nx := fun _ H' => Q .non H', rt := Q } (start N vs) H) : Cl P w K mg base CX0 (k + 1) x ps sp := by
  obtain ⟨f, oc, od, kV, doc, pm, an, ct, osl, hm, lk, hcd, kp, b⟩ := D.ex
  refine ⟨f, _, hm, kp, b, fn_of lk hcd S len fun A outer s H vs Q E hr hsp => ?_⟩
  obtain ⟨t, h, q⟩ := body f A outer s H vs Q E hr hsp
  exact ⟨t, h.nox, q⟩
theorem twoLoc {R : Str × NameKind → Prop} {a b : Str} : ∀ y ∈ [(a, NameKind.local), (b, NameKind.local)], y.2 = .free → R y := by
  intro y hy e
  rcases List.mem_cons.mp hy with rfl | hy
  · cases e
  · rcases List.mem_cons.mp hy with rfl | hy
    · cases e
    · cases hy
def smallS : PyData → Prop
  | .str s => s.length ≤ 1000
  | _ => True
def nameD : PyData → Bool
  | .str s => decide (1 ≤ s.length) && (decide (s.length ≤ 8) && s.cps.toList.all (between "a" "z"))
  | _ => false
section
variable {P : Program} {w : World} {K : PySem.W.Frag} {mg : Str → Option Value} {base : Heap}
def spName (K : PySem.W.Frag) (T : Addr) : Sp := fun vs H Q _ => ∃ (v : V) (d : PyData), vs = [v] ∧ Dp K H v d ∧ smallS d ∧ TabG H T ∧ ∀ H', Same H H' → Q (.bl (nameD d)) H'
theorem scName : FnScope ["value"] ["value"] (defScope sName) := ⟨rfl, rfl, rfl, by decide +kernel, rfl, by decide +kernel, by decide +kernel⟩
theorem ok_name {c T : Addr} (D : DfC K mg "is_name" sName ["value"] c) (TB : TabB base mg c T) (B : Blt mg) (al : mg "all" = none) : Cl P w K mg base CX0 1 "is_name" ["value"] (spName K T) := by
  refine clC D scName (fun vs H Q E h => ?_) (fun f A outer s H vs Q E hr h => ?_)
  · obtain ⟨v, d, rfl, _⟩ := h
    rfl
  · obtain ⟨v, d, rfl, hd, sm, tg, k⟩ := h
    refine ⟨_, pss_cons (ps_if (PW.pt (pw_or (pt_not (pt_val (pe_callB call_isi (by rfl) B.isi (by decide +kernel) (pa_cons (pv 0) (pa_cons (pe_bltn (v := .ty "str") (u := .type "str") (by rfl) B.str (by decide +kernel) rfl) pa_nil))))) (pw_or1 (pt_not (pt_chain op_le op_le pe_int (pe_callB call_len (by rfl) B.len PySem.boot_len (pa_cons (pv 0) pa_nil)) pe_int))))) (pss_one (ps_ret pe_bl)) pss_nil)
      (pss_one (ps_ret (pe_allS (c := c) (P := T) (pb := between "a" "z") hr (by rfl) al (by decide +kernel) TB rfl ⟨rfl, rfl, by decide +kernel, by decide +kernel, by decide +kernel, twoLoc⟩ (pv 0) (elt_between rfl (by decide +kernel)) (fun _ => rfl)))), ?_⟩
    refine ⟨_, rfl, v, _, _, _, _, rfl, .ty "str", dp_ty hd, kit_strT hd, _, rfl, ?_⟩
    have fin : ∀ b, nameD d = b → ∀ H', Same H H' → Q (.bl b) H' := fun b e H' s1 => by
      have z := k H' s1
      rw [e] at z
      exact z
    cases hd with
    | non => exact iteT (iteT (fin _ rfl H (Same.refl H)))
    | int i => exact iteT (iteT (fin _ rfl H (Same.refl H)))
    | bl b => exact iteT (iteT (fin _ rfl H (Same.refl H)))
    | lst q r => exact iteT (iteT (fin _ rfl H (Same.refl H)))
    | tup q r => exact iteT (iteT (fin _ rfl H (Same.refl H)))
    | str x =>
      refine iteF ⟨_, rfl, .str x, x.length, rfl, ⟨Nat.le_trans (show x.length ≤ 1000 from sm) (by decide), rfl⟩, _, _, rfl, rfl, _, rfl, ?_⟩
      have e : nameD (.str x) = (decide (1 ≤ x.length) && (decide (x.length ≤ 8) && x.cps.toList.all (between "a" "z"))) := rfl
      refine ite2 (fun z1 => ?_) (fun z1 => ?_)
      · have z2 : (1 : Int) ≤ (x.length : Nat) := of_decide_eq_true z1
        have e1 : decide (1 ≤ x.length) = true := decide_eq_true (by omega)
        refine ⟨_, _, rfl, rfl, _, rfl, ?_⟩
        by_cases z3 : x.length ≤ 8
        · rw [decide_eq_true (show ((x.length : Nat) : Int) ≤ 8 by omega)]
          refine iteF ⟨_, rfl, x, rfl, tg, fun H2 tb => fin _ ?_ H2 (same_tabbed tb tg)⟩
          rw [e, e1, decide_eq_true z3]
          rfl
        · rw [decide_eq_false (show ¬ ((x.length : Nat) : Int) ≤ 8 by omega)]
          refine iteT (fin _ ?_ H (Same.refl H))
          rw [e, e1, decide_eq_false z3]
          rfl
      · have z2 : ¬ 1 ≤ x.length := fun y => z1 (decide_eq_true (by omega))
        refine ⟨_, rfl, iteT (fin _ ?_ H (Same.refl H))⟩
        rw [e, decide_eq_false z2]
        rfl
end
end Vk
set_option maxHeartbeats 4000000
/-! data beside the store: new tuples, lists, sums, slices -/
namespace Vk
open PySem PySem.Spec PyProof.Rows L2
theorem off_at {a p : Addr} {H : Hp} {o : HO} (h : H p = some o) (n : p ≠ a) : Off a H p = some o := by
  rw [off_ne n]
  exact h
theorem Kept.at {a p : Addr} {H H' : Hp} {o : HO} (k : Kept a H H') (h : H p = some o) (n : p ≠ a) (u : NoTbl o := by exact True.intro) : H' p = some o := (off_some (Same.at_ k _ _ (off_at h n) u)).2
theorem off_other {a p : Addr} {H : Hp} {o : HO} (h : p ≠ a) : Off a (upd H p o) = upd (Off a H) p o := by
  funext b
  by_cases h1 : b = a
  · subst h1
    rw [off_same, upd_ne h.symm, off_same]
  · rw [off_ne h1]
    by_cases h2 : b = p
    · subst h2
      rw [upd_same, upd_same]
    · rw [upd_ne h2, upd_ne h2, off_ne h1]
section
variable {K : PySem.W.Frag} {a p : Addr} {G : Hp} {vs : List V} {ds : List PyData} {o : HO}
theorem new_tup (hA : G a ≠ none) (np : G p = none) (h : DpAll K (Off a G) vs ds) : Dp K (Off a (upd G p (.tup vs))) (.ref p) (.tuple ds) := by
  have pa : p ≠ a := ne_has hA np
  exact .tup (SqT.of (by rw [off_ne pa, upd_same])) (dps_same (off_mono (same_new np)) h)
theorem new_lst (hA : G a ≠ none) (np : G p = none) (h : DpAll K (Off a G) vs ds) : Dp K (Off a (upd G p (.lst vs))) (.ref p) (.list ds) := by
  have pa : p ≠ a := ne_has hA np
  exact .lst (SqL.of (by rw [off_ne pa, upd_same])) (dps_same (off_mono (same_new np)) h)
theorem dp_up {H H' : Hp} {v : V} {d : PyData} (s : Same H H') (h : Dp K (Off a H) v d) : Dp K (Off a H') v d := dp_same (off_mono s) h
theorem dps_up {H H' : Hp} {v : List V} {d : List PyData} (s : Same H H') (h : DpAll K (Off a H) v d) : DpAll K (Off a H') v d := dps_same (off_mono s) h
theorem dp_on {H : Hp} {v : V} {d : PyData} (h : Dp K (Off a H) v d) : Dp K H v d := dp_same (off_sub a H) h
theorem atI_mem {xs : List V} {r : Int} (h0 : 0 ≤ r) (h1 : r < xs.length) : ∃ x, atI xs r = some x ∧ x ∈ xs := by
  have hj : r.toNat < xs.length := by omega
  have z := atI_nat (List.getElem?_eq_getElem hj)
  rw [Int.toNat_of_nonneg h0] at z
  exact ⟨_, z, List.getElem_mem hj⟩
theorem atI_dp {H : Hp} {xs : List V} {es : List PyData} {r : Int} (d : DpAll K H xs es) (h0 : 0 ≤ r) (h1 : r < es.length) : ∃ x e, atI xs r = some x ∧ es[r.toNat]? = some e ∧ Dp K H x e := by
  have hl := dps_len d
  have hj : r.toNat < es.length := by omega
  obtain ⟨x, hx, dx⟩ := dps_get d (List.getElem?_eq_getElem hj)
  have z := atI_nat hx
  rw [Int.toNat_of_nonneg h0] at z
  exact ⟨x, _, z, List.getElem?_eq_getElem hj, dx⟩
theorem cat_go {H : Hp} {x y : V} {ds es : List PyData} {Q : VK} (hA : H a ≠ none) (hx : Dp K (Off a H) x (.tuple ds)) (hy : Dp K (Off a H) y (.tuple es)) (hl : ds.length + es.length ≤ 1000)
    (k : ∀ z H', Same H H' → Dp K (Off a H') z (.tuple (ds ++ es)) → Q z H') : rCatA K x y H Q := by
  obtain ⟨p, xs, rfl, qx, rx⟩ := dp_tuple hx
  obtain ⟨q, ys, rfl, qy, ry⟩ := dp_tuple hy
  have l1 := dps_len rx
  have l2 := dps_len ry
  refine ⟨p, q, xs, ys, rfl, rfl, same_seqT (off_sub a H) qx, same_seqT (off_sub a H) qy, Nat.le_trans (show xs.length + ys.length ≤ 1000 by omega) (by decide), fun e => ?_, fun _ e => ?_, fun _ _ t nt => ?_⟩
  · subst e
    have e2 : ds = [] := List.eq_nil_of_length_eq_zero l1.symm
    subst e2
    exact k _ H (Same.refl H) hy
  · subst e
    have e2 : es = [] := List.eq_nil_of_length_eq_zero l2.symm
    subst e2
    rw [List.append_nil] at k
    exact k _ H (Same.refl H) hx
  · exact k _ _ (same_new nt) (new_tup hA nt (dps_app rx ry))
theorem slice_go {H : Hp} {x : V} {ds : List PyData} {lo hi : Option Int} {Q : VK} (hA : H a ≠ none) (hx : Dp K (Off a H) x (.tuple ds))
    (k : ∀ z H', Same H H' → Dp K (Off a H') z (.tuple ((ds.drop (HT.sIx ds.length 0 lo)).take (HT.sIx ds.length ds.length hi - HT.sIx ds.length 0 lo))) → Q z H') : rSlA K x lo hi H Q := by
  obtain ⟨p, xs, rfl, qx, rx⟩ := dp_tuple hx
  have l1 := dps_len rx
  refine ⟨p, xs, rfl, same_seqT (off_sub a H) qx, fun w => ?_, fun _ t nt => ?_⟩
  · rw [l1] at w
    have z := k (.ref p) H (Same.refl H)
    rw [w.1, w.2, List.drop_zero, Nat.sub_zero, List.take_length] at z
    exact z hx
  · refine k _ _ (same_new nt) (new_tup hA nt ?_)
    unfold cutV
    rw [l1]
    exact dps_take _ (dps_drop _ rx)
theorem dps_rep {H : Hp} {xs : List V} {es : List PyData} (d : DpAll K H xs es) : ∀ n : Nat, DpAll K H (List.replicate n xs).flatten (List.replicate n es).flatten
  | 0 => .nil
  | n + 1 => by
    rw [List.replicate_succ, List.replicate_succ, List.flatten_cons, List.flatten_cons]
    exact dps_app d (dps_rep d n)
end
end Vk
set_option maxHeartbeats 4000000
/-! enumerate over a tuple: the pairs are new tuples -/
namespace PySem
set_option maxHeartbeats 4000000 in
theorem vx_enumNew {v : Value} {cell : Obj} {Hh : Heap → Prop} (B : Begins v cell Hh) :
    Meets (Builtin.«enumerate.__new__» ⟨[.type "enumerate", v], []⟩) (fun _ R s => Hh s.heap ∧
      R (.ok (.ret (.ref (s.heap.push cell).objs.size)))
        { s with heap := (s.heap.push cell).push { cls := .type "enumerate", data := .fields #[.none, .bool false, .ref s.heap.objs.size, rawInt 0, .none, .none] } }) :=
  .of_wp fun prog w A R s h => by
    obtain ⟨hp, gs, dr, tk, os⟩ := s
    obtain ⟨hbeg, h⟩ := h
    have subE := sub_enumerate
    have itOf : ∀ {A2 : Around} {E2 : Value → Shared → Prop} {Q2 : Value → Shared → Prop}, Q2 (.ref hp.objs.size) ⟨hp.push cell, gs, dr, tk, os⟩ → wpAny (model prog w) A2 (pyIter v) Q2 E2 ⟨hp, gs, dr, tk, os⟩ :=
      fun q => B.iter prog w _ _ ⟨hp, gs, dr, tk, os⟩ _ hbeg q
    wp_walk using itOf
    refine wpAny_stack_any fun st => wpAny_pure ?_
    split
    · rename_i cc _ _ _ _ _
      cases (cc == Value.type "enumerate") <;> (wp_walk using itOf; exact ⟨_, rfl, h⟩)
    · wp_walk using itOf
      exact ⟨_, rfl, h⟩
section
variable {prog : Program} {w : World} {A : Around} {E : Value → Shared → Prop} {s : Shared}
theorem vx_callEnum {v : Value} {cell : Obj} {Hh : Heap → Prop} {Q : Value → Shared → Prop} (B : Begins v cell Hh) (hbeg : Hh s.heap)
    (h : ∀ h', IsEnum h' (s.heap.objs.size + 1) s.heap.objs.size 0 .none → h'.get? s.heap.objs.size = some cell → (∀ b o, s.heap.get? b = some o → h'.get? b = some o) →
      Q (.ref (s.heap.objs.size + 1)) { s with heap := h' }) :
    wpAny (model prog w) A (call (.type "enumerate") [v]) Q E s := by
  refine callType_new F.called_enumerate (by decide) (F.typeCall_enumerate_1 _) (F.newCall_enumerate_1 _) (fun obj => F.args_object_init_2 obj _) F.entry_enumerate_new
    (vx_enumNew B) ⟨hbeg, ?_⟩
  have sz : (s.heap.push cell).objs.size = s.heap.objs.size + 1 := Heap.size_push ..
  show _ ∧ _
  rw [sz]
  have en : IsEnum ((s.heap.push cell).push { cls := .type "enumerate", data := .fields #[.none, .bool false, .ref s.heap.objs.size, rawInt 0, .none, .none] }) (s.heap.objs.size + 1) s.heap.objs.size 0 .none := by
    have got := Heap.get?_push_size (s.heap.push cell) (o := { cls := .type "enumerate", data := .fields #[.none, .bool false, .ref s.heap.objs.size, rawInt 0, .none, .none] }) rfl
    rw [sz] at got
    exact got
  exact ⟨⟨_, en, rfl⟩, h _ en (Heap.get?_push_of_some _ (Heap.get?_push_size _ B.free)) fun b o x => Heap.get?_push_of_some _ (Heap.get?_push_of_some _ x)⟩
end
end PySem
namespace L2
open PySem PySem.Spec PyProof.Rows
/-- what enumerate gives over the tuple at a: its items in new pairs -/
def IteT (K : PySem.W.Frag) (a : Addr) : It :=
  ⟨fun i H => ∃ (ys : List V) (y : V), SqT K H a ys ∧ ys[i]? = some y, fun i H v H' => ∃ T y, v = .ref T ∧ H T = none ∧ H' = upd H T (.tup [.int (i : Nat), y]) ∧ ∀ ys, SqT K H a ys → ys[i]? = some y,
    fun i H => ∃ ys : List V, SqT K H a ys ∧ ys.length = i⟩
theorem vx_turn {P : Program} {w : World} {K : PySem.W.Frag} {elts : List Expr} {kk : Nat} {tpos : Pos} (a e it : Addr) :
    Turn P w K (.Tuple elts kk tpos) (IteT K a) [e, it] e (fun i h => (∃ old, IsEnum h e it ((i : Nat) : Int) old) ∧ h.IsTupleIter it a i ∧ e ≠ it ∧ a ≠ it ∧ e ≠ a) where
  mem := List.mem_cons_self
  obj := fun i h st b hb => by
    obtain ⟨⟨old, en⟩, ⟨o, ho, hc, hd⟩, _⟩ := st
    have two : b = e ∨ b = it := by simpa using hb
    rcases two with z | z
    · subst z
      exact ⟨_, en, fun v q => nomatch q⟩
    · subst z
      exact ⟨o, ho, fun v q => by rw [hd] at q; cases q⟩
  keep := fun i h h' st k => by
    obtain ⟨⟨old, en⟩, hi, r⟩ := st
    exact ⟨⟨old, k e (by simp) _ en⟩, hi.at fun o q => k it (by simp) o q, r⟩
  item := by
    intro X hP hw hK hc i pins s σ H E I hf st hg
    subst hP hw hK
    obtain ⟨⟨old, en⟩, hit, nei, nai, nea⟩ := st
    obtain ⟨ys, y, hq, hy⟩ := hg
    obtain ⟨its, rv, p, _⟩ := I.tuple hq
    obtain ⟨u, hu, ru⟩ := rv.get hy
    have le : e < s.heap.objs.size := Heap.lt_size en
    have li : it < s.heap.objs.size := by obtain ⟨_, q, _⟩ := hit; exact Heap.lt_size q
    have hin : X.A.in1.handled = none := I.ok.hd hc
    have ilt : i < its.toArray.size := by
      have z := (List.getElem?_eq_some_iff.mp hu).1
      rw [List.size_toArray]
      exact z
    refine wpAny_pyNext_enum_itemD (Draws.tuple hin it a nai its.toArray) en ⟨hit, p⟩ ilt nei (by simp [nei, nea]) fun x h2 tk hx eo st2 hT hsz hk => ?_
    have ex : x = u := by
      have z : its.toArray[i]? = some x := hx
      rw [List.getElem?_toArray, hu] at z
      exact (Option.some.inj z).symm
    subst ex
    refine ⟨_, rfl, wpAny_letOwnedTupleGo_enum (s := { s with heap := h2, toks := tk + 1 }) eo fun h3 he3 sb => ?_⟩
    have hT3 : h3.get? s.heap.objs.size = some { cls := .type "tuple", data := .seq #[.int i tk, x] } := (sb.2 _ (Nat.ne_of_gt le)).trans hT
    have new : ObjOk X.prog X.w (upd H s.heap.objs.size (.tup [.int (i : Nat), y])) h3 s.heap.objs.size (.tup [.int (i : Nat), y]) :=
      ⟨(by show 2 ≤ sizeLine; decide), [.int i tk, x], .cons ⟨_, rfl⟩ (.cons ru .nil), ⟨_, hT3, rfl, _, rfl⟩⟩
    have J : Inv X pins σ (upd H s.heap.objs.size (.tup [.int (i : Nat), y])) { s with heap := h3, toks := tk + 1 } :=
      I.turnedNew (ch := [e, it]) (fun b ob hb q => by
        have n1 : b ≠ e := fun z => hb (by simp [z])
        have n2 : b ≠ it := fun z => hb (by simp [z])
        exact (sb.2 b n1).trans (hk b ob n1 n2 q)) hf (Nat.le_refl _) new
    refine ⟨.ref s.heap.objs.size, _, J, rfl, ⟨_, y, rfl, I.hok.fresh (Nat.le_refl _), rfl, fun zs hz => by rw [I.tuple_inj hz hq]; exact hy⟩, ⟨⟨x, ?_⟩, st2.1.at fun o q => (sb.2 it (Ne.symm nei)).trans q, nei, nai, nea⟩, fun b hb => ?_⟩
    · have en2 : ((i + 1 : Nat) : Int) = (i : Int) + 1 := by omega
      rw [en2]
      exact he3
    · have lb : b < s.heap.objs.size := by
        have two : b = e ∨ b = it := by simpa using hb
        rcases two with z | z
        · rw [z]; exact le
        · rw [z]; exact li
      rw [upd_ne (Nat.ne_of_lt lb)]
      exact (hf b hb).1
  done := by
    intro X hP hw hK hc i pins s σ H E I hf st hg
    subst hP hw hK
    obtain ⟨⟨old, en⟩, hit, nei, nai, nea⟩ := st
    obtain ⟨ys, hq, hy⟩ := hg
    obtain ⟨its, rv, p, _⟩ := I.tuple hq
    obtain ⟨f0, f1, f2, f3, f4, f5⟩ := hf it (by simp)
    have hl := rv.length
    have hi : i = its.toArray.size := by rw [List.size_toArray]; omega
    subst hi
    have hin : X.A.in1.handled = none := I.ok.hd hc
    exact wpAny_pyNext_enum_endD (Draws.tuple hin it a nai its.toArray) en ⟨hit, p⟩ fun h2 eb => ⟨rfl, I.turned (t' := s.toks) (fun b o hb q => eb b o hb q) f0 f1 f3 f4 f5⟩
  self := fun A i s Q E st h => by
    obtain ⟨⟨_, en⟩, _⟩ := st
    exact wpAny_pyIter_enum en h
def iEnumT (K : PySem.W.Frag) (ta : TA) : TI := fun σ H R => ta σ H fun vs H1 => ∃ a ys, vs = [.ref a] ∧ SqT K H1 a ys ∧ R (IteT K a) H1
theorem pi_enumT {X : Cx} {e : Expr} {ta : TA} {p pos tpos : Pos} {elts : List Expr} {kk : Nat} (hm : X.mg "enumerate" = none) (ha : PA X [e] ta) (hg : Gl X "enumerate" := by rfl) (hs : starEach [e] X.env = [(false, eval e X.env)] := by rfl) :
    PI X (.Tuple elts kk tpos) (.Call (.Name "enumerate" p) [e] [] pos) (iEnumT X.K ta) := by
  refine ⟨fun pins s σ H R I h => ?_⟩
  refine Call_ (ld_blt I hg hm boot_enumerate (PyProof.Rows.callWith_type1 (thn (ha.run pos pins s σ H _ I h) fun us s1 ⟨vs, H1, I1, r1, q1⟩ => ?_) hs rfl))
  obtain ⟨a, ys, ex, hq, q⟩ := q1
  subst ex
  cases r1 with
  | cons r rr =>
    cases rr
    cases r
    obtain ⟨its, rv, p2, _⟩ := I1.tuple hq
    have la : a < s1.heap.objs.size := by obtain ⟨_, z, _⟩ := p2; exact Heap.lt_size z
    refine vx_callEnum (begins_tuple a its.toArray) p2 fun h2 he hit hk => wpAny_pyIter_enum he ?_
    have I2 : Inv X pins σ H1 { s1 with heap := h2 } := I1.kept (t' := s1.toks) hk
    refine ⟨s1.heap.objs.size + 1, [s1.heap.objs.size + 1, s1.heap.objs.size], _, _, H1, rfl, I2, vx_turn a (s1.heap.objs.size + 1) s1.heap.objs.size,
      ⟨⟨.none, he⟩, ⟨_, hit, rfl, rfl⟩, Nat.succ_ne_self _, Nat.ne_of_lt la, Nat.ne_of_gt (Nat.lt_succ_of_lt la)⟩, fun b hb => ?_, q⟩
    have two : b = s1.heap.objs.size + 1 ∨ b = s1.heap.objs.size := by simpa using hb
    have hle : s1.heap.objs.size ≤ b := by
      rcases two with z | z
      · rw [z]; exact Nat.le_succ _
      · rw [z]; exact Nat.le_refl _
    exact I1.fpOk hle (I1.hok.fresh hle)
/-- turn by turn, the tuple standing still -/
theorem walk_enumT {K : PySem.W.Frag} {a : Addr} {xs : List V} : Walk (IteT K a) xs.length (fun H => SqT K H a xs) (YPair (fun i => some (.int (i : Nat))) (fun i => xs[i]?)) := by
  refine ⟨fun i _ hi q => ⟨xs, xs[i], q, by simp [hi]⟩, fun _ q => ⟨xs, q, rfl⟩, fun i H v H' _ q y => ?_⟩
  obtain ⟨T, x, h1, h2, h3, h4⟩ := y
  exact ⟨T, .int (i : Nat), x, h1, h2, h3, rfl, h4 xs q⟩
end L2
set_option maxHeartbeats 4000000
namespace Vk
open PySem PySem.Spec PyProof.Rows L2 GxR
theorem same_put {H Hc : Hp} {D : Addr} {o : HO} (s : Same H Hc) (n : H D = none) : Same H (upd Hc D o) := by
  have ne : ∀ {b : Addr} {u : HO}, H b = some u → b ≠ D := fun e => ne_of_none e n
  refine ⟨fun b u e nt => ?_, fun b e => ?_, fun P ⟨ps, e, t⟩ => ?_⟩
  · rw [upd_ne (ne e)]
    exact s.at_ b u e nt
  · by_cases z : b = D
    · rw [z] at e
      exact absurd n e
    · rw [upd_ne z]
      exact s.has b e
  · obtain ⟨qs, f, u⟩ := s.tab P ⟨ps, e, t⟩
    exact ⟨qs, by rw [upd_ne (ne e)]; exact f, u⟩
theorem find_at {n i : Nat} {p : Nat → Bool} (h : i < n) (hp : p i = true) (ok : ∀ j < i, p j = false) : (List.range n).find? p = some i := by
  rw [List.find?_range_eq_some]
  refine ⟨hp, List.mem_range.mpr h, fun j hj => ?_⟩
  rw [ok j hj]
  rfl
theorem find_no {n : Nat} {p : Nat → Bool} (ok : ∀ j < n, p j = false) : (List.range n).find? p = none := by
  rw [List.find?_eq_none]
  intro j hj
  rw [ok j (List.mem_range.mp hj)]
  exact Bool.false_ne_true
theorem inV_strs {n : Str} : ∀ ns : List Str, inV (.str n) (ns.map V.str) = ns.any (fun y => y == n)
  | [] => rfl
  | x :: ns => by
    have ih := inV_strs (n := n) ns
    show ((x == n) || inV (.str n) (ns.map V.str)) = ((x == n) || ns.any (fun y => y == n))
    rw [ih]
theorem flat_strs (ns : List Str) : (ns.map V.str).all flatV = true := by
  rw [List.all_eq_true]
  intro x hx
  obtain ⟨y, _, rfl⟩ := List.mem_map.mp hx
  rfl
theorem lt_one {a b : Nat} : ([a] < [b]) ↔ a < b := by
  constructor
  · intro h
    cases h with
    | rel h => exact h
    | cons h => cases h
  · intro h
    exact List.Lex.rel h
def optV : Option Int → V
  | some i => .int i
  | none => .non
theorem cutR {α : Type} {R : α} {F : α → Prop} {G : Prop} (h : F R → G) (c : F R) : G := h c
def sgn (c : Nat) : Str := ⟨#[c]⟩
theorem off_none {a : Addr} {H : Hp} (h : H a = none) : Off a H = H := by
  funext b
  by_cases e : b = a
  · rw [e, off_same, h]
  · rw [off_ne e]
theorem off_free {a D : Addr} {H : Hp} (h : H D = none) : Off a H D = none := by
  by_cases e : D = a
  · rw [e, off_same]
  · rw [off_ne e, h]
/-- what was built beside the store and a cell is built beside the store -/
theorem kept_of_off {a l : Addr} {H G : Hp} (h : H l = none) (k : Same (Off l (Off a H)) (Off l (Off a G))) : Kept a H G := by
  rw [off_none (off_free h)] at k
  exact k.trans (off_sub l _)
theorem kept_new_put {a D : Addr} {o : HO} {H G : Hp} (k : Kept a H G) (h : H D = none) (n : D ≠ a) : Kept a H (upd G D o) := by
  unfold Kept
  rw [off_other n]
  exact same_put k (off_free h)
theorem cps_app (x y : Str) : (x ++ y).cps.toList = x.cps.toList ++ y.cps.toList := by
  show (x.cps ++ y.cps).toList = _
  rw [Array.toList_append]
theorem cut_to {z : Str} {i : Nat} (h : i ≤ z.cps.toList.length) : (cutS z none (some (i : Int))).cps.toList = z.cps.toList.take i := by
  have e : HT.sIx z.length z.length (some (i : Int)) = i := by
    rw [HT.sIx_nat]
    have : z.length = z.cps.toList.length := by rw [Array.length_toList]; rfl
    omega
  show ((z.cps.toList.drop 0).take (HT.sIx z.length z.length (some (i : Int)) - 0)) = _
  rw [e]
  rfl
theorem cut_from {z : Str} {i : Nat} (h : i ≤ z.cps.toList.length) : (cutS z (some (i : Int)) none).cps.toList = z.cps.toList.drop i := by
  have e0 : z.length = z.cps.toList.length := by rw [Array.length_toList]; rfl
  have e : HT.sIx z.length 0 (some (i : Int)) = i := by
    rw [HT.sIx_nat]
    omega
  show ((z.cps.toList.drop (HT.sIx z.length 0 (some (i : Int)))).take (z.length - HT.sIx z.length 0 (some (i : Int)))) = _
  rw [e]
  exact List.take_of_length_le (by rw [List.length_drop]; omega)
theorem atI_three {x0 x1 x2 : V} {r : Int} (h0 : 0 ≤ r) (h4 : r < 3) : ∃ x, atI [x0, x1, x2] r = some x ∧ (x = x0 ∨ x = x1 ∨ x = x2) := by
  have z : r = 0 ∨ r = 1 ∨ r = 2 := by omega
  rcases z with rfl | rfl | rfl
  · exact ⟨_, rfl, .inl rfl⟩
  · exact ⟨_, rfl, .inr (.inl rfl)⟩
  · exact ⟨_, rfl, .inr (.inr rfl)⟩
theorem dps_set {K : PySem.W.Frag} {H : Hp} {v : V} {d : PyData} (hv : Dp K H v d) : ∀ {vs : List V} {ds : List PyData} (j : Nat), DpAll K H vs ds → DpAll K H (vs.set j v) (ds.set j d)
  | _, _, _, .nil => .nil
  | _, _, 0, .cons x r => .cons hv r
  | _, _, j + 1, .cons x r => .cons x (dps_set hv j r)
theorem ixN_nat {n j : Nat} (h : j < n) : ixN n ((0 : Int) + (j : Nat)) = some j := by
  rw [Int.zero_add]
  unfold ixN
  rw [if_pos (by omega), if_pos (by omega)]
  rfl
theorem slen {s : Str} : s.length = s.cps.toList.length := by rw [Array.length_toList]; rfl
theorem alen {x y : Str} : (x ++ y).length = x.length + y.length := by rw [slen, cps_app, List.length_append, ← slen, ← slen]
theorem log_ok {n : Nat} (h : n ≤ 10 ^ 30) : ((n : Int)).natAbs.log2 < 1920 := by
  rw [Int.natAbs_natCast]
  by_cases e : n = 0
  · subst e
    decide
  · exact (Nat.log2_lt e).mpr (Nat.lt_of_le_of_lt h (by decide))
theorem small_le {m : Nat} (h : m ≤ 200) : m ≤ sizeLine := Nat.le_trans h (by decide)
theorem dg_nat {t : Int} (h0 : 0 ≤ t) : ∃ n : Nat, t = (n : Int) := Int.eq_ofNat_of_zero_le h0
theorem cutP {R G : Prop} (h : R → G) (c : R) : G := h c
theorem atI_str {l : List Str} {r : Int} (h0 : 0 ≤ r) (h1 : r < l.length) : ∃ s, atI (l.map V.str) r = some (.str s) ∧ s ∈ l := by
  obtain ⟨x, h2, h3⟩ := atI_mem (xs := l.map V.str) h0 (by rw [List.length_map]; exact h1)
  obtain ⟨s, hs, rfl⟩ := List.mem_map.mp h3
  exact ⟨s, h2, hs⟩
theorem map_erase {α β : Type} (f : α → β) : ∀ (l : List α) (i : Nat), (l.map f).eraseIdx i = (l.eraseIdx i).map f
  | [], _ => rfl
  | x :: l, 0 => rfl
  | x :: l, i + 1 => by
    rw [List.map_cons, List.eraseIdx_cons_succ, List.eraseIdx_cons_succ, List.map_cons, map_erase f l i]
theorem cut_from_len (z : Str) (i : Nat) : (cutS z (some (i : Int)) none).length ≤ z.length - i := by
  have e0 : z.length = z.cps.toList.length := slen
  rw [slen]
  show ((z.cps.toList.drop (HT.sIx z.length 0 (some (i : Int)))).take (z.length - HT.sIx z.length 0 (some (i : Int)))).length ≤ _
  rw [HT.sIx_nat, List.length_take, List.length_drop]
  omega
theorem cut_to_len (z : Str) (i : Nat) : (cutS z none (some (i : Int))).length ≤ i := by
  have e0 : z.length = z.cps.toList.length := slen
  rw [slen]
  show ((z.cps.toList.drop 0).take (HT.sIx z.length z.length (some (i : Int)) - 0)).length ≤ _
  rw [HT.sIx_nat, List.length_take, List.length_drop]
  omega
theorem ixN_at {n : Nat} {i : Int} (h0 : 0 ≤ i) (h : i < n) : ixN n i = some i.toNat := by
  unfold ixN
  rw [if_pos h0, if_pos h]
theorem sq_at {n : Nat} {i : Int} (h0 : 0 ≤ i) (h : i < n) : seqIndex? i n = some i.toNat := by
  unfold seqIndex?
  simp
  omega
theorem cut1 {a : V} {l : List V} : cutV (a :: l) (some 1) none = l := by
  have e : HT.sIx (a :: l).length 0 (some 1) = 1 := by
    show HT.sIx (a :: l).length 0 (some ((1 : Nat) : Int)) = 1
    rw [HT.sIx_nat]
    simp only [List.length_cons]
    omega
  unfold cutV
  rw [e]
  show l.take ((a :: l).length - 1) = l
  exact List.take_of_length_le (by simp only [List.length_cons]; omega)
def optD : Option Int → PyData
  | some i => .int i
  | none => .none
theorem dp_opt {K : PySem.W.Frag} {H : Hp} : ∀ o : Option Int, Dp K H (optV o) (optD o)
  | some i => .int i
  | none => .non
theorem eq_strV (x s : Str) : decide (V.str x = V.str s) = decide (x = s) := by
  by_cases h : x = s
  · rw [h, decide_eq_true rfl, decide_eq_true rfl]
  · rw [decide_eq_false h, decide_eq_false (fun z => h (V.str.inj z))]
theorem units65 {k : Nat} {A : Around} (r : Room k A) : A.units + 65 < cLine := by have := r.un; omega
theorem find_some {n i : Nat} {p : Nat → Bool} (h : (List.range n).find? p = some i) : i < n ∧ p i = true ∧ ∀ j < i, p j = false := by
  rw [List.find?_range_eq_some] at h
  obtain ⟨h1, h2, h3⟩ := h
  refine ⟨List.mem_range.mp h2, h1, fun j hj => ?_⟩
  have z := h3 j hj
  cases hp : p j with
  | false => rfl
  | true =>
    rw [hp] at z
    cases z
theorem mem_joinL {s : Nat} {y : List Nat} : ∀ {ps : List (List Nat)}, s ∈ TL.joinL y ps → s ∈ y ∨ ∃ p ∈ ps, s ∈ p
  | [], h => by cases h
  | [p], h => .inr ⟨p, by simp, h⟩
  | p :: q :: r, h => by
    have z : s ∈ p ++ (y ++ TL.joinL y (q :: r)) := h
    rcases List.mem_append.mp z with z | z
    · exact .inr ⟨p, by simp, z⟩
    · rcases List.mem_append.mp z with z | z
      · exact .inl z
      · rcases mem_joinL z with z | ⟨p', hp', z⟩
        · exact .inl z
        · exact .inr ⟨p', List.mem_cons_of_mem _ hp', z⟩
theorem joinL_len {y : List Nat} {m : Nat} : ∀ {ps : List (List Nat)}, (∀ p ∈ ps, p.length ≤ m) → (TL.joinL y ps).length ≤ ps.length * (m + y.length)
  | [], _ => Nat.zero_le _
  | [p], h => by
    have := h p (by simp)
    show p.length ≤ 1 * (m + y.length)
    omega
  | p :: q :: r, h => by
    have h1 := h p (by simp)
    have h2 := joinL_len (y := y) (m := m) (ps := q :: r) fun x hx => h x (List.mem_cons_of_mem _ hx)
    show (p ++ (y ++ TL.joinL y (q :: r))).length ≤ _
    rw [List.length_append, List.length_append, List.length_cons, Nat.succ_mul]
    omega
def rEqNilT (K : PySem.W.Frag) : R2 := fun x y H Q => ∃ p q xs, x = .ref p ∧ y = .ref q ∧ SqT K H p xs ∧ SqT K H q [] ∧ Q (.bl xs.isEmpty) H
theorem op_eqNilT {X : Cx} (hu : X.A.units < cLine) : OpR X (compareOp .Eq) (rEqNilT X.K) := by
  intro pins s σ H x y v u Q I rx ry h
  obtain ⟨p, q, xs, rfl, rfl, hp, hq, k⟩ := h
  cases rx
  cases ry
  obtain ⟨is1, r1, p1, _⟩ := I.tuple hp
  obtain ⟨is2, r2, p2, _⟩ := I.tuple hq
  cases r2
  have z : ((List.range (min is1.toArray.size ([] : List Value).toArray.size)).all (fun _ => true) && is1.toArray.size == ([] : List Value).toArray.size) = xs.isEmpty := by
    cases xs with
    | nil =>
      cases r1
      rfl
    | cons x r =>
      cases r1
      simp
  refine SeqAt.eq_tupleAt (e := fun _ => true) p1 p2 hu (fun j _ h2 => absurd h2 (Nat.not_lt_zero _)) ?_
  rw [z]
  exact ⟨.bl xs.isEmpty, H, I, rfl, k⟩
end Vk
set_option maxHeartbeats 8000000
/-! what a board does -/
namespace Vk
open PySem PySem.Spec PyProof.Rows L2
section
variable {P : Program} {w : World} {K : PySem.W.Frag} {mg : Str → Option Value} {base : Heap} {CB : Addr}
/-- the rule of a board, as the program holds it: a level -/
theorem rule_level {H : Hp} {ft : List Addr} {rv : V} {r : Rl} (d : Dp K (OffL ft H) rv (bRulD r)) {i : Nat} (h : i < r.levels.length) : ∃ (p pl pe : Addr) (x y : V) (xs : List V), rv = .ref p ∧ SqT K H p [x, y] ∧ x = .ref pl ∧ SqT K H pl xs ∧ xs.length = r.levels.length ∧ xs[i]? = some (.ref pe) ∧
    SqT K H pe [.str (bKindS (r.stackAt i)), bOptW (r.quantAt i)] ∧ y = bOptW r.boost := by
  obtain ⟨p, x, y, rfl, q, dx, dy⟩ := dp_two d
  obtain ⟨pl, xs, rfl, ql, rl⟩ := dp_tuple dx
  have hl : r.levels[i]? = some (r.levels.getD i (false, none)) := by
    rw [List.getD_eq_getElem?_getD, List.getElem?_eq_getElem h]
    rfl
  obtain ⟨v, hv, dv⟩ := dps_get rl (i := i) (d := bLevD (r.levels.getD i (false, none))) (by rw [List.getElem?_map, hl]; rfl)
  obtain ⟨pe, x1, y1, rfl, qe, dx1, dy1⟩ := dp_two dv
  have e1 := dp_str dx1
  subst e1
  have opt : ∀ {o : Option Int} {v : V}, Dp K (OffL ft H) v (bOptD o) → v = bOptW o := fun {o v} h => by
    cases o with
    | none => (cases h; rfl)
    | some i => exact dp_int h
  have e2 := opt dy1
  subst e2
  have ln := dps_len rl
  rw [List.length_map] at ln
  exact ⟨p, pl, pe, _, y, xs, rfl, same_seqT (offL_sub ft H) q, rfl, same_seqT (offL_sub ft H) ql, ln, hv, same_seqT (offL_sub ft H) qe, opt dy⟩
/-- what a board keeps to beside the promise -/
structure BdR (K : PySem.W.Frag) (CB : Addr) (H : Hp) (b : Addr) (rv : V) (c : Int) (A : BdA) (s : Bd) (r : Rl) : Prop where
  at_ : BdAt CB K H b rv c A s
  ok : s.Ok0
  rule : Dp K (OffL (ftB b A) H) rv (bRulD r)
  lev : r.levels.length = s.lines.length
def spEnter (K : PySem.W.Frag) (CB : Addr) : Sp := fun vs H Q _ => ∃ (b : Addr) (rv : V) (c : Int) (A : BdA) (s : Bd) (r : Rl) (x : Str) (e : Nat), vs = [.ref b, .str x, .int e] ∧ BdR K CB H b rv c A s r ∧ x ∉ s.ran.map (·.1) ∧ s.ran.length < 1000 ∧
  ∀ H', BdAt CB K H' b rv c A (s.enter r x e) → Same (OffL (ftB b A) H) (OffL (ftB b A) H') → Q .non H'
theorem scEnter : FnScope ["self", "name", "entry", "level", "line"] ["self", "name", "entry"] (defScope sBdEnter) := ⟨rfl, rfl, rfl, by decide +kernel, rfl, by decide +kernel, by decide +kernel⟩
theorem ok_enter (D : MDf K CB "enter" "Board.enter" sBdEnter ["self", "name", "entry"]) (T : BdC K CB) (B : Blt mg) (mn : mg "min" = none) : MCl P w K mg base CX0 1 CB "enter" ["self", "name", "entry"] (spEnter K CB) := by
  refine mcl0 D scEnter (fun vs H Q E h => ?_) (fun f cdv Ar outer s0 H vs Q E hr h => ?_)
  · obtain ⟨b, rv, c, A, s, r, x, e, rfl, _⟩ := h
    rfl
  · obtain ⟨b, rv, c, A, s, r, x, e, rfl, ⟨BA, ok, dr, lev⟩, nx, small, k⟩ := h
    refine ⟨_, pss_cons (ps_set (i := 3) scEnter.nd rfl (Or.inl rfl) (pe_callB (call_min2 rfl) (by rfl) mn (by decide +kernel) (pa_cons (pv 2) (pa_cons (pe_op op_sub (pe_callB call_len_seq (by rfl) B.len PySem.boot_len (pa_cons (pe_fld (pv 0) rfl) pa_nil)) pe_int) pa_nil))))
      (pss_cons (ps_set (i := 4) scEnter.nd rfl (Or.inl rfl) (pe_ix ix_list (pe_fld (pv 0) rfl) (pv 3) (fun _ _ => rfl)))
      (pss_cons (ps_if (pt_cmpR op_eq (pe_ix ix_tup (pe_ix ix_tup (pe_ix ix_tup (pe_fld (pv 0) rfl) pe_int (fun _ _ => rfl)) (pv 3) (fun _ _ => rfl)) pe_int (fun _ _ => rfl)) pe_str (nomark _))
        (pss_one (ps_expr (pe_bm PySem.F.plainAttrs_list PySem.F.slot_list_insert PySem.F.type_list_insert mt_insert (pv 4) (pa_cons pe_int (pa_cons (pv 1) pa_nil)))))
        (pss_one (ps_expr (pe_bm PySem.F.plainAttrs_list PySem.F.slot_list_append PySem.F.type_list_append mt_append (pv 4) (pa_cons (pv 1) pa_nil)))))
      (pss_cons (ps_asg pe_int (pg_sub (pe_fld (pv 0) rfl) (pv 1) (set_dict (hu_of hr))))
      (pss_one (ps_asg pe_int (pg_sub (pe_fld (pv 0) rfl) (pv 1) (set_dict (hu_of hr)))))))), ?_⟩
    have l1 := ok.lines1
    have l6 := ok.lines6
    have elv : (if ((A.ls.map V.ref).length : Int) - 1 < (e : Int) then ((A.ls.map V.ref).length : Int) - 1 else (e : Int)) = ((min e (s.lines.length - 1) : Nat) : Int) := by
      rw [List.length_map, BA.len]
      split <;> omega
    refine ⟨_, rfl, _, rfl, b, CB, A.dx, _, _, rfl, BA.ob, T.cl, T.nL, bf_lines, A.L, _, rfl, .inl (SqL.of BA.lines), _, _, rfl, rfl, _, _, rfl, ?_⟩
    rw [elv]
    generalize hlv : min e (s.lines.length - 1) = lv
    have lvl : lv < s.lines.length := by omega
    have hns : s.lines[lv]? = some s.lines[lv] := List.getElem?_eq_getElem lvl
    have gns : s.lines.getD lv [] = s.lines[lv] := getD_at hns
    generalize s.lines[lv] = ns at hns gns
    obtain ⟨l, hl⟩ : ∃ l, A.ls[lv]? = some l := ⟨_, List.getElem?_eq_getElem (by rw [BA.len]; exact lvl)⟩
    have hln := BA.line lv l ns hl hns
    have nle := ok.line_le hns
    obtain ⟨p, pl, pe, x0, y0, xs, erv, qp, rfl, ql, lxs, hxs, qe, _⟩ := rule_level dr (i := lv) (by omega)
    have hz : ns.length < sizeLine := Nat.lt_of_le_of_lt nle (by decide)
    refine ⟨_, rfl, b, CB, A.dx, _, _, rfl, BA.ob, T.cl, T.nL, bf_lines, _, rfl, A.L, _, _, _, rfl, rfl, SqL.of BA.lines, atI_nat (by rw [List.getElem?_map, hl]; rfl), ?_⟩
    refine ⟨_, rfl, b, CB, A.dx, _, _, rfl, BA.ob, T.cl, T.nR, bf_rule, p, _, _, _, erv, rfl, qp, rfl, _, rfl, pl, _, _, _, rfl, rfl, ql, atI_nat hxs, pe, _, _, _, rfl, rfl, qe, rfl, rfl, ?_⟩
    have xnu : x ∉ s.used.map (·.1) := fun h => nx (ok.sub x ((ok.here x).mp h))
    have ule := ok.used_le
    have dst : decide (V.str (bKindS (r.stackAt lv)) = V.str "stack") = r.stackAt lv := by cases r.stackAt lv <;> decide
    apply cutR (α := L2.St → Hp → Prop) (F := fun R => ∀ H3, BdAt CB K H3 b rv c A { s with lines := s.lines.set lv (if r.stackAt lv = true then x :: ns else ns ++ [x]) } → OffL (ftB b A) H3 = OffL (ftB b A) H → R [some (.ref b), some (.str x), some (.int e), some (.int lv), some (.ref l)] H3)
    · intro cont
      have lm : l ∈ ftB b A := by simp [ftB, List.mem_of_getElem? hl]
      refine ⟨_, rfl, ?_⟩
      by_cases st : r.stackAt lv = true
      · rw [dst, st]
        refine iteT ?_
        refine ⟨_, rfl, .inl ⟨rfl, _, SqL.of hln⟩, _, rfl, l, _, 0, _, rfl, rfl, hln, by rw [List.length_map]; exact hz, by decide, by decide, ?_⟩
        refine cont _ ?_ (offL_upd lm)
        rw [if_pos st]
        exact BA.setLine (ns := x :: ns) hl
      · rw [dst, Bool.eq_false_iff.mpr st]
        refine iteF ?_
        refine ⟨_, rfl, .inl ⟨rfl, _, SqL.of hln⟩, _, rfl, l, _, _, rfl, rfl, hln, by rw [List.length_map]; exact hz, ?_⟩
        refine cont _ ?_ (offL_upd lm)
        rw [if_neg st]
        have z := BA.setLine (ns := ns ++ [x]) hl
        rw [List.map_append] at z
        exact z
    · intro H3 B3 o3
      have um : A.u ∈ ftB b A := by simp [ftB]
      have rm : A.n ∈ ftB b A := by simp [ftB]
      refine ⟨_, rfl, b, CB, A.dx, _, _, rfl, B3.ob, T.cl, T.nU, bf_used, _, rfl, A.u, _, rfl, DPut.k (k := (.inr x : Key)) B3.used ?_, ?_⟩
      · unfold kvS
        rw [List.length_map]
        exact Nat.lt_of_le_of_lt ule (by decide)
      rw [putK_new_S xnu]
      have B4 := B3.setUsed (s.used ++ [(x, 0)])
      generalize hG4 : upd H3 A.u (.dK (kvS (s.used ++ [(x, 0)]))) = G4 at B4
      have o4 : OffL (ftB b A) G4 = OffL (ftB b A) H := by rw [← hG4, offL_upd um]; exact o3
      refine ⟨_, rfl, b, CB, A.dx, _, _, rfl, B4.ob, T.cl, T.nA, bf_ran, _, rfl, A.n, _, rfl, DPut.k (k := (.inr x : Key)) B4.ran ?_, ?_⟩
      · unfold kvS
        rw [List.length_map]
        exact Nat.lt_trans small (by decide)
      rw [putK_new_S nx]
      refine k _ ?_ (by rw [offL_upd rm, o4]; exact Same.refl _)
      unfold Bd.enter
      rw [hlv, gns]
      exact B4.setRan (s.ran ++ [(x, 0)])
end
end Vk
set_option maxHeartbeats 8000000
/-! where a quantum ends -/
namespace Vk
open PySem PySem.Spec PyProof.Rows L2
theorem Bd.quanta_len {r : Rl} {s : Bd} {x : Str} : (s.quanta1 r x).lines.length = s.lines.length := by
  unfold Bd.quanta1
  split
  · show ((s.lines.set _ _).set _ _).length = _
    rw [List.length_set, List.length_set]
  · rfl
theorem Bd.Ok0.quantas {r : Rl} : ∀ {xs : List Str} {s : Bd}, s.Ok0 → (∀ x ∈ xs, x ∈ s.order) → (xs.foldl (Bd.quanta1 r) s).Ok0 ∧ (xs.foldl (Bd.quanta1 r) s).order.Perm s.order ∧ (xs.foldl (Bd.quanta1 r) s).lines.length = s.lines.length
  | [], s, h, _ => ⟨h, List.Perm.refl _, rfl⟩
  | x :: xs, s, h, hx => by
    have h0 := hx x (List.mem_cons_self ..)
    have p := Bd.quanta_order (r := r) h.lines1 h0
    obtain ⟨a1, a2, a3⟩ := Bd.Ok0.quantas (r := r) (xs := xs) (h.quanta1 (r := r) h0) fun y hy => p.mem_iff.mpr (hx y (List.mem_cons_of_mem _ hy))
    exact ⟨a1, a2.trans p, a3.trans Bd.quanta_len⟩
section
variable {P : Program} {w : World} {K : PySem.W.Frag} {mg : Str → Option Value} {base : Heap} {CB : Addr}
def spQuanta (K : PySem.W.Frag) (CB : Addr) : Sp := fun vs H Q _ => ∃ (b : Addr) (rv : V) (c : Int) (A : BdA) (s : Bd) (r : Rl) (ln : Addr) (xs : List Str), vs = [.ref b, .ref ln] ∧ BdR K CB H b rv c A s r ∧ OffL (ftB b A) H ln = some (.lst (xs.map V.str)) ∧ (∀ x ∈ xs, x ∈ s.order) ∧
  ∀ H', BdAt CB K H' b rv c A (xs.foldl (Bd.quanta1 r) s) → Same (OffL (ftB b A) H) (OffL (ftB b A) H') → Q .non H'
theorem scQuanta : FnScope ["self", "names", "name", "level"] ["self", "names"] (defScope sBdEndQuanta) := ⟨rfl, rfl, rfl, by decide +kernel, rfl, by decide +kernel, by decide +kernel⟩
theorem ok_quanta (D : MDf K CB "end_quanta" "Board.end_quanta" sBdEndQuanta ["self", "names"]) (T : BdC K CB) (B : Blt mg) (mn : mg "min" = none) (LO : MCl P w K mg base CX0 1 CB "level_of" ["self", "name"] (spLevelOf K CB)) : MCl P w K mg base CX0 2 CB "end_quanta" ["self", "names"] (spQuanta K CB) := by
  refine mcl0 D scQuanta (fun vs H Q E h => ?_) (fun f cdv Ar outer s0 H vs Q E hr h => ?_)
  · obtain ⟨b, rv, c, A, s, r, ln, xs, rfl, _⟩ := h
    rfl
  · obtain ⟨b, rv, c, A, s, r, ln, xs, rfl, ⟨BA, ok, dr, lev⟩, hln, sub, k⟩ := h
    obtain ⟨fO, fdO, MO, bO, FO⟩ := LO.ex
    refine ⟨_, pss_one (ps_for PassesOwn.never rfl (pi_list (pv 1)) (pg_name (i := 2) scQuanta.nd rfl (Or.inl rfl))
      (pss_cons (ps_set (i := 3) scQuanta.nd rfl (Or.inl rfl) (pe_meth (pv 0) T.cl MO FO hr bO .nil pass0 (pa_cons (pv 2) pa_nil)))
      (pss_one (ps_if (pt_cmpR op_eq (pe_dget (hu_of hr) (pe_fld (pv 0) rfl) (pv 2) (fun _ _ => rfl)) (pe_ix ix_tup (pe_ix ix_tup (pe_ix ix_tup (pe_fld (pv 0) rfl) pe_int (fun _ _ => rfl)) (pv 3) (fun _ _ => rfl)) pe_int (fun _ _ => rfl)) (nomark _))
        (pss_cons (ps_expr (pe_bm PySem.F.plainAttrs_list PySem.F.slot_list_remove PySem.F.type_list_remove mt_removeS (pe_ix ix_list (pe_fld (pv 0) rfl) (pv 3) (fun _ _ => rfl)) (pa_cons (pv 2) pa_nil)))
        (pss_cons (ps_expr (pe_bm PySem.F.plainAttrs_list PySem.F.slot_list_append PySem.F.type_list_append mt_append (pe_ix ix_list (pe_fld (pv 0) rfl) (pe_callB (call_min2 rfl) (by rfl) mn (by decide +kernel) (pa_cons (pe_op op_add (pv 3) pe_int) (pa_cons (pe_op op_sub (pe_callB call_len_seq (by rfl) B.len PySem.boot_len (pa_cons (pe_fld (pv 0) rfl) pa_nil)) pe_int) pa_nil))) (fun _ _ => rfl)) (pa_cons (pv 2) pa_nil)))
        (pss_one (ps_asg pe_int (pg_sub (pe_fld (pv 0) rfl) (pv 2) (set_dict (hu_of hr)))))))
        pss_nil)))), ?_⟩
    have hl0 : H ln = some (.lst (xs.map V.str)) := (offL_sub (ftB b A) H).at hln
    refine ⟨_, rfl, ln, rfl, ⟨_, SqL.of hl0⟩, ?_⟩
    refine for_it (D := { nx := _, rt := _ }) (walk_list (K := K) (a := ln) (xs := xs.map V.str)) (fun i σ G => ∃ (u2 u3 : Option V), σ = [some (.ref b), some (.ref ln), u2, u3] ∧ BdAt CB K G b rv c A ((xs.take i).foldl (Bd.quanta1 r) s) ∧ Same (OffL (ftB b A) H) (OffL (ftB b A) G))
      ⟨none, none, rfl, BA, Same.refl _⟩ (fun i σ G _ ⟨_, _, _, _, sG⟩ => SqL.of ((offL_sub (ftB b A) G).at (sG.at hln))) ?_ ?_
    · rintro i y σ G0 G hi ⟨u2, u3, rfl, BG, sG⟩ ⟨rfl, hy⟩
      rw [List.getElem?_map] at hy
      obtain ⟨x, hx, rfl⟩ := Option.map_eq_some_iff.mp hy
      have sub1 : ∀ z ∈ xs.take i, z ∈ s.order := fun z hz => sub z (List.mem_of_mem_take hz)
      obtain ⟨ok1, pm, ll⟩ := ok.quantas (r := r) sub1
      have ef : (xs.take (i + 1)).foldl (Bd.quanta1 r) s = Bd.quanta1 r ((xs.take i).foldl (Bd.quanta1 r) s) x := by
        rw [List.take_add_one, hx, List.foldl_append]
        rfl
      rw [ef]
      have xo := pm.mem_iff.mpr (sub x (List.mem_of_getElem? hx))
      generalize (xs.take i).foldl (Bd.quanta1 r) s = s1 at BG ok1 ll xo ⊢
      refine ⟨_, rfl, b, A.dx, _, rfl, BG.ob, by kernel_rfl, _, rfl, b, rv, c, A, s1, x, rfl, BG, ok1, xo, fun G1 sG1 => ?_⟩
      have B1 := BG.same sG1
      have sH1 := sG.trans (offL_mono (ft := ftB b A) sG1)
      have dr1 := dp_same sH1 dr
      obtain ⟨ns, hns, xns⟩ := Bd.level_at xo
      have gns : s1.lines.getD (s1.level x) [] = ns := getD_at hns
      generalize hlv : s1.level x = lv at hns gns
      have lvl : lv < s1.lines.length := (List.getElem?_eq_some_iff.mp hns).1
      obtain ⟨p, pl, pe, x0, y0, ys, erv, qp, rfl, ql, lxs, hxs, qe, _⟩ := rule_level dr1 (i := lv) (by omega)
      obtain ⟨l, hl⟩ : ∃ l, A.ls[lv]? = some l := ⟨_, List.getElem?_eq_getElem (by rw [B1.len]; exact lvl)⟩
      have hln1 := B1.line lv l ns hl hns
      have xu : x ∈ s1.used.map (·.1) := (ok1.here x).mpr xo
      refine ⟨_, rfl, b, CB, A.dx, _, _, rfl, B1.ob, T.cl, T.nU, bf_used, _, rfl, A.u, .int (getS s1.used x), rfl, ?_, ?_⟩
      · have z := DGet.k (k := (.inr x : Key)) B1.used
        rw [valS, lookS xu] at z
        exact z
      refine ⟨_, rfl, b, CB, A.dx, _, _, rfl, B1.ob, T.cl, T.nR, bf_rule, p, _, _, _, erv, rfl, qp, rfl, _, rfl, pl, _, _, _, rfl, rfl, ql, atI_nat hxs, pe, _, _, _, rfl, rfl, qe, rfl, by cases r.quantAt lv <;> rfl, ?_⟩
      have dq : decide (V.int (getS s1.used x) = bOptW (r.quantAt lv)) = decide (r.quantAt lv = some (getS s1.used x)) := by
        cases r.quantAt lv with
        | none => rfl
        | some q =>
          show decide (V.int _ = V.int q) = _
          by_cases z : getS s1.used x = q
          · rw [z]; simp
          · rw [decide_eq_false (fun e => z (V.int.inj e)), decide_eq_false (fun e => z (Option.some.inj e).symm)]
      refine ⟨_, rfl, ?_⟩
      rw [dq]
      have l1 := ok1.lines1
      have l6 := ok1.lines6
      have ule := ok1.used_le
      have ole := ok1.order_le
      by_cases hq : r.quantAt lv = some (getS s1.used x)
      · rw [decide_eq_true hq]
        refine iteT ?_
        have hz : ∀ n : Nat, n ≤ 1000 → n < sizeLine := fun n hn => Nat.lt_of_le_of_lt hn (by decide)
        have hvl : (A.ls.map V.ref)[lv]? = some (.ref l) := by rw [List.getElem?_map, hl]; rfl
        have lm : l ∈ ftB b A := by simp [ftB, List.mem_of_getElem? hl]
        have um : A.u ∈ ftB b A := by simp [ftB]
        refine ⟨_, rfl, b, CB, A.dx, _, _, rfl, B1.ob, T.cl, T.nL, bf_lines, _, rfl, A.L, _, _, _, rfl, rfl, SqL.of B1.lines, atI_nat hvl, .inl ⟨rfl, _, SqL.of hln1⟩, _, rfl, l, ns, x, rfl, rfl, hln1, xns, ?_⟩
        have B2 := B1.setLine (ns := ns.erase x) hl
        have o2 : OffL (ftB b A) (upd G1 l (.lst ((ns.erase x).map V.str))) = OffL (ftB b A) G1 := offL_upd lm
        generalize upd G1 l (.lst ((ns.erase x).map V.str)) = G2 at B2 o2 ⊢
        have enl : (if ((A.ls.map V.ref).length : Int) - 1 < (lv : Int) + 1 then ((A.ls.map V.ref).length : Int) - 1 else (lv : Int) + 1) = ((min (lv + 1) (s1.lines.length - 1) : Nat) : Int) := by
          rw [List.length_map, B1.len]
          split <;> omega
        have ll2 : (s1.lines.set lv (ns.erase x)).length = s1.lines.length := List.length_set
        generalize hnl : min (lv + 1) (s1.lines.length - 1) = nl at enl
        have nll : nl < (s1.lines.set lv (ns.erase x)).length := by omega
        obtain ⟨l2, hl2⟩ : ∃ l2, A.ls[nl]? = some l2 := ⟨_, List.getElem?_eq_getElem (by rw [B1.len, ← ll2]; exact nll)⟩
        have hms : (s1.lines.set lv (ns.erase x))[nl]? = some (s1.lines.set lv (ns.erase x))[nl] := List.getElem?_eq_getElem nll
        have gms : (s1.lines.set lv (ns.erase x)).getD nl [] = (s1.lines.set lv (ns.erase x))[nl] := getD_at hms
        generalize (s1.lines.set lv (ns.erase x))[nl] = ms at hms gms
        have hvl2 : (A.ls.map V.ref)[nl]? = some (.ref l2) := by rw [List.getElem?_map, hl2]; rfl
        have hl2G := B2.line nl l2 ms hl2 hms
        have mle : ms.length ≤ 1000 := by
          have z1 : ms.Sublist (s1.lines.set lv (ns.erase x)).flatten := List.sublist_flatten_of_mem (List.mem_of_getElem? hms)
          have z2 := (Bd.out_order xo).length_eq
          have z3 : (s1.out x).order = (s1.lines.set lv (ns.erase x)).flatten := by
            show (s1.lines.set (s1.level x) ((s1.lines.getD (s1.level x) []).erase x)).flatten = _
            rw [hlv, gns]
          rw [z3, List.length_cons] at z2
          have := z1.length_le
          omega
        refine ⟨_, rfl, b, CB, A.dx, _, _, rfl, B2.ob, T.cl, T.nL, bf_lines, _, rfl, _, _, rfl, rfl, _, rfl, b, CB, A.dx, _, _, rfl, B2.ob, T.cl, T.nL, bf_lines, A.L, _, rfl, .inl (SqL.of B2.lines), _, _, rfl, rfl, _, _, rfl, ?_⟩
        rw [enl]
        refine ⟨A.L, _, _, _, rfl, rfl, SqL.of B2.lines, atI_nat hvl2, .inl ⟨rfl, _, SqL.of hl2G⟩, _, rfl, l2, _, _, rfl, rfl, hl2G, by rw [List.length_map]; exact hz _ mle, ?_⟩
        have B3 := B2.setLine (ns := ms ++ [x]) hl2
        rw [List.map_append] at B3
        have o3 : OffL (ftB b A) (upd G2 l2 (.lst (ms.map V.str ++ [V.str x]))) = OffL (ftB b A) G1 := by
          rw [offL_upd (by simp [ftB, List.mem_of_getElem? hl2])]
          exact o2
        replace B3 : BdAt CB K (upd G2 l2 (.lst (ms.map V.str ++ [V.str x]))) b rv c A { s1 with lines := (s1.lines.set lv (ns.erase x)).set nl (ms ++ [x]) } := B3
        generalize upd G2 l2 (.lst (ms.map V.str ++ [V.str x])) = G3 at B3 o3 ⊢
        refine ⟨_, rfl, b, CB, A.dx, _, _, rfl, B3.ob, T.cl, T.nU, bf_used, _, rfl, A.u, _, rfl, DPut.k (k := (.inr x : Key)) B3.used ?_, ?_⟩
        · unfold kvS
          rw [List.length_map]
          exact hz _ ule
        rw [putK_S xu]
        refine ⟨_, _, rfl, ?_, by rw [offL_upd um, o3]; exact sH1⟩
        have eq : Bd.quanta1 r s1 x = { s1 with lines := (s1.lines.set lv (ns.erase x)).set nl (ms ++ [x]), used := putS s1.used x 0 } := by
          have z3 : (s1.out x).lines = s1.lines.set lv (ns.erase x) := by
            show s1.lines.set (s1.level x) ((s1.lines.getD (s1.level x) []).erase x) = _
            rw [hlv, gns]
          unfold Bd.quanta1
          rw [hlv, if_pos hq, z3, hnl, gms]
        rw [eq]
        exact B3.setUsed (putS s1.used x 0)
      · rw [decide_eq_false hq]
        refine iteF ?_
        refine ⟨_, _, rfl, ?_, sH1⟩
        unfold Bd.quanta1
        rw [hlv, if_neg hq]
        exact B1
    · rintro σ G ⟨u2, u3, rfl, BG, sG⟩
      rw [List.length_map, List.take_length] at BG
      exact k G BG sG
end
end Vk
set_option maxHeartbeats 4000000
/-! a field of a board gets a new object -/
namespace Vk
open PySem PySem.Spec PyProof.Rows L2
section
variable {CB : Addr} {K : PySem.W.Frag} {H0 H : Hp} {b : Addr} {rv : V} {c : Int} {A : BdA} {s : Bd}
theorem BdAt.here (B : BdAt CB K H0 b rv c A s) {x : Addr} (h : x ∈ ftB b A) : H0 x ≠ none := by
  obtain ⟨xs, f1, _⟩ := B.fins
  simp only [ftB, List.mem_cons] at h
  rcases h with rfl | rfl | rfl | rfl | rfl | h
  · rw [B.ob]; simp
  · rw [B.lines]; simp
  · rw [B.used]; simp
  · rw [B.ran]; simp
  · rw [f1]; simp
  · obtain ⟨_, _, _, _, e⟩ := B.at_line h
    rw [e]; simp
theorem BdAt.newLines (B : BdAt CB K H0 b rv c A s) (k : Same H0 H) {L' : Addr} {ls : List Addr} {lines : List (List Str)} (hL : H L' = some (.lst (ls.map V.ref))) (nL : H0 L' = none) (nl : ∀ l ∈ ls, H0 l = none) (len : ls.length = lines.length)
    (line : ∀ (i : Nat) l ns, ls[i]? = some l → lines[i]? = some ns → H l = some (.lst (ns.map V.str))) (nd : (L' :: ls).Nodup) :
    BdAt CB K (upd H b (.ins CB A.dx (bf rv c s.now { A with L := L', ls := ls }))) b rv c { A with L := L', ls := ls } { s with lines := lines } ∧
    Same (OffL (ftB b A) H0) (OffL (ftB b { A with L := L', ls := ls }) (upd H b (.ins CB A.dx (bf rv c s.now { A with L := L', ls := ls })))) := by
  obtain ⟨xs, f1, f2⟩ := B.fins
  have ne : ∀ {x y : Addr}, H0 x ≠ none → H0 y = none → y ≠ x := fun h1 h2 e => h1 (by rw [← e]; exact h2)
  have mb : b ∈ ftB b { A with L := L', ls := ls } := by simp [ftB]
  have sw : Same (OffL (ftB b A) H0) (OffL (ftB b { A with L := L', ls := ls }) H0) := offL_swap fun x hx => by
    simp only [ftB, List.mem_cons] at hx ⊢
    rcases hx with rfl | rfl | rfl | rfl | rfl | h
    · exact .inl (.inl rfl)
    · exact .inr nL
    · exact .inl (.inr (.inr (.inl rfl)))
    · exact .inl (.inr (.inr (.inr (.inl rfl))))
    · exact .inl (.inr (.inr (.inr (.inr (.inl rfl)))))
    · exact .inr (nl x h)
  have sm := sw.trans (offL_mono (ft := ftB b { A with L := L', ls := ls }) k)
  have hb := B.here (x := b) (by simp [ftB])
  have hF := B.here (x := A.F) (by simp [ftB])
  refine ⟨⟨upd_same, by rw [upd_ne (ne hb nL)]; exact hL, len, fun i l ns h1 h2 => by rw [upd_ne (ne hb (nl l (List.mem_of_getElem? h1)))]; exact line i l ns h1 h2, by rw [upd_ne B.bu.symm]; exact k.at B.used, by rw [upd_ne B.bn.symm]; exact k.at B.ran,
    ⟨xs, by rw [upd_ne B.bF.symm]; exact k.at f1, by rw [offL_upd mb]; exact dps_same sm f2⟩, ?_, B.un⟩, by rw [offL_upd mb]; exact sm⟩
  obtain ⟨n1, n2⟩ := List.nodup_cons.mp nd
  refine List.nodup_cons.mpr ⟨?_, List.nodup_cons.mpr ⟨fun h => ne hF (nl _ h) rfl, n2⟩⟩
  simp only [List.mem_cons, not_or]
  exact ⟨ne hF nL, n1⟩
theorem BdAt.newUsed (B : BdAt CB K H0 b rv c A s) (k : Same H0 H) {u' : Addr} {us : List (Str × Int)} (hu : H u' = some (.dK (kvS us))) (nu : H0 u' = none) :
    BdAt CB K (upd H b (.ins CB A.dx (bf rv c s.now { A with u := u' }))) b rv c { A with u := u' } { s with used := us } ∧
    Same (OffL (ftB b A) H0) (OffL (ftB b { A with u := u' }) (upd H b (.ins CB A.dx (bf rv c s.now { A with u := u' })))) := by
  obtain ⟨xs, f1, f2⟩ := B.fins
  have ne : ∀ {x y : Addr}, H0 x ≠ none → H0 y = none → y ≠ x := fun h1 h2 e => h1 (by rw [← e]; exact h2)
  have mb : b ∈ ftB b { A with u := u' } := by simp [ftB]
  have sw : Same (OffL (ftB b A) H0) (OffL (ftB b { A with u := u' }) H0) := offL_swap fun x hx => by
    simp only [ftB, List.mem_cons] at hx ⊢
    rcases hx with rfl | rfl | rfl | rfl | rfl | h
    · exact .inl (.inl rfl)
    · exact .inl (.inr (.inl rfl))
    · exact .inr nu
    · exact .inl (.inr (.inr (.inr (.inl rfl))))
    · exact .inl (.inr (.inr (.inr (.inr (.inl rfl)))))
    · exact .inl (.inr (.inr (.inr (.inr (.inr h)))))
  have sm := sw.trans (offL_mono (ft := ftB b { A with u := u' }) k)
  have hb := B.here (x := b) (by simp [ftB])
  have hn := B.here (x := A.n) (by simp [ftB])
  exact ⟨⟨upd_same, by rw [upd_ne B.bL.symm]; exact k.at B.lines, B.len, fun i l ns h1 h2 => by rw [upd_ne (B.bl (List.mem_of_getElem? h1))]; exact k.at (B.line i l ns h1 h2), by rw [upd_ne (ne hb nu)]; exact hu, by rw [upd_ne B.bn.symm]; exact k.at B.ran,
    ⟨xs, by rw [upd_ne B.bF.symm]; exact k.at f1, by rw [offL_upd mb]; exact dps_same sm f2⟩, B.nd, ne hn nu⟩, by rw [offL_upd mb]; exact sm⟩
theorem BdAt.newRan (B : BdAt CB K H0 b rv c A s) (k : Same H0 H) {u' : Addr} {us : List (Str × Int)} (hu : H u' = some (.dK (kvS us))) (nu : H0 u' = none) :
    BdAt CB K (upd H b (.ins CB A.dx (bf rv c s.now { A with n := u' }))) b rv c { A with n := u' } { s with ran := us } ∧
    Same (OffL (ftB b A) H0) (OffL (ftB b { A with n := u' }) (upd H b (.ins CB A.dx (bf rv c s.now { A with n := u' })))) := by
  obtain ⟨xs, f1, f2⟩ := B.fins
  have ne : ∀ {x y : Addr}, H0 x ≠ none → H0 y = none → y ≠ x := fun h1 h2 e => h1 (by rw [← e]; exact h2)
  have mb : b ∈ ftB b { A with n := u' } := by simp [ftB]
  have sw : Same (OffL (ftB b A) H0) (OffL (ftB b { A with n := u' }) H0) := offL_swap fun x hx => by
    simp only [ftB, List.mem_cons] at hx ⊢
    rcases hx with rfl | rfl | rfl | rfl | rfl | h
    · exact .inl (.inl rfl)
    · exact .inl (.inr (.inl rfl))
    · exact .inl (.inr (.inr (.inl rfl)))
    · exact .inr nu
    · exact .inl (.inr (.inr (.inr (.inr (.inl rfl)))))
    · exact .inl (.inr (.inr (.inr (.inr (.inr h)))))
  have sm := sw.trans (offL_mono (ft := ftB b { A with n := u' }) k)
  have hb := B.here (x := b) (by simp [ftB])
  have hn := B.here (x := A.u) (by simp [ftB])
  exact ⟨⟨upd_same, by rw [upd_ne B.bL.symm]; exact k.at B.lines, B.len, fun i l ns h1 h2 => by rw [upd_ne (B.bl (List.mem_of_getElem? h1))]; exact k.at (B.line i l ns h1 h2), by rw [upd_ne B.bu.symm]; exact k.at B.used, by rw [upd_ne (ne hb nu)]; exact hu,
    ⟨xs, by rw [upd_ne B.bF.symm]; exact k.at f1, by rw [offL_upd mb]; exact dps_same sm f2⟩, B.nd, (ne hn nu).symm⟩, by rw [offL_upd mb]; exact sm⟩
theorem BdAt.newFins (B : BdAt CB K H0 b rv c A s) (k : Same H0 H) {F' : Addr} {fs : List (Int × List Str × List Str)} {xs : List V} (hF : H F' = some (.lst xs)) (nF : H0 F' = none) (d : DpAll K (OffL (ftB b A) H0) xs (fs.map finD)) :
    BdAt CB K (upd H b (.ins CB A.dx (bf rv c s.now { A with F := F' }))) b rv c { A with F := F' } { s with fins := fs } ∧
    Same (OffL (ftB b A) H0) (OffL (ftB b { A with F := F' }) (upd H b (.ins CB A.dx (bf rv c s.now { A with F := F' })))) := by
  have ne : ∀ {x y : Addr}, H0 x ≠ none → H0 y = none → y ≠ x := fun h1 h2 e => h1 (by rw [← e]; exact h2)
  have mb : b ∈ ftB b { A with F := F' } := by simp [ftB]
  have sw : Same (OffL (ftB b A) H0) (OffL (ftB b { A with F := F' }) H0) := offL_swap fun x hx => by
    simp only [ftB, List.mem_cons] at hx ⊢
    rcases hx with rfl | rfl | rfl | rfl | rfl | h
    · exact .inl (.inl rfl)
    · exact .inl (.inr (.inl rfl))
    · exact .inl (.inr (.inr (.inl rfl)))
    · exact .inl (.inr (.inr (.inr (.inl rfl))))
    · exact .inr nF
    · exact .inl (.inr (.inr (.inr (.inr (.inr h)))))
  have sm := sw.trans (offL_mono (ft := ftB b { A with F := F' }) k)
  have hb := B.here (x := b) (by simp [ftB])
  have hL := B.here (x := A.L) (by simp [ftB])
  refine ⟨⟨upd_same, by rw [upd_ne B.bL.symm]; exact k.at B.lines, B.len, fun i l ns h1 h2 => by rw [upd_ne (B.bl (List.mem_of_getElem? h1))]; exact k.at (B.line i l ns h1 h2), by rw [upd_ne B.bu.symm]; exact k.at B.used, by rw [upd_ne B.bn.symm]; exact k.at B.ran,
    ⟨xs, by rw [upd_ne (ne hb nF)]; exact hF, by rw [offL_upd mb]; exact dps_same sm d⟩, ?_, B.un⟩, by rw [offL_upd mb]; exact sm⟩
  have nd := B.nd
  simp only [List.nodup_cons, List.mem_cons, not_or] at nd ⊢
  exact ⟨⟨(ne hL nF).symm, nd.1.2⟩, fun h => ne (B.here (x := F') (by simp [ftB, h])) nF rfl, nd.2.2⟩
end
end Vk
set_option maxHeartbeats 8000000
/-! the boost -/
namespace Vk
open PySem PySem.Spec PyProof.Rows L2
section
variable {P : Program} {w : World} {K : PySem.W.Frag} {mg : Str → Option Value} {base : Heap} {CB : Addr}
/-- as many new empty lists, one behind the other, in the list at D -/
def Fresh (H0 : Hp) (D : Addr) (n : Nat) (H : Hp) : Prop := ∃ ls : List Addr, ls.length = n ∧ H D = some (.lst (ls.map V.ref)) ∧ (∀ l ∈ ls, H l = some (.lst []) ∧ H0 l = none ∧ l ≠ D) ∧ ls.Nodup ∧ Same H0 (Off D H)
theorem Fresh.zero {H0 : Hp} {D : Addr} (h : H0 D = none) : Fresh H0 D 0 (upd H0 D (.lst [])) := ⟨[], rfl, upd_same, fun l hl => absurd hl (by simp), List.nodup_nil, off_newB h⟩
theorem Fresh.next {H0 H : Hp} {D L : Addr} {n : Nat} (f : Fresh H0 D n H) (hD : H0 D = none) (nL : H L = none) : ∃ acc, upd H L (.lst []) D = some (.lst acc) ∧ acc.length = n ∧ Fresh H0 D (n + 1) (upd (upd H L (.lst [])) D (.lst (acc ++ [V.ref L]))) := by
  obtain ⟨ls, h1, h2, h3, h4, h5⟩ := f
  have LD : L ≠ D := fun e => by rw [e, h2] at nL; cases nL
  have n0 : H0 L = none := by
    by_cases z : H0 L = none
    · exact z
    · have y := h5.has L z
      rw [off_ne LD, nL] at y
      exact absurd rfl y
  refine ⟨ls.map V.ref, by rw [upd_ne (Ne.symm LD)]; exact h2, by rw [List.length_map]; exact h1, ls ++ [L], by rw [List.length_append, h1]; rfl, by rw [upd_same, List.map_append]; rfl, fun l hl => ?_, ?_, ?_⟩
  · rcases List.mem_append.mp hl with hl | hl
    · obtain ⟨a1, a2, a3⟩ := h3 l hl
      have lL : l ≠ L := fun e => by rw [e, nL] at a1; cases a1
      exact ⟨by rw [upd_ne a3, upd_ne lL]; exact a1, a2, a3⟩
    · rw [List.mem_singleton.mp hl]
      exact ⟨by rw [upd_ne LD, upd_same], n0, LD⟩
  · refine List.nodup_append.mpr ⟨h4, by simp, fun a ha b hb e => ?_⟩
    rw [List.mem_singleton.mp hb] at e
    have z := (h3 a ha).1
    rw [e, nL] at z
    cases z
  · rw [off_upd]
    exact h5.trans (off_mono (a := D) (same_new nL))
def spLift (K : PySem.W.Frag) (CB : Addr) : Sp := fun vs H Q _ => ∃ (b : Addr) (rv : V) (c : Int) (A : BdA) (s : Bd) (r : Rl), vs = [.ref b] ∧ BdR K CB H b rv c A s r ∧
  ∀ (A' : BdA) (H' : Hp), BdAt CB K H' b rv c A' s.lift → Same (OffL (ftB b A) H) (OffL (ftB b A') H') → Q .non H'
theorem scLift : FnScope ["self", "_", "name"] ["self"] (defScope sBdLift) := ⟨rfl, rfl, rfl, by decide +kernel, rfl, by decide +kernel, by decide +kernel⟩
theorem ok_lift (D : MDf K CB "lift" "Board.lift" sBdLift ["self"]) (T : BdC K CB) (OR : MCl P w K mg base CX0 1 CB "order" ["self"] (spOrder K CB)) : MCl P w K mg base CX0 2 CB "lift" ["self"] (spLift K CB) := by
  refine mcl0 D scLift (fun vs H Q E h => ?_) (fun f cdv Ar outer s0 H vs Q E hr h => ?_)
  · obtain ⟨b, rv, c, A, s, r, rfl, _⟩ := h
    rfl
  · obtain ⟨b, rv, c, A, s, r, rfl, ⟨BA, ok, dr, lev⟩, k⟩ := h
    obtain ⟨fO, fdO, MO, bO, FO⟩ := OR.ex
    have l1 := ok.lines1
    have l6 := ok.lines6
    refine ⟨_, pss_cons (ps_fld (pv 0) (pe_op op_cat (pe_lst (pa_cons (pe_meth0 (pv 0) T.cl MO FO hr bO .nil pass0) pa_nil))
        (pe_lc (own := [("_", 1)]) (g := gName 1) (tt := tYes) (te := tLst tNil) (by rfl) scLift.nd (pi_tup (pe_slice sl_tupA (pe_ix ix_tup (pe_fld (pv 0) rfl) pe_int (fun _ _ => rfl)) (po_some pe_int) po_none))
          (blkOk_by (own := [("_", 1)]) (N := ["self", "_", "name"]) (sc := defScope sBdLift) (by decide +kernel)) (fun _ _ _ _ _ => pg_name (i := 1) scLift.nd rfl (Or.inl rfl)) (fun _ _ _ _ _ => pts_nil) (fun _ _ _ _ _ => pe_lst pa_nil))) (by rfl))
      (pss_one (ps_fld (pv 0) (pe_lock (pe_dc (own := [("name", 2)]) (g := gName 2) (tt := tYes) (tk := tVar 2) (tv := tC (.int 0)) (by rfl) scLift.nd (pi_keys (pe_fld (pv 0) rfl))
          (blkOk_by (own := [("name", 2)]) (N := ["self", "_", "name"]) (sc := defScope sBdLift) (by decide +kernel)) (fun _ _ _ _ _ => pg_name (i := 2) scLift.nd rfl (Or.inl rfl)) (fun _ _ _ _ _ => pts_nil) (fun _ _ _ _ _ => pv 2) (fun _ _ _ _ _ => pe_int))) (by rfl))), ?_⟩
    refine ⟨_, rfl, b, A.dx, _, rfl, BA.ob, by kernel_rfl, b, rv, c, A, s, rfl, BA, ok, fun D0 H1 nD s1 hD => ?_⟩
    obtain ⟨p, pl, pe, x0, y0, xs, erv, qp, rfl, ql, lxs, hxs, qe, _⟩ := rule_level dr (i := 0) (by omega)
    refine ⟨by show 1 ≤ sizeLine; decide, fun L1 nL1 => ?_⟩
    have sA := same_new (o := .lst [V.ref D0]) nL1
    have qlA := same_seqT (s1.trans sA) ql
    refine ⟨_, rfl, b, CB, A.dx, _, _, rfl, (s1.trans sA).at BA.ob, T.cl, T.nR, bf_rule, p, _, _, _, erv, rfl, same_seqT (s1.trans sA) qp, rfl, _, rfl, ?_⟩
    dsimp only [tNoPart]
    have h1lo : HT.sIx xs.length 0 (some (1 : Int)) = min 1 xs.length := HT.sIx_nat xs.length 0 1
    refine ⟨pl, xs, rfl, qlA, fun z => absurd (h1lo ▸ z.1) (by omega), fun _ p2 np2 => ?_⟩
    have lcut : (cutV xs (some 1) none).length = xs.length - 1 := by
      unfold cutV
      rw [h1lo, HT.sIx_none, List.length_take, List.length_drop]
      omega
    have sB := same_new (o := .tup (cutV xs (some 1) none)) np2
    have hpB : upd (upd H1 L1 (.lst [V.ref D0])) p2 (.tup (cutV xs (some 1) none)) p2 = some (.tup (cutV xs (some 1) none)) := upd_same
    generalize hHB : upd (upd H1 L1 (.lst [V.ref D0])) p2 (.tup (cutV xs (some 1) none)) = HB at sB hpB ⊢
    have hL1B : HB L1 = some (.lst [V.ref D0]) := sB.at upd_same
    have hDB : HB D0 = some (.lst (s.order.map V.str)) := (sA.trans sB).at hD
    refine ⟨p2, rfl, ⟨_, SqT.of hpB⟩, fun D2 nD2 => ?_⟩
    refine lc_it (walk_tup (K := K) (a := p2) (xs := cutV xs (some 1) none)) (fun i Hc => Fresh HB D2 i Hc) (Fresh.zero nD2) (fun i Hc _ ⟨_, _, _, _, _, sc⟩ => SqT.of ((sc.trans (off_sub D2 Hc)).at hpB)) ?_ ?_
    · rintro i y Hc0 Hc hi fr ⟨rfl, hy⟩
      refine ⟨rfl, Nat.zero_le _, fun L nL => ?_⟩
      obtain ⟨acc, a1, a2, a3⟩ := fr.next nD2 nL
      refine ⟨acc, a1, ?_, a3⟩
      rw [a2]
      exact Nat.lt_of_lt_of_le (show i < 1000 by omega) (by decide)
    · intro HC fr
      rw [lcut] at fr
      obtain ⟨ls, c1, c2, c3, c4, c5⟩ := fr
      have sC := c5.trans (off_sub D2 HC)
      refine ⟨L1, D2, _, _, rfl, rfl, sC.at hL1B, c2, ?_, fun L' nL' => ?_⟩
      · rw [List.length_map, c1]
        exact Nat.le_trans (show 1 + (xs.length - 1) ≤ 1000 by omega) (by decide)
      have sL := same_new (o := .lst ([V.ref D0] ++ ls.map V.ref)) nL'
      have sHB := s1.trans (sA.trans sB)
      have sAll := sHB.trans (sC.trans sL)
      refine ⟨_, rfl, b, CB, A.dx, _, rfl, sAll.at BA.ob, T.cl, T.nL, by show 7 < 1000; decide, ?_⟩
      rw [bf_setLines]
      have lD : ∀ l ∈ ls, l ≠ D0 := fun l hl e => by
        have z := (c3 l hl).2.1
        rw [e, hDB] at z
        cases z
      have lL : ∀ l ∈ ls, l ≠ L' := fun l hl e => by
        have z := (c3 l hl).1
        rw [e, nL'] at z
        cases z
      have DL : L' ≠ D0 := fun e => by
        have z := sC.at hDB
        rw [← e, nL'] at z
        cases z
      obtain ⟨B2, S2⟩ := BA.newLines sAll (L' := L') (ls := D0 :: ls) (lines := s.order :: List.replicate (s.lines.length - 1) []) upd_same ((sHB.trans sC).free nL')
        (fun l hl => by
          rcases List.mem_cons.mp hl with rfl | hl
          · exact nD
          · exact sHB.free (c3 l hl).2.1)
        (by rw [List.length_cons, List.length_cons, List.length_replicate, c1, lxs, lev])
        (fun i l ns h1 h2 => by
          cases i with
          | zero =>
            cases h1
            cases h2
            exact (sC.trans sL).at hDB
          | succ i =>
            have h1' : ls[i]? = some l := h1
            have h2' : (List.replicate (s.lines.length - 1) ([] : List Str))[i]? = some ns := h2
            have hl := List.mem_of_getElem? h1'
            have e := List.eq_of_mem_replicate (List.mem_of_getElem? h2')
            subst e
            rw [upd_ne (lL l hl)]
            exact (c3 l hl).1)
        (List.nodup_cons.mpr ⟨by
          simp only [List.mem_cons, not_or]
          exact ⟨DL, fun h => lL L' h rfl⟩, List.nodup_cons.mpr ⟨fun h => lD D0 h rfl, c4⟩⟩)
      replace B2 : BdAt CB K (upd (upd HC L' (.lst ([V.ref D0] ++ ls.map V.ref))) b (.ins CB A.dx (bf rv c s.now { A with L := L' }))) b rv c { A with L := L', ls := D0 :: ls } { s with lines := s.order :: List.replicate (s.lines.length - 1) [] } := B2
      replace S2 : Same (OffL (ftB b A) H) (OffL (ftB b { A with L := L', ls := D0 :: ls }) (upd (upd HC L' (.lst ([V.ref D0] ++ ls.map V.ref))) b (.ins CB A.dx (bf rv c s.now { A with L := L' })))) := S2
      generalize upd (upd HC L' (.lst ([V.ref D0] ++ ls.map V.ref))) b (.ins CB A.dx (bf rv c s.now { A with L := L' })) = G2 at B2 S2 ⊢
      have hu2 := B2.used
      refine ⟨A.u, .dK (kvS s.used), hu2, trivial, fun od => ?_⟩
      have hb3 : upd G2 A.u (.frz od (.dK (kvS s.used))) b = some (.ins CB A.dx (bf rv c s.now { A with L := L' })) := by
        rw [upd_ne B2.bu]
        exact B2.ob
      refine ⟨_, rfl, b, CB, A.dx, _, _, rfl, hb3, T.cl, T.nU, bf_used, A.u, od, rfl, .inl ⟨kvS s.used, upd_same, fun D3 nD3 => ?_⟩⟩
      have D3u : D3 ≠ A.u := fun e => by
        rw [e, upd_same] at nD3
        cases nD3
      have nD2' : G2 D3 = none := by
        rw [upd_ne D3u] at nD3
        exact nD3
      have ule := ok.used_le
      refine dc_it (walk_keys (d := A.u) (o := od) (kvs := kvS s.used)) (fun i Hc => Hc = upd (upd G2 A.u (.frz od (.dK (kvS s.used)))) D3 (.dK (kvS ((s.used.take i).map fun p => (p.1, (0 : Int)))))) rfl (fun i Hc _ e => by rw [e, upd_ne (Ne.symm D3u), upd_same]) ?_ ?_
      · rintro i y Hc0 Hc hi rfl ⟨rfl, k0, v0, hk, rfl⟩
        unfold kvS at hk
        rw [List.getElem?_map] at hk
        obtain ⟨q, hq, e⟩ := Option.map_eq_some_iff.mp hk
        cases e
        have nq : q.1 ∉ ((s.used.take i).map fun p => (p.1, (0 : Int))).map (·.1) := by
          rw [List.map_map]
          intro h
          have h2 : q.1 ∈ (s.used.map (·.1)).take i := by
            rw [← List.map_take]
            exact h
          have h3 : (s.used.map (·.1))[i]? = some q.1 := by rw [List.getElem?_map, hq]; rfl
          obtain ⟨j1, j2⟩ := List.getElem?_eq_some_iff.mp h3
          have nd := ok.ndu
          rw [← List.take_append_drop i (s.used.map (·.1)), List.drop_eq_getElem_cons j1, j2] at nd
          exact (List.nodup_append.mp nd).2.2 _ h2 _ (List.mem_cons_self ..) rfl
        refine ⟨rfl, _, rfl, _, .inr q.1, rfl, upd_same, ?_, ?_⟩
        · unfold kvS
          rw [List.length_map, List.length_map, List.length_take]
          exact Nat.lt_of_le_of_lt (show min i s.used.length ≤ 1000 by omega) (by decide)
        · rw [upd_upd, putK_new_S nq, List.take_add_one, hq, List.map_append]
          rfl
      · rintro Hc rfl
        have lk : (kvS s.used).length = s.used.length := List.length_map ..
        rw [lk, List.take_length]
        refine ⟨by rw [upd_ne (Ne.symm D3u), upd_same], ?_⟩
        have back : upd (upd (upd G2 A.u (.frz od (.dK (kvS s.used)))) D3 (.dK (kvS (s.used.map fun p => (p.1, (0 : Int)))))) A.u (.dK (kvS s.used)) = upd G2 D3 (.dK (kvS (s.used.map fun p => (p.1, (0 : Int))))) := by
          funext z
          by_cases z1 : z = A.u
          · rw [z1, upd_same, upd_ne (Ne.symm D3u)]
            exact hu2.symm
          · rw [upd_ne z1]
            by_cases z2 : z = D3
            · rw [z2, upd_same, upd_same]
            · rw [upd_ne z2, upd_ne z1, upd_ne z2]
        rw [back]
        have sD := same_new (o := .dK (kvS (s.used.map fun p => (p.1, (0 : Int))))) nD2'
        obtain ⟨B3, S3⟩ := B2.newUsed sD (u' := D3) upd_same nD2'
        refine ⟨_, rfl, b, CB, A.dx, _, rfl, sD.at B2.ob, T.cl, T.nU, by show 7 < 1000; decide, ?_⟩
        rw [bf_setUsed]
        exact k _ _ B3 (S2.trans S3)
end
end Vk
set_option maxHeartbeats 4000000
/-! the units of a board, the leaving -/
namespace Vk
open PySem PySem.Spec PyProof.Rows L2
theorem Bd.ticks (d : Int) : ∀ (xs : List Str) (s : Bd), (xs.foldl (fun t x => t.tick1 d x) s).lines = s.lines ∧ (xs.foldl (fun t x => t.tick1 d x) s).fins = s.fins ∧ (xs.foldl (fun t x => t.tick1 d x) s).now = s.now ∧
    (xs.foldl (fun t x => t.tick1 d x) s).ran.map (·.1) = s.ran.map (·.1) ∧ (xs.foldl (fun t x => t.tick1 d x) s).used.map (·.1) = s.used.map (·.1)
  | [], s => ⟨rfl, rfl, rfl, rfl, rfl⟩
  | x :: xs, s => by
    obtain ⟨h1, h2, h3, h4, h5⟩ := Bd.ticks d xs (s.tick1 d x)
    exact ⟨h1, h2, h3, h4.trans (addS_keys _ _ _), h5.trans (addS_keys _ _ _)⟩
theorem Bd.Ok0.ticks {s : Bd} (h : s.Ok0) (d : Int) (xs : List Str) : (xs.foldl (fun t x => t.tick1 d x) s).Ok0 := by
  obtain ⟨h1, h2, h3, h4, h5⟩ := Bd.ticks d xs s
  refine h.perm ?_ (by rw [h1]) h5 h4
  unfold Bd.order
  rw [h1]
theorem Bd.Ok0.at_ {s : Bd} (h : s.Ok0) (t : Int) : ({ s with now := t } : Bd).Ok0 := ⟨h.small, h.ndr, h.ndu, h.ndo, h.sub, h.here, h.lines1, h.lines6⟩
theorem Bd.Ok0.fin {s : Bd} (h : s.Ok0) (f : List (Int × List Str × List Str)) : ({ s with fins := f } : Bd).Ok0 := ⟨h.small, h.ndr, h.ndu, h.ndo, h.sub, h.here, h.lines1, h.lines6⟩
theorem Bd.leave_mem {s : Bd} (h : s.Ok0) {x : Str} (hx : x ∈ s.order) (y : Str) : y ∈ (s.leave x).order ↔ y ∈ s.order ∧ y ≠ x := by
  have p : (x :: (s.leave x).order).Perm s.order := Bd.out_order hx
  have nd := p.nodup_iff.mpr h.ndo
  obtain ⟨nx, _⟩ := List.nodup_cons.mp nd
  rw [← p.mem_iff, List.mem_cons]
  constructor
  · intro m
    exact ⟨.inr m, fun e => by subst e; exact nx m⟩
  · rintro ⟨e | m, ne⟩
    · exact absurd e ne
    · exact m
theorem Bd.leave_len {s : Bd} {x : Str} : (s.leave x).lines.length = s.lines.length := List.length_set
theorem Bd.Ok0.leaves : ∀ {xs : List Str} {s : Bd}, s.Ok0 → xs.Nodup → (∀ x ∈ xs, x ∈ s.order) → (xs.foldl Bd.leave s).Ok0 ∧ (∀ y, y ∈ (xs.foldl Bd.leave s).order ↔ y ∈ s.order ∧ y ∉ xs) ∧ (xs.foldl Bd.leave s).lines.length = s.lines.length
  | [], s, h, _, _ => ⟨h, fun y => ⟨fun m => ⟨m, by simp⟩, fun m => m.1⟩, rfl⟩
  | x :: xs, s, h, nd, hx => by
    obtain ⟨n1, n2⟩ := List.nodup_cons.mp nd
    have h0 := hx x (List.mem_cons_self ..)
    have lm := Bd.leave_mem h h0
    obtain ⟨a1, a2, a3⟩ := Bd.Ok0.leaves (xs := xs) (h.leave h0) n2 fun y hy => (lm y).mpr ⟨hx y (List.mem_cons_of_mem _ hy), fun e => n1 (by rw [← e]; exact hy)⟩
    refine ⟨a1, fun y => ?_, a3.trans Bd.leave_len⟩
    show y ∈ (xs.foldl Bd.leave (s.leave x)).order ↔ _
    rw [a2 y, lm y, List.mem_cons, not_or]
    constructor
    · rintro ⟨⟨b1, b2⟩, b3⟩
      exact ⟨b1, b2, b3⟩
    · rintro ⟨b1, b2, b3⟩
      exact ⟨⟨b1, b2⟩, b3⟩
theorem Bd.run_sub {s : Bd} {c : Int} : ∀ x ∈ s.run c, x ∈ s.order := fun x h => List.mem_of_mem_take h
theorem Bd.run_nd {s : Bd} (h : s.Ok0) {c : Int} : (s.run c).Nodup := h.ndo.sublist (List.take_sublist ..)
theorem Bd.run_le {s : Bd} (h : s.Ok0) {c : Int} : (s.run c).length ≤ 1000 := by
  have z := h.order_le
  unfold Bd.run
  rw [List.length_take]
  omega
theorem all_flatS2 (l : List Str) : (l.map V.str).all flatV = true := all_flatS l
end Vk
set_option maxHeartbeats 8000000
/-! units on a board -/
namespace Vk
open PySem PySem.Spec PyProof.Rows L2
theorem dps_strs {K : PySem.W.Frag} {H : Hp} : ∀ (l : List Str), DpAll K H (l.map V.str) (l.map PyData.str)
  | [] => .nil
  | x :: l => .cons (.str x) (dps_strs l)
theorem flt_take {p : Str → Bool} {l : List Str} {i : Nat} {x : Str} (h : l[i]? = some x) : (l.take (i + 1)).filter p = (l.take i).filter p ++ (if p x = true then [x] else []) := by
  rw [List.take_add_one, h, List.filter_append]
  congr 1
  by_cases hp : p x = true
  · simp [hp]
  · simp [hp]
section
variable {P : Program} {w : World} {K : PySem.W.Frag} {mg : Str → Option Value} {base : Heap} {CB : Addr}
def spUnits (K : PySem.W.Frag) (CB : Addr) : Sp := fun vs H Q _ => ∃ (b : Addr) (rv : V) (c : Int) (A : BdA) (s : Bd) (r : Rl) (d : Int) (fa : Addr) (fin : List Str), vs = [.ref b, .int d, .ref fa] ∧ BdR K CB H b rv c A s r ∧ 0 ≤ c ∧ SqT K (OffL (ftB b A) H) fa (fin.map V.str) ∧
  s.fins.length < 100000 ∧ (∀ q, r.boost = some q → q ≠ 0) ∧
  ∀ (A' : BdA) (H' : Hp), BdAt CB K H' b rv c A' (s.endUnits r c d fin) → Same (OffL (ftB b A) H) (OffL (ftB b A') H') → Q .non H'
theorem scUnits : FnScope ["self", "units", "finishing", "running", "name", "leaving", "boost"] ["self", "units", "finishing"] (defScope sBdEndUnits) := ⟨rfl, rfl, rfl, by decide +kernel, rfl, by decide +kernel, by decide +kernel⟩
theorem ok_units (D : MDf K CB "end_units" "Board.end_units" sBdEndUnits ["self", "units", "finishing"]) (T : BdC K CB) (mt : mg "tuple" = none) (RU : MCl P w K mg base CX0 2 CB "running" ["self"] (spRun K CB)) (LO : MCl P w K mg base CX0 1 CB "level_of" ["self", "name"] (spLevelOf K CB))
    (EQ : MCl P w K mg base CX0 2 CB "end_quanta" ["self", "names"] (spQuanta K CB)) (LI : MCl P w K mg base CX0 2 CB "lift" ["self"] (spLift K CB)) : MCl P w K mg base CX0 3 CB "end_units" ["self", "units", "finishing"] (spUnits K CB) := by
  refine mcl0 D scUnits (fun vs H Q E h => ?_) (fun f cdv Ar outer s0 H vs Q E hr h => ?_)
  · obtain ⟨b, rv, c, A, s, r, d, fa, fin, rfl, _⟩ := h
    rfl
  · obtain ⟨b, rv, c, A, s, r, d, fa, fin, rfl, ⟨BA, ok, dr, lev⟩, c0, hfa, small, bq, k⟩ := h
    obtain ⟨fR, fdR, MR, bR, FR⟩ := RU.ex
    obtain ⟨fO, fdO, MO, bO, FO⟩ := LO.ex
    obtain ⟨fE, fdE, ME, bE, FE⟩ := EQ.ex
    obtain ⟨fL, fdL, ML, bL, FL⟩ := LI.ex
    refine ⟨_, pss_cons (ps_set (i := 3) scUnits.nd rfl (Or.inl rfl) (pe_meth0 (pv 0) T.cl MR FR hr bR .nil pass0))
      (pss_cons (ps_fldaug (pv 0) (pv 1) in_add)
      (pss_cons (ps_for PassesOwn.never rfl (pi_tup (pv 3)) (pg_name (i := 4) scUnits.nd rfl (Or.inl rfl))
        (pss_cons (ps_daug (hu_of hr) (pe_fld (pv 0) rfl) (pv 4) (pv 1) in_add (by intros; rfl))
        (pss_one (ps_daug (hu_of hr) (pe_fld (pv 0) rfl) (pv 4) (pv 1) in_add (by intros; rfl)))))
      (pss_cons (ps_set (i := 5) scUnits.nd rfl (Or.inr rfl) (pe_callTy call_tuple_of (by rfl) mt (by decide +kernel) (pa_cons (pe_lc (own := [("name", 4)]) (g := gName 4) (tt := tTest (tOp (rIn K false) (tVar 4) (tVar 2))) (te := tVar 4) (by rfl) scUnits.nd (pi_tup (pv 3))
          (blkOk_by (own := [("name", 4)]) (N := ["self", "units", "finishing", "running", "name", "leaving", "boost"]) (sc := defScope sBdEndUnits) (by decide +kernel)) (fun _ _ _ _ _ => pg_name (i := 4) scUnits.nd rfl (Or.inl rfl)) (fun _ _ _ _ _ => pts_one (pt_cmpR op_in_seq (pv 4) (pv 2) (by rfl))) (fun _ _ _ _ _ => pv 4)) pa_nil)))
      (pss_cons (ps_if (pt_truth (pv 5) (fun _ => rfl))
        (pss_one (ps_expr (pe_bm PySem.F.plainAttrs_list PySem.F.slot_list_append PySem.F.type_list_append mt_append (pe_fld (pv 0) rfl) (pa_cons (pe_tup (pa_cons (pe_fld (pv 0) rfl) (pa_cons (pv 3) (pa_cons (pv 5) pa_nil)))) pa_nil)))) pss_nil)
      (pss_cons (ps_for PassesOwn.never rfl (pi_tup (pv 5)) (pg_name (i := 4) scUnits.nd rfl (Or.inl rfl))
        (pss_cons (ps_expr (pe_bm PySem.F.plainAttrs_list PySem.F.slot_list_remove PySem.F.type_list_remove mt_removeS (pe_ix ix_list (pe_fld (pv 0) rfl) (pe_meth (pv 0) T.cl MO FO (hr.mono (by decide)) bO .nil pass0 (pa_cons (pv 4) pa_nil)) (fun _ _ => rfl)) (pa_cons (pv 4) pa_nil)))
        (pss_one (ps_ddel (pe_fld (pv 0) rfl) (pv 4)))))
      (pss_cons (ps_expr (pe_meth (pv 0) T.cl ME FE hr bE .nil pass0 (pa_cons (pe_lc (own := [("name", 4)]) (g := gName 4) (tt := tTest (tOp (rIn K true) (tVar 4) (tVar 5))) (te := tVar 4) (by rfl) scUnits.nd (pi_tup (pv 3))
          (blkOk_by (own := [("name", 4)]) (N := ["self", "units", "finishing", "running", "name", "leaving", "boost"]) (sc := defScope sBdEndUnits) (by decide +kernel)) (fun _ _ _ _ _ => pg_name (i := 4) scUnits.nd rfl (Or.inl rfl)) (fun _ _ _ _ _ => pts_one (pt_cmpR op_notIn_seq (pv 4) (pv 5) (by rfl))) (fun _ _ _ _ _ => pv 4)) pa_nil)))
      (pss_cons (ps_set (i := 6) scUnits.nd rfl (Or.inl rfl) (pe_ix ix_tup (pe_fld (pv 0) rfl) pe_int (fun _ _ => rfl)))
      (pss_one (ps_if (PW.pt (pw_and (pt_cmpR op_notN (pv 6) pe_non (nomark _)) (pw_and1 (pt_cmpR op_eq (pe_op op_modN (pe_fld (pv 0) rfl) (pv 6)) pe_int (nomark _)))))
        (pss_one (ps_expr (pe_meth0 (pv 0) T.cl ML FL hr bL .nil pass0))) pss_nil))))))))), ?_⟩
    have out : ∀ {G : Hp} {x : Addr}, H x = none → OffL (ftB b A) G x = G x := fun {G x} h => offL_out fun m => BA.here m h
    refine ⟨_, rfl, b, A.dx, _, rfl, BA.ob, by kernel_rfl, b, rv, c, A, s, rfl, BA, ok, c0, fun DR H1 nDR s1 hDR => ?_⟩
    have B1 := BA.same s1
    have S1 := offL_mono (ft := ftB b A) s1
    have mb : b ∈ ftB b A := by simp [ftB]
    have mn : A.n ∈ ftB b A := by simp [ftB]
    have mu : A.u ∈ ftB b A := by simp [ftB]
    have mF : A.F ∈ ftB b A := by simp [ftB]
    refine ⟨_, rfl, b, CB, A.dx, _, _, rfl, B1.ob, T.cl, T.nN, bf_now, _, rfl, _, _, rfl, rfl, A.dx, _, B1.ob, by show 7 < 1000; decide, ?_⟩
    rw [bf_setNow]
    have B2 := B1.setNow (s.now + d)
    have S2 : Same (OffL (ftB b A) H) (OffL (ftB b A) (upd H1 b (.ins CB A.dx (bf rv c (s.now + d) A)))) := by
      rw [offL_upd mb]
      exact S1
    have hDR2 : OffL (ftB b A) (upd H1 b (.ins CB A.dx (bf rv c (s.now + d) A))) DR = some (.tup ((s.run c).map V.str)) := by
      rw [offL_upd mb, out nDR]
      exact hDR
    generalize upd H1 b (.ins CB A.dx (bf rv c (s.now + d) A)) = H2 at B2 S2 hDR2 ⊢
    have rle := Bd.run_le ok (c := c)
    have hz : ∀ n : Nat, n ≤ 1000 → n < sizeLine := fun n hn => Nat.lt_of_le_of_lt hn (by decide)
    have sq : ∀ {G : Hp}, Same (OffL (ftB b A) H2) (OffL (ftB b A) G) → SqT K G DR ((s.run c).map V.str) := fun {G} z => SqT.of ((offL_sub (ftB b A) G).at (z.at hDR2))
    have sf : ∀ {G : Hp}, Same (OffL (ftB b A) H2) (OffL (ftB b A) G) → SqT K G fa (fin.map V.str) := fun {G} z => same_seqT (offL_sub (ftB b A) G) (same_seqT (S2.trans z) hfa)
    have ok1 : ({ s with now := s.now + d } : Bd).Ok0 := ok.at_ _
    refine ⟨_, rfl, DR, rfl, ⟨_, sq (Same.refl _)⟩, ?_⟩
    refine for_it (D := { nx := _, rt := _ }) (walk_tup (K := K) (a := DR) (xs := (s.run c).map V.str)) (fun i σ G => ∃ (u4 : Option V), σ = [some (.ref b), some (.int d), some (.ref fa), some (.ref DR), u4, none, none] ∧ BdAt CB K G b rv c A (((s.run c).take i).foldl (fun t x => t.tick1 d x) { s with now := s.now + d }) ∧ OffL (ftB b A) G = OffL (ftB b A) H2)
      ⟨none, rfl, B2, rfl⟩ (fun i σ G _ ⟨_, _, _, oG⟩ => sq (by rw [oG]; exact Same.refl _)) ?_ ?_
    · rintro i y σ G0 G hi ⟨u4, rfl, BG, oG⟩ ⟨rfl, hy⟩
      rw [List.getElem?_map] at hy
      obtain ⟨x, hx, rfl⟩ := Option.map_eq_some_iff.mp hy
      have ef : ((s.run c).take (i + 1)).foldl (fun t x => t.tick1 d x) ({ s with now := s.now + d } : Bd) = Bd.tick1 (((s.run c).take i).foldl (fun t x => t.tick1 d x) { s with now := s.now + d }) d x := by
        rw [List.take_add_one, hx, List.foldl_append]
        rfl
      rw [ef]
      obtain ⟨t1, t2, t3, t4, t5⟩ := Bd.ticks d ((s.run c).take i) { s with now := s.now + d }
      have oki := ok1.ticks d ((s.run c).take i)
      generalize ((s.run c).take i).foldl (fun t x => t.tick1 d x) ({ s with now := s.now + d } : Bd) = si at BG t1 t2 t3 t4 t5 oki ⊢
      have xo := Bd.run_sub x (List.mem_of_getElem? hx)
      have xr : x ∈ si.ran.map (·.1) := by rw [t4]; exact ok.sub x xo
      have xu : x ∈ si.used.map (·.1) := by rw [t5]; exact (ok.here x).mpr xo
      refine ⟨_, rfl, b, CB, A.dx, _, _, rfl, BG.ob, T.cl, T.nA, bf_ran, _, rfl, A.n, .int (getS si.ran x), rfl, ?_, _, rfl, _, _, rfl, rfl, _, DPut.k (k := (.inr x : Key)) BG.ran ?_, ?_⟩
      · have z := DGet.k (k := (.inr x : Key)) BG.ran
        rw [valS, lookS xr] at z
        exact z
      · unfold kvS
        rw [List.length_map]
        exact hz _ oki.small
      rw [putK_S xr, put_add oki.ndr]
      have B3 := BG.setRan (addS si.ran x d)
      have o3 : OffL (ftB b A) (upd G A.n (.dK (kvS (addS si.ran x d)))) = OffL (ftB b A) H2 := by rw [offL_upd mn, oG]
      generalize upd G A.n (.dK (kvS (addS si.ran x d))) = G3 at B3 o3 ⊢
      refine ⟨_, rfl, b, CB, A.dx, _, _, rfl, B3.ob, T.cl, T.nU, bf_used, _, rfl, A.u, .int (getS si.used x), rfl, ?_, _, rfl, _, _, rfl, rfl, _, DPut.k (k := (.inr x : Key)) B3.used ?_, ?_⟩
      · have z := DGet.k (k := (.inr x : Key)) B3.used
        rw [valS, lookS xu] at z
        exact z
      · unfold kvS
        rw [List.length_map]
        exact hz _ oki.used_le
      rw [putK_S xu, put_add oki.ndu]
      exact ⟨_, rfl, B3.setUsed (addS si.used x d), by rw [offL_upd mu, o3]⟩
    rintro σ G ⟨u4, rfl, BG, oG⟩
    rw [List.length_map, List.take_length] at BG
    obtain ⟨t1, t2, t3, t4, t5⟩ := Bd.ticks d (s.run c) { s with now := s.now + d }
    have okT := ok1.ticks d (s.run c)
    have hmid : s.mid c d fin = (if (s.run c).filter (fun x => decide (x ∈ fin)) = [] then ((s.run c).foldl (fun t x => t.tick1 d x) { s with now := s.now + d }) else { (s.run c).foldl (fun t x => t.tick1 d x) ({ s with now := s.now + d } : Bd) with fins := s.fins ++ [(s.now + d, s.run c, (s.run c).filter fun x => decide (x ∈ fin))] }) := by
      unfold Bd.mid
      generalize (s.run c).foldl (fun t x => t.tick1 d x) ({ s with now := s.now + d } : Bd) = sT at t2 t3 ⊢
      have e : ({ sT with now := s.now + d } : Bd) = sT := by
        cases sT
        cases t3
        rfl
      rw [e]
      show (if (s.run c).filter (fun x => decide (x ∈ fin)) = [] then sT else { sT with fins := sT.fins ++ [(s.now + d, s.run c, (s.run c).filter fun x => decide (x ∈ fin))] }) = _
      rw [t2]
    have hunits : s.endUnits r c d fin = (match r.boost with
      | some q => if ((((s.run c).filter fun x => decide (x ∉ (s.run c).filter fun x => decide (x ∈ fin))).foldl (Bd.quanta1 r) (((s.run c).filter fun x => decide (x ∈ fin)).foldl Bd.leave (s.mid c d fin)))).now.fmod q = 0 then Bd.lift (((s.run c).filter fun x => decide (x ∉ (s.run c).filter fun x => decide (x ∈ fin))).foldl (Bd.quanta1 r) (((s.run c).filter fun x => decide (x ∈ fin)).foldl Bd.leave (s.mid c d fin))) else ((s.run c).filter fun x => decide (x ∉ (s.run c).filter fun x => decide (x ∈ fin))).foldl (Bd.quanta1 r) (((s.run c).filter fun x => decide (x ∈ fin)).foldl Bd.leave (s.mid c d fin))
      | none => ((s.run c).filter fun x => decide (x ∉ (s.run c).filter fun x => decide (x ∈ fin))).foldl (Bd.quanta1 r) (((s.run c).filter fun x => decide (x ∈ fin)).foldl Bd.leave (s.mid c d fin))) := rfl
    generalize hsT : (s.run c).foldl (fun t x => t.tick1 d x) ({ s with now := s.now + d } : Bd) = sT at BG t1 t2 t3 t4 t5 okT hmid
    -- who leaves
    refine ⟨_, rfl, DR, rfl, ⟨_, sq (by rw [oG]; exact Same.refl _)⟩, fun D4 nD4 => ?_⟩
    have D4R : DR ≠ D4 := fun e => by
      have z := sq (G := G) (by rw [oG]; exact Same.refl _)
      have y := (offL_sub (ftB b A) G).at (o := .tup ((s.run c).map V.str)) (by rw [oG]; exact hDR2)
      rw [e, nD4] at y
      cases y
    have sD4 : ∀ {o : HO}, Same (OffL (ftB b A) H2) (OffL (ftB b A) (upd G D4 o)) := fun {o} => by
      rw [← oG]
      exact offL_mono (same_new nD4)
    refine lc_it (walk_tup (K := K) (a := DR) (xs := (s.run c).map V.str)) (fun i Hc => Hc = upd G D4 (.lst ((((s.run c).take i).filter fun x => decide (x ∈ fin)).map V.str))) rfl (fun i Hc _ e => by rw [e]; exact sq sD4) ?_ ?_
    · rintro i y Hc0 Hc hi rfl ⟨rfl, hy⟩
      rw [List.getElem?_map] at hy
      obtain ⟨x, hx, rfl⟩ := Option.map_eq_some_iff.mp hy
      refine ⟨rfl, _, rfl, _, rfl, fa, _, rfl, .inr (sf sD4), rfl, all_flatS fin, _, rfl, ?_⟩
      rw [if_neg Bool.false_ne_true, inV_S, flt_take hx]
      by_cases m : x ∈ fin
      · rw [decide_eq_true m]
        refine iteT ?_
        refine ⟨_, rfl, _, upd_same, ?_, ?_⟩
        · rw [List.length_map]
          have z := List.length_filter_le (fun x => decide (x ∈ fin)) ((s.run c).take i)
          rw [List.length_take] at z
          exact hz _ (by omega)
        · rw [upd_upd, if_pos rfl, List.map_append]
          rfl
      · rw [decide_eq_false m]
        refine iteF ?_
        rw [if_neg Bool.false_ne_true, List.append_nil]
    rintro Hc rfl
    rw [List.length_map, List.take_length]
    generalize hlv : (s.run c).filter (fun x => decide (x ∈ fin)) = lv at hmid hunits ⊢
    have lvs : lv.Sublist (s.run c) := by rw [← hlv]; exact List.filter_sublist
    have lvn : lv.Nodup := (Bd.run_nd ok).sublist lvs
    have lvl : lv.length ≤ 1000 := Nat.le_trans lvs.length_le rle
    refine ⟨D4, _, rfl, .inl ⟨SqL.of upd_same, fun t5 nt5 => ?_⟩⟩
    have s6 := (same_new (o := .lst (lv.map V.str)) nD4).trans (same_new (o := .tup (lv.map V.str)) nt5)
    have B6 := BG.same s6
    have nt5G : G t5 = none := (same_new (o := .lst (lv.map V.str)) nD4).free nt5
    have o5 : t5 ∉ ftB b A := fun m => BG.here m nt5G
    have ht5 : OffL (ftB b A) (upd (upd G D4 (.lst (lv.map V.str))) t5 (.tup (lv.map V.str))) t5 = some (.tup (lv.map V.str)) := by
      rw [offL_out o5, upd_same]
    have S6 : Same (OffL (ftB b A) H2) (OffL (ftB b A) (upd (upd G D4 (.lst (lv.map V.str))) t5 (.tup (lv.map V.str)))) := by
      rw [← oG]
      exact offL_mono s6
    generalize upd (upd G D4 (.lst (lv.map V.str))) t5 (.tup (lv.map V.str)) = H6 at B6 ht5 S6 ⊢
    refine ⟨_, rfl, _, .inr (.inl ⟨_, SqT.of ((offL_sub (ftB b A) H6).at ht5), rfl⟩), ?_⟩
    apply cutR (α := L2.St → Hp → Prop) (F := fun R => ∀ H7, BdAt CB K H7 b rv c A (s.mid c d fin) → Same (OffL (ftB b A) H6) (OffL (ftB b A) H7) → R [some (.ref b), some (.int d), some (.ref fa), some (.ref DR), u4, some (.ref t5), none] H7)
    · intro cont
      by_cases he : lv = []
      · have z : (!(lv.map V.str).isEmpty) = false := by rw [he]; rfl
        rw [z]
        refine iteF ?_
        refine cont _ ?_ (Same.refl _)
        rw [hmid, if_pos he]
        exact B6
      · have z : (!(lv.map V.str).isEmpty) = true := by
          cases lv with
          | nil => exact absurd rfl he
          | cons _ _ => rfl
        rw [z]
        refine iteT ?_
        obtain ⟨xs, f1, f2⟩ := B6.fins
        refine ⟨_, rfl, b, CB, A.dx, _, _, rfl, B6.ob, T.cl, T.nF, bf_fins, .inl ⟨rfl, _, SqL.of f1⟩, _, rfl, b, CB, A.dx, _, _, rfl, B6.ob, T.cl, T.nN, bf_now, _, rfl, _, rfl, by show 3 ≤ sizeLine; decide, fun q nq => ?_⟩
        have sQ := same_new (o := .tup [V.int sT.now, .ref DR, .ref t5]) nq
        have B7 := B6.same sQ
        have oq : q ∉ ftB b A := fun m => B6.here m nq
        have dQ : Dp K (OffL (ftB b A) (upd H6 q (.tup [V.int sT.now, .ref DR, .ref t5]))) (.ref q) (finD (s.now + d, s.run c, lv)) := by
          have w := offL_mono (ft := ftB b A) sQ
          refine .tup (SqT.of (by rw [offL_out oq, upd_same])) (.cons ?_ (.cons (.tup (SqT.of ((S6.trans w).at hDR2)) (dps_strs _)) (.cons (.tup (SqT.of (w.at ht5)) (dps_strs _)) .nil)))
          rw [t3]
          exact .int _
        have lf := dps_len f2
        rw [List.length_map, t2] at lf
        refine ⟨A.F, xs, .ref q, rfl, rfl, sQ.at f1, ?_, ?_⟩
        · rw [lf]
          exact Nat.lt_trans small (by decide)
        refine cont _ ?_ (by rw [offL_upd mF]; exact offL_mono sQ)
        rw [hmid, if_neg he]
        refine B7.setFins ?_
        rw [List.map_append, ← t2]
        exact dps_app (dps_same (offL_mono sQ) f2) (.cons dQ .nil)
    intro H7 B7 S7
    have S27 := S6.trans S7
    have ht7 := S7.at ht5
    have okM : (s.mid c d fin).Ok0 := by
      rw [hmid]
      split
      · exact okT
      · exact okT.fin _
    have orM : (s.mid c d fin).order = s.order := by
      have z : (s.mid c d fin).lines = s.lines := by
        rw [hmid]
        split
        · exact t1
        · exact t1
      unfold Bd.order
      rw [z]
    have subL : ∀ x ∈ lv, x ∈ (s.mid c d fin).order := fun x hx => by
      rw [orM]
      exact Bd.run_sub x (lvs.subset hx)
    have llM : (s.mid c d fin).lines.length = s.lines.length := by
      rw [hmid]
      split
      · show sT.lines.length = _
        rw [t1]
      · show sT.lines.length = _
        rw [t1]
    generalize hsM : s.mid c d fin = sM at B7 okM orM subL llM hunits
    -- they leave
    refine ⟨_, rfl, t5, rfl, ⟨_, SqT.of ((offL_sub (ftB b A) H7).at ht7)⟩, ?_⟩
    refine for_it (D := { nx := _, rt := _ }) (walk_tup (K := K) (a := t5) (xs := lv.map V.str)) (fun i σ G => ∃ (u4 : Option V), σ = [some (.ref b), some (.int d), some (.ref fa), some (.ref DR), u4, some (.ref t5), none] ∧ BdAt CB K G b rv c A ((lv.take i).foldl Bd.leave sM) ∧ Same (OffL (ftB b A) H7) (OffL (ftB b A) G))
      ⟨u4, rfl, B7, Same.refl _⟩ (fun i σ G _ ⟨_, _, _, sG⟩ => SqT.of ((offL_sub (ftB b A) G).at (sG.at ht7))) ?_ ?_
    · rintro i y σ G0 G8 hi ⟨v4, rfl, BG8, sG⟩ ⟨rfl, hy⟩
      rw [List.getElem?_map] at hy
      obtain ⟨x, hx, rfl⟩ := Option.map_eq_some_iff.mp hy
      have ef : (lv.take (i + 1)).foldl Bd.leave sM = Bd.leave ((lv.take i).foldl Bd.leave sM) x := by
        rw [List.take_add_one, hx, List.foldl_append]
        rfl
      rw [ef]
      have tn : (lv.take i).Nodup := lvn.sublist (List.take_sublist ..)
      obtain ⟨oki, omi, lli⟩ := okM.leaves tn fun z hz => subL z (List.mem_of_mem_take hz)
      have xo : x ∈ ((lv.take i).foldl Bd.leave sM).order := (omi x).mpr ⟨subL x (List.mem_of_getElem? hx), fun h => by
        obtain ⟨j1, j2⟩ := List.getElem?_eq_some_iff.mp hx
        have nd := lvn
        rw [← List.take_append_drop i lv, List.drop_eq_getElem_cons j1, j2] at nd
        exact (List.nodup_append.mp nd).2.2 _ h _ (List.mem_cons_self ..) rfl⟩
      generalize (lv.take i).foldl Bd.leave sM = si at BG8 oki omi lli xo ⊢
      refine ⟨_, rfl, b, CB, A.dx, _, _, rfl, BG8.ob, T.cl, T.nL, bf_lines, _, rfl, b, A.dx, _, rfl, BG8.ob, by kernel_rfl, _, rfl, b, rv, c, A, si, x, rfl, BG8, oki, xo, fun G1 sG1 => ?_⟩
      have B1' := BG8.same sG1
      have sH1 := sG.trans (offL_mono (ft := ftB b A) sG1)
      obtain ⟨ns, hns, xns⟩ := Bd.level_at xo
      have gns : si.lines.getD (si.level x) [] = ns := getD_at hns
      generalize hle : si.level x = le at hns gns
      have lel : le < si.lines.length := (List.getElem?_eq_some_iff.mp hns).1
      obtain ⟨l, hl⟩ : ∃ l, A.ls[le]? = some l := ⟨_, List.getElem?_eq_getElem (by rw [B1'.len]; exact lel)⟩
      have hln1 := B1'.line le l ns hl hns
      have xu : x ∈ si.used.map (·.1) := (oki.here x).mpr xo
      have hvl : (A.ls.map V.ref)[le]? = some (.ref l) := by rw [List.getElem?_map, hl]; rfl
      have lm : l ∈ ftB b A := by simp [ftB, List.mem_of_getElem? hl]
      refine ⟨A.L, _, _, _, rfl, rfl, SqL.of B1'.lines, atI_nat hvl, .inl ⟨rfl, _, SqL.of hln1⟩, _, rfl, l, ns, x, rfl, rfl, hln1, xns, ?_⟩
      have B2' := B1'.setLine (ns := ns.erase x) hl
      have o2 : OffL (ftB b A) (upd G1 l (.lst ((ns.erase x).map V.str))) = OffL (ftB b A) G1 := offL_upd lm
      generalize upd G1 l (.lst ((ns.erase x).map V.str)) = G2 at B2' o2 ⊢
      refine ⟨_, rfl, b, CB, A.dx, _, _, rfl, B2'.ob, T.cl, T.nU, bf_used, _, rfl, A.u, kvS si.used, .inr x, rfl, B2'.used, rfl, by rw [valS, lookS xu]; rfl, ?_⟩
      rw [dropK_S]
      refine ⟨_, rfl, ?_, by rw [offL_upd mu, o2]; exact sH1⟩
      have eq : Bd.leave si x = { si with lines := si.lines.set le (ns.erase x), used := dropS si.used x } := by
        unfold Bd.leave
        rw [hle, gns]
      rw [eq]
      exact B2'.setUsed (dropS si.used x)
    rintro σ G8 ⟨v4, rfl, B8, S8⟩
    rw [List.length_map, List.take_length] at B8
    obtain ⟨ok8, om8, ll8⟩ := okM.leaves lvn subL
    generalize lv.foldl Bd.leave sM = s8 at B8 ok8 om8 ll8 hunits
    have S28 := S27.trans S8
    have ht8 := S8.at ht7
    -- the others
    refine ⟨_, rfl, b, A.dx, _, rfl, B8.ob, by kernel_rfl, _, rfl, DR, rfl, ⟨_, sq S28⟩, fun D9 nD9 => ?_⟩
    have o9 : D9 ∉ ftB b A := fun m => B8.here m nD9
    have S9 : ∀ {o : HO}, Same (OffL (ftB b A) G8) (OffL (ftB b A) (upd G8 D9 o)) := fun {o} => offL_mono (same_new nD9)
    refine lc_it (walk_tup (K := K) (a := DR) (xs := (s.run c).map V.str)) (fun i Hc => Hc = upd G8 D9 (.lst ((((s.run c).take i).filter fun x => decide (x ∉ lv)).map V.str))) rfl (fun i Hc _ e => by rw [e]; exact sq (S28.trans S9)) ?_ ?_
    · rintro i y Hc0 Hc hi rfl ⟨rfl, hy⟩
      rw [List.getElem?_map] at hy
      obtain ⟨x, hx, rfl⟩ := Option.map_eq_some_iff.mp hy
      refine ⟨rfl, _, rfl, _, rfl, t5, _, rfl, .inr (SqT.of ((offL_sub (ftB b A) _).at (S9.at ht8))), rfl, all_flatS lv, _, rfl, ?_⟩
      rw [if_pos rfl, inV_S, flt_take hx]
      by_cases m : x ∈ lv
      · rw [decide_eq_true m, decide_eq_false (fun z => z m)]
        refine iteF ?_
        rw [if_neg Bool.false_ne_true, List.append_nil]
      · rw [decide_eq_false m, decide_eq_true (show x ∉ lv from m)]
        refine iteT ?_
        refine ⟨_, rfl, _, upd_same, ?_, ?_⟩
        · rw [List.length_map]
          have z := List.length_filter_le (fun x => decide (x ∉ lv)) ((s.run c).take i)
          rw [List.length_take] at z
          exact hz _ (by omega)
        · rw [upd_upd, if_pos rfl, List.map_append]
          rfl
    rintro Hc rfl
    rw [List.length_map, List.take_length]
    have dr8 := dp_same (S2.trans (S28.trans (S9 (o := .lst (((s.run c).filter fun x => decide (x ∉ lv)).map V.str))))) dr
    have B9 := B8.same (same_new (o := .lst (((s.run c).filter fun x => decide (x ∉ lv)).map V.str)) nD9)
    refine ⟨b, rv, c, A, s8, r, D9, (s.run c).filter fun x => decide (x ∉ lv), rfl, ⟨B9, ok8, dr8, by rw [lev, ll8, llM]⟩, by rw [offL_out o9, upd_same], fun x hx => ?_, fun G10 B10 S10 => ?_⟩
    · obtain ⟨x1, x2⟩ := List.mem_filter.mp hx
      exact (om8 x).mpr ⟨by rw [orM]; exact Bd.run_sub x x1, of_decide_eq_true x2⟩
    have sub9 : ∀ x ∈ (s.run c).filter (fun x => decide (x ∉ lv)), x ∈ s8.order := fun x hx => by
      obtain ⟨x1, x2⟩ := List.mem_filter.mp hx
      exact (om8 x).mpr ⟨by rw [orM]; exact Bd.run_sub x x1, of_decide_eq_true x2⟩
    obtain ⟨ok10, pm10, ll10⟩ := ok8.quantas (r := r) sub9
    have dr10 := dp_same S10 dr8
    have S210 := S2.trans (S28.trans (S9.trans S10))
    generalize ((s.run c).filter fun x => decide (x ∉ lv)).foldl (Bd.quanta1 r) s8 = sX at B10 ok10 ll10 hunits
    have l1 := ok.lines1
    obtain ⟨p, pl, pe, x0, y0, ys, erv, qp, _, ql, lxs, hxs, qe, ey⟩ := rule_level dr10 (i := 0) (by omega)
    subst ey
    refine ⟨_, rfl, b, CB, A.dx, _, _, rfl, B10.ob, T.cl, T.nR, bf_rule, p, _, _, _, erv, rfl, qp, rfl, ?_⟩
    cases hb : r.boost with
    | none =>
      refine ⟨_, rfl, rfl, _, rfl, ?_⟩
      refine iteF ?_
      refine iteF ?_
      rw [hb] at hunits
      exact k A _ (by rw [hunits]; exact B10) S210
    | some q =>
      have q0 := bq q hb
      rw [hb] at hunits
      refine ⟨_, rfl, rfl, _, rfl, ?_⟩
      refine iteT ?_
      refine ⟨_, rfl, b, CB, A.dx, _, _, rfl, B10.ob, T.cl, T.nN, bf_now, _, rfl, _, _, rfl, rfl, q0, rfl, _, rfl, ?_⟩
      have ed : decide (V.int (sX.now.fmod q) = V.int 0) = decide (sX.now.fmod q = 0) := by
        by_cases z : sX.now.fmod q = 0
        · rw [z]; rfl
        · rw [decide_eq_false z, decide_eq_false (fun e => z (V.int.inj e))]
      rw [ed]
      by_cases hm : sX.now.fmod q = 0
      · rw [decide_eq_true hm]
        refine iteT ?_
        refine ⟨_, rfl, b, A.dx, _, rfl, B10.ob, by kernel_rfl, b, rv, c, A, sX, r, rfl, ⟨B10, ok10, dr10, by rw [lev, ll10, ll8, llM]⟩, fun A' G11 B11 S11 => ?_⟩
        refine k A' _ ?_ (S210.trans S11)
        rw [hunits]
        show BdAt CB K G11 b rv c A' (if sX.now.fmod q = 0 then sX.lift else sX)
        rw [if_pos hm]
        exact B11
      · rw [decide_eq_false hm]
        refine iteF ?_
        refine k A _ ?_ S210
        rw [hunits]
        show BdAt CB K _ b rv c A (if sX.now.fmod q = 0 then sX.lift else sX)
        rw [if_neg hm]
        exact B10
end
end Vk
set_option maxHeartbeats 8000000
/-! a new board, a copy -/
namespace Vk
open PySem PySem.Spec PyProof.Rows L2
def Bd.new (r : Rl) : Bd := ⟨0, List.replicate r.levels.length [], [], [], []⟩
theorem offL_one {x : Addr} {H : Hp} : OffL [x] H = Off x H := by
  funext z
  by_cases e : z = x
  · rw [e, off_same, offL_in (by simp)]
  · rw [off_ne e, offL_out (by simpa using e)]
/-- what is kept while the board at x is made -/
structure Grow (x : Addr) (H G : Hp) : Prop where
  up : ∀ z, H z ≠ none → G z ≠ none
  sm : ∀ ft : List Addr, x ∈ ft → Same (OffL ft H) (OffL ft G)
theorem Grow.at {x : Addr} {H G : Hp} (g : Grow x H G) {z : Addr} {o : HO} (n : z ≠ x) (h : H z = some o) (nt : NoTbl o := by exact True.intro) : G z = some o := by
  have y := (g.sm [x] (by simp)).at_ z o (by rw [offL_out (by simpa using n)]; exact h) nt
  exact (offL_some y).2
theorem Grow.put {x : Addr} {H G : Hp} (g : Grow x H G) {o : HO} : Grow x H (upd G x o) := ⟨fun z h => by
  by_cases e : z = x
  · rw [e, upd_same]; simp
  · rw [upd_ne e]; exact g.up z h, fun ft m => by rw [offL_upd m]; exact g.sm ft m⟩
theorem Grow.same {x : Addr} {H G G' : Hp} (g : Grow x H G) (s : Same G G') : Grow x H G' := ⟨fun z h => s.has z (g.up z h), fun ft m => (g.sm ft m).trans (offL_mono s)⟩
theorem Grow.free0 {x : Addr} {H G : Hp} (g : Grow x H G) {z : Addr} (h : G z = none) : H z = none := by
  by_cases e : H z = none
  · exact e
  · exact absurd h (g.up z e)
theorem Grow.refl {x : Addr} {H : Hp} : Grow x H H := ⟨fun _ h => h, fun _ _ => Same.refl _⟩
section
variable {P : Program} {w : World} {K : PySem.W.Frag} {mg : Str → Option Value} {base : Heap} {CB : Addr}
def spBInit (K : PySem.W.Frag) (CB : Addr) : Sp := fun vs H Q _ => ∃ (x dx : Addr) (rv : V) (c : Int) (r : Rl), vs = [.ref x, rv, .int c] ∧ H x = some (.ins CB dx []) ∧ Dp K (Off x H) rv (bRulD r) ∧ 1 ≤ r.levels.length ∧ r.levels.length ≤ 6 ∧
  ∀ (A : BdA) (H' : Hp), A.dx = dx → BdAt CB K H' x rv c A (Bd.new r) → (∀ z ∈ ftB x A, z = x ∨ H z = none) → Same (Off x H) (OffL (ftB x A) H') → Q .non H'
theorem scBInit : FnScope ["self", "rule", "processors", "_"] ["self", "rule", "processors"] (defScope sBdInit) := ⟨rfl, rfl, rfl, by decide +kernel, rfl, by decide +kernel, by decide +kernel⟩
theorem ok_binit {fI : Addr} {fd : FuncData} (F : Fun K "__init__" "Board.__init__" sBdInit fI fd) (T : BdC K CB) : FnOk P w K mg base CX0 1 fI fd ["self", "rule", "processors"] (spBInit K CB) := by
  refine F.ok scBInit (fun vs H Q E h => ?_) (fun cdv Ar outer s0 H vs Q E hr h => ?_)
  · obtain ⟨x, dx, rv, c, r, rfl, _⟩ := h
    rfl
  · obtain ⟨x, dx, rv, c, r, rfl, hx, hd, l1, l6, k⟩ := h
    refine ⟨_, pss_cons (ps_fld (pv 0) (pv 1) rfl) (pss_cons (ps_fld (pv 0) (pv 2) rfl) (pss_cons (ps_fld (pv 0) pe_int rfl)
      (pss_cons (ps_fld (pv 0) (pe_lc (own := [("_", 3)]) (g := gName 3) (tt := tYes) (te := tLst tNil) (by rfl) scBInit.nd (pi_tup (pe_ix ix_tup (pv 1) pe_int (fun _ _ => rfl)))
          (blkOk_by (own := [("_", 3)]) (N := ["self", "rule", "processors", "_"]) (sc := defScope sBdInit) (by decide +kernel)) (fun _ _ _ _ _ => pg_name (i := 3) scBInit.nd rfl (Or.inl rfl)) (fun _ _ _ _ _ => pts_nil) (fun _ _ _ _ _ => pe_lst pa_nil)) rfl)
      (pss_cons (ps_fld (pv 0) pe_dnewK rfl) (pss_cons (ps_fld (pv 0) pe_dnewK rfl) (pss_one (ps_fld (pv 0) (pe_lst pa_nil) rfl))))))), ?_⟩
    refine ⟨_, rfl, _, rfl, x, CB, dx, _, rfl, hx, T.cl, T.nR, by show 0 < 1000; decide, ?_⟩
    refine ⟨_, rfl, _, rfl, x, CB, dx, _, rfl, upd_same, T.cl, T.nP, by show 1 < 1000; decide, ?_⟩
    refine ⟨_, rfl, x, CB, dx, _, rfl, upd_same, T.cl, T.nN, by show 2 < 1000; decide, ?_⟩
    rw [upd_upd, upd_upd]
    have g3 : Grow x H (upd H x (.ins CB dx (putF "now" (.int 0) (putF "processors" (.int c) (putF "rule" rv []))))) := Grow.refl.put
    have hx3 : upd H x (.ins CB dx (putF "now" (.int 0) (putF "processors" (.int c) (putF "rule" rv [])))) x = some (.ins CB dx (putF "now" (.int 0) (putF "processors" (.int c) (putF "rule" rv [])))) := upd_same
    have hd3 : Dp K (upd H x (.ins CB dx (putF "now" (.int 0) (putF "processors" (.int c) (putF "rule" rv []))))) rv (bRulD r) := by
      have y := dp_same (off_sub x (upd H x (.ins CB dx (putF "now" (.int 0) (putF "processors" (.int c) (putF "rule" rv [])))))) (v := rv) (d := bRulD r) (by rw [off_upd]; exact hd)
      exact y
    generalize upd H x (.ins CB dx (putF "now" (.int 0) (putF "processors" (.int c) (putF "rule" rv [])))) = H3 at g3 hx3 hd3 ⊢
    obtain ⟨p, x0, y0, erv, q, dx0, dy0⟩ := dp_two hd3
    obtain ⟨pl, xs, rfl, ql, rl⟩ := dp_tuple dx0
    have lxs := dps_len rl
    rw [List.length_map] at lxs
    refine ⟨_, rfl, p, _, _, _, erv, rfl, q, rfl, pl, rfl, ⟨_, ql⟩, fun D2 nD2 => ?_⟩
    refine lc_it (walk_tup (K := K) (a := pl) (xs := xs)) (fun i Hc => Fresh H3 D2 i Hc) (Fresh.zero nD2) (fun i Hc _ ⟨_, _, _, _, _, sc⟩ => same_seqT (sc.trans (off_sub D2 Hc)) ql) ?_ ?_
    · rintro i y Hc0 Hc hi fr ⟨rfl, hy⟩
      refine ⟨rfl, Nat.zero_le _, fun L nL => ?_⟩
      obtain ⟨acc, a1, a2, a3⟩ := fr.next nD2 nL
      refine ⟨acc, a1, ?_, a3⟩
      rw [a2]
      exact Nat.lt_of_lt_of_le (show i < 1000 by omega) (by decide)
    · rintro HC ⟨ls, c1, c2, c3, c4, c5⟩
      have sC := c5.trans (off_sub D2 HC)
      have gC := g3.same sC
      have hxC := sC.at hx3
      have D2x : D2 ≠ x := fun e => by rw [e, hx3] at nD2; cases nD2
      have lx : ∀ l ∈ ls, l ≠ x := fun l hl e => by
        have z := (c3 l hl).2.1
        rw [e, hx3] at z
        cases z
      have nD : H D2 = none := g3.free0 nD2
      have nl : ∀ l ∈ ls, H l = none := fun l hl => g3.free0 (c3 l hl).2.1
      refine ⟨_, rfl, x, CB, dx, _, rfl, hxC, T.cl, T.nL, by show 3 < 1000; decide, ?_⟩
      have g4 := gC.put (o := .ins CB dx (putF "lines" (.ref D2) (putF "now" (.int 0) (putF "processors" (.int c) (putF "rule" rv [])))))
      have d4 : upd HC x (.ins CB dx (putF "lines" (.ref D2) (putF "now" (.int 0) (putF "processors" (.int c) (putF "rule" rv []))))) D2 = some (.lst (ls.map V.ref)) := by rw [upd_ne D2x]; exact c2
      have f4 : ∀ l ∈ ls, upd HC x (.ins CB dx (putF "lines" (.ref D2) (putF "now" (.int 0) (putF "processors" (.int c) (putF "rule" rv []))))) l = some (.lst []) := fun l hl => by rw [upd_ne (lx l hl)]; exact (c3 l hl).1
      have x4 : upd HC x (.ins CB dx (putF "lines" (.ref D2) (putF "now" (.int 0) (putF "processors" (.int c) (putF "rule" rv []))))) x = some (.ins CB dx (putF "lines" (.ref D2) (putF "now" (.int 0) (putF "processors" (.int c) (putF "rule" rv []))))) := upd_same
      generalize upd HC x (.ins CB dx (putF "lines" (.ref D2) (putF "now" (.int 0) (putF "processors" (.int c) (putF "rule" rv []))))) = H4 at g4 d4 f4 x4 ⊢
      refine fun u nu => ?_
      have s5 := same_new (o := .dK []) nu
      have ux : u ≠ x := fun e => by rw [e, x4] at nu; cases nu
      refine ⟨_, rfl, x, CB, dx, _, rfl, s5.at x4, T.cl, T.nU, by show 4 < 1000; decide, ?_⟩
      have g5 := (g4.same s5).put (o := .ins CB dx (putF "used" (.ref u) (putF "lines" (.ref D2) (putF "now" (.int 0) (putF "processors" (.int c) (putF "rule" rv []))))))
      have nu0 := g4.free0 nu
      have u5 : upd (upd H4 u (.dK [])) x (.ins CB dx (putF "used" (.ref u) (putF "lines" (.ref D2) (putF "now" (.int 0) (putF "processors" (.int c) (putF "rule" rv [])))))) u = some (.dK []) := by rw [upd_ne ux, upd_same]
      have d5 : upd (upd H4 u (.dK [])) x (.ins CB dx (putF "used" (.ref u) (putF "lines" (.ref D2) (putF "now" (.int 0) (putF "processors" (.int c) (putF "rule" rv [])))))) D2 = some (.lst (ls.map V.ref)) := by rw [upd_ne D2x]; exact s5.at d4
      have f5 : ∀ l ∈ ls, upd (upd H4 u (.dK [])) x (.ins CB dx (putF "used" (.ref u) (putF "lines" (.ref D2) (putF "now" (.int 0) (putF "processors" (.int c) (putF "rule" rv [])))))) l = some (.lst []) := fun l hl => by rw [upd_ne (lx l hl)]; exact s5.at (f4 l hl)
      have x5 : upd (upd H4 u (.dK [])) x (.ins CB dx (putF "used" (.ref u) (putF "lines" (.ref D2) (putF "now" (.int 0) (putF "processors" (.int c) (putF "rule" rv [])))))) x = some (.ins CB dx (putF "used" (.ref u) (putF "lines" (.ref D2) (putF "now" (.int 0) (putF "processors" (.int c) (putF "rule" rv [])))))) := upd_same
      generalize upd (upd H4 u (.dK [])) x (.ins CB dx (putF "used" (.ref u) (putF "lines" (.ref D2) (putF "now" (.int 0) (putF "processors" (.int c) (putF "rule" rv [])))))) = H5 at g5 u5 d5 f5 x5 ⊢
      refine fun n nn => ?_
      have s6 := same_new (o := .dK []) nn
      have nx : n ≠ x := fun e => by rw [e, x5] at nn; cases nn
      have nu' : u ≠ n := fun e => by rw [← e, u5] at nn; cases nn
      refine ⟨_, rfl, x, CB, dx, _, rfl, s6.at x5, T.cl, T.nA, by show 5 < 1000; decide, ?_⟩
      have g6 := (g5.same s6).put (o := .ins CB dx (putF "ran" (.ref n) (putF "used" (.ref u) (putF "lines" (.ref D2) (putF "now" (.int 0) (putF "processors" (.int c) (putF "rule" rv [])))))))
      have nn0 := g5.free0 nn
      have n6 : upd (upd H5 n (.dK [])) x (.ins CB dx (putF "ran" (.ref n) (putF "used" (.ref u) (putF "lines" (.ref D2) (putF "now" (.int 0) (putF "processors" (.int c) (putF "rule" rv []))))))) n = some (.dK []) := by rw [upd_ne nx, upd_same]
      have u6 : upd (upd H5 n (.dK [])) x (.ins CB dx (putF "ran" (.ref n) (putF "used" (.ref u) (putF "lines" (.ref D2) (putF "now" (.int 0) (putF "processors" (.int c) (putF "rule" rv []))))))) u = some (.dK []) := by rw [upd_ne ux]; exact s6.at u5
      have d6 : upd (upd H5 n (.dK [])) x (.ins CB dx (putF "ran" (.ref n) (putF "used" (.ref u) (putF "lines" (.ref D2) (putF "now" (.int 0) (putF "processors" (.int c) (putF "rule" rv []))))))) D2 = some (.lst (ls.map V.ref)) := by rw [upd_ne D2x]; exact s6.at d5
      have f6 : ∀ l ∈ ls, upd (upd H5 n (.dK [])) x (.ins CB dx (putF "ran" (.ref n) (putF "used" (.ref u) (putF "lines" (.ref D2) (putF "now" (.int 0) (putF "processors" (.int c) (putF "rule" rv []))))))) l = some (.lst []) := fun l hl => by rw [upd_ne (lx l hl)]; exact s6.at (f5 l hl)
      have x6 : upd (upd H5 n (.dK [])) x (.ins CB dx (putF "ran" (.ref n) (putF "used" (.ref u) (putF "lines" (.ref D2) (putF "now" (.int 0) (putF "processors" (.int c) (putF "rule" rv []))))))) x = some (.ins CB dx (putF "ran" (.ref n) (putF "used" (.ref u) (putF "lines" (.ref D2) (putF "now" (.int 0) (putF "processors" (.int c) (putF "rule" rv []))))))) := upd_same
      generalize upd (upd H5 n (.dK [])) x (.ins CB dx (putF "ran" (.ref n) (putF "used" (.ref u) (putF "lines" (.ref D2) (putF "now" (.int 0) (putF "processors" (.int c) (putF "rule" rv []))))))) = H6 at g6 n6 u6 d6 f6 x6 ⊢
      refine ⟨Nat.zero_le _, fun F nF => ?_⟩
      have s7 := same_new (o := .lst []) nF
      have Fx : F ≠ x := fun e => by rw [e, x6] at nF; cases nF
      have FD : D2 ≠ F := fun e => by rw [← e, d6] at nF; cases nF
      have Fl : ∀ l ∈ ls, l ≠ F := fun l hl e => by
        have z := f6 l hl
        rw [e, nF] at z
        cases z
      have nF0 := g6.free0 nF
      refine ⟨_, rfl, x, CB, dx, _, rfl, s7.at x6, T.cl, T.nF, by show 6 < 1000; decide, ?_⟩
      have g7 := (g6.same s7).put (o := .ins CB dx (bf rv c 0 ⟨dx, D2, u, n, F, ls⟩))
      have eb : putF "finishes" (.ref F) (putF "ran" (.ref n) (putF "used" (.ref u) (putF "lines" (.ref D2) (putF "now" (.int 0) (putF "processors" (.int c) (putF "rule" rv [])))))) = bf rv c 0 ⟨dx, D2, u, n, F, ls⟩ := bf_make D2 u n F dx
      rw [eb]
      have mem : ∀ z ∈ ftB x ⟨dx, D2, u, n, F, ls⟩, z = x ∨ H z = none := fun z hz => by
        simp only [ftB, List.mem_cons] at hz
        rcases hz with rfl | rfl | rfl | rfl | rfl | h
        · exact .inl rfl
        · exact .inr nD
        · exact .inr nu0
        · exact .inr nn0
        · exact .inr nF0
        · exact .inr (nl z h)
      refine k ⟨dx, D2, u, n, F, ls⟩ _ rfl ⟨upd_same, by rw [upd_ne D2x]; exact s7.at d6, ?_, fun i l ns h1 h2 => ?_, by rw [upd_ne ux]; exact s7.at u6, by rw [upd_ne nx]; exact s7.at n6, ⟨[], by rw [upd_ne Fx, upd_same], .nil⟩, ?_, nu'⟩ mem ?_
      · show ls.length = (List.replicate r.levels.length []).length
        rw [List.length_replicate, c1, lxs]
      · have hl := List.mem_of_getElem? h1
        have e : ns = [] := List.eq_of_mem_replicate (List.mem_of_getElem? (show (List.replicate r.levels.length ([] : List Str))[i]? = some ns from h2))
        subst e
        rw [upd_ne (lx l hl)]
        exact s7.at (f6 l hl)
      · refine List.nodup_cons.mpr ⟨?_, List.nodup_cons.mpr ⟨fun h => Fl F h rfl, c4⟩⟩
        simp only [List.mem_cons, not_or]
        exact ⟨FD, fun h => (c3 D2 h).2.2 rfl⟩
      · have y := g7.sm (ftB x ⟨dx, D2, u, n, F, ls⟩) (by simp [ftB])
        refine Same.trans ?_ y
        rw [← offL_one]
        exact offL_swap fun z hz => (mem z hz).imp (fun e => by simp [e]) id
end
end Vk
set_option maxHeartbeats 8000000
/-! a copy of a board -/
namespace Vk
open PySem PySem.Spec PyProof.Rows L2
section
variable {X : Cx}
/-- dict(d), d a dict: a copy -/
def rDictC : List V → Hp → VK → Prop := fun xs H Q => ∃ (a : Addr) (kvs : List (Key × V)), xs = [.ref a] ∧ H a = some (.dK kvs) ∧ ∀ p, H p = none → Q (.ref p) (upd H p (.dK kvs))
theorem call_dictC : CallR X (.type "dict") rDictC := by
  intro pins s σ H xs us Q I r h
  obtain ⟨a, kvs, rfl, e, q⟩ := h
  obtain ⟨u, rfl, rx⟩ := vals1 r
  cases rx
  exact d_copyOf I (.inl e) fun p s' hp I' => ⟨.ref p, _, I', rfl, q p hp⟩
end
theorem same_putT {H G : Hp} (s : Same H G) {t : Addr} {o : HO} (h : H t = none) : Same H (upd G t o) := by
  refine ⟨fun b u e n => ?_, fun b e => ?_, fun Q ⟨ps, e, tt⟩ => ?_⟩
  · rw [upd_ne (fun z => by rw [z, h] at e; cases e)]
    exact s.at_ b u e n
  · rw [upd_ne (fun z => e (by rw [z]; exact h))]
    exact s.has b e
  · obtain ⟨qs, f, u⟩ := s.tab Q ⟨ps, e, tt⟩
    exact ⟨qs, by rw [upd_ne (fun z => by rw [z, h] at e; cases e)]; exact f, u⟩
def rListC (K : PySem.W.Frag) : List V → Hp → VK → Prop := fun xs H Q => ∃ p ys, xs = [.ref p] ∧ (SqL K H p ys ∨ SqT K H p ys) ∧ ∀ l, H l = none → Q (.ref l) (upd H l (.lst ys))
/-- copies of the lists ns, one behind the other, in the list at D -/
def Copies (H0 : Hp) (D : Addr) (nss : List (List Str)) (H : Hp) : Prop := ∃ ls : List Addr, ls.length = nss.length ∧ H D = some (.lst (ls.map V.ref)) ∧ (∀ (i : Nat) l ns, ls[i]? = some l → nss[i]? = some ns → H l = some (.lst (ns.map V.str))) ∧ (∀ l ∈ ls, H0 l = none ∧ H l ≠ none ∧ l ≠ D) ∧ ls.Nodup ∧ Same H0 (Off D H)
theorem Copies.zero {H0 : Hp} {D : Addr} (h : H0 D = none) : Copies H0 D [] (upd H0 D (.lst [])) := ⟨[], rfl, upd_same, fun i l ns h1 _ => absurd h1 (by simp), fun l hl => absurd hl (by simp), List.nodup_nil, off_newB h⟩
theorem Copies.next {H0 H : Hp} {D L : Addr} {nss : List (List Str)} (f : Copies H0 D nss H) (nL : H L = none) (ms : List Str) : ∃ acc, upd H L (.lst (ms.map V.str)) D = some (.lst acc) ∧ acc.length = nss.length ∧ Copies H0 D (nss ++ [ms]) (upd (upd H L (.lst (ms.map V.str))) D (.lst (acc ++ [V.ref L]))) := by
  obtain ⟨ls, h1, h2, h3, h4, h5, h6⟩ := f
  have LD : L ≠ D := fun e => by rw [e, h2] at nL; cases nL
  have n0 : H0 L = none := by
    by_cases z : H0 L = none
    · exact z
    · have y := h6.has L z
      rw [off_ne LD, nL] at y
      exact absurd rfl y
  have lL : ∀ l ∈ ls, l ≠ L := fun l hl e => (h4 l hl).2.1 (by rw [e]; exact nL)
  refine ⟨ls.map V.ref, by rw [upd_ne (Ne.symm LD)]; exact h2, by rw [List.length_map]; exact h1, ls ++ [L], by rw [List.length_append, List.length_append, h1]; rfl, by rw [upd_same, List.map_append]; rfl, fun i l ns q1 q2 => ?_, fun l hl => ?_, ?_, ?_⟩
  · by_cases z : i < ls.length
    · rw [List.getElem?_append_left z] at q1
      rw [List.getElem?_append_left (by omega)] at q2
      have hl := List.mem_of_getElem? q1
      rw [upd_ne (h4 l hl).2.2, upd_ne (lL l hl)]
      exact h3 i l ns q1 q2
    · rw [List.getElem?_append_right (by omega)] at q1
      rw [List.getElem?_append_right (by omega)] at q2
      have e0 : i - ls.length = 0 := by
        have := (List.getElem?_eq_some_iff.mp q1).1
        simp only [List.length_singleton] at this
        omega
      rw [e0] at q1
      rw [← h1, e0] at q2
      cases q1
      cases q2
      rw [upd_ne LD, upd_same]
  · rcases List.mem_append.mp hl with hl | hl
    · obtain ⟨a1, a2, a3⟩ := h4 l hl
      exact ⟨a1, by rw [upd_ne a3, upd_ne (lL l hl)]; exact a2, a3⟩
    · rw [List.mem_singleton.mp hl]
      exact ⟨n0, by rw [upd_ne LD, upd_same]; simp, LD⟩
  · refine List.nodup_append.mpr ⟨h5, by simp, fun a ha b hb e => ?_⟩
    rw [List.mem_singleton.mp hb] at e
    exact lL a ha e
  · rw [off_upd]
    exact h6.trans (off_mono (a := D) (same_new nL))
/-- the class, as it makes -/
structure BdNew (P : Program) (w : World) (K : PySem.W.Frag) (mg : Str → Option Value) (base : Heap) (CB : Addr) : Prop where
  g : mg "Board" = some (.ref CB)
  ex : ∃ fI fd, Mk K CB fI ∧ Binds K fd ["self", "rule", "processors"] [] ∧ FnOk P w K mg base CX0 1 fI fd ["self", "rule", "processors"] (spBInit K CB)
section
variable {P : Program} {w : World} {K : PySem.W.Frag} {mg : Str → Option Value} {base : Heap} {CB : Addr}
def spCopied (K : PySem.W.Frag) (CB : Addr) : Sp := fun vs H Q _ => ∃ (b : Addr) (rv : V) (c : Int) (A : BdA) (s : Bd) (r : Rl), vs = [.ref b] ∧ BdR K CB H b rv c A s r ∧
  ∀ (t : Addr) (At : BdA) (H' : Hp), BdAt CB K H' t rv c At s → Same H H' → (∀ z ∈ ftB t At, H z = none) → Q (.ref t) H'
theorem scCopied : FnScope ["self", "twin", "line"] ["self"] (defScope sBdCopied) := ⟨rfl, rfl, rfl, by decide +kernel, rfl, by decide +kernel, by decide +kernel⟩
theorem ok_copied (D : MDf K CB "copied" "Board.copied" sBdCopied ["self"]) (T : BdC K CB) (N : BdNew P w K mg base CB) (ml : mg "list" = none) (md : mg "dict" = none) : MCl P w K mg base CX0 3 CB "copied" ["self"] (spCopied K CB) := by
  refine mcl0 D scCopied (fun vs H Q E h => ?_) (fun f cdv Ar outer s0 H vs Q E hr h => ?_)
  · obtain ⟨b, rv, c, A, s, r, rfl, _⟩ := h
    rfl
  · obtain ⟨b, rv, c, A, s, r, rfl, ⟨BA, ok, dr, lev⟩, k⟩ := h
    obtain ⟨fI, fdI, MI, bI, FI⟩ := N.ex
    have l1 := ok.lines1
    have l6 := ok.lines6
    refine ⟨_, pss_cons (ps_set (i := 1) scCopied.nd rfl (Or.inl rfl) (pe_make MI FI hr rfl N.g bI .nil pass0 (pa_cons (pe_fld (pv 0) rfl) (pa_cons (pe_fld (pv 0) rfl) pa_nil))))
      (pss_cons (ps_fld (pv 1) (pe_fld (pv 0) rfl) rfl)
      (pss_cons (ps_fld (pv 1) (pe_lc (own := [("line", 2)]) (g := gName 2) (tt := tYes) (te := tCB (rListC K) (tCons (tVar 2) tNil)) (by rfl) scCopied.nd (pi_list (pe_fld (pv 0) rfl))
          (blkOk_by (own := [("line", 2)]) (N := ["self", "twin", "line"]) (sc := defScope sBdCopied) (by decide +kernel)) (fun _ _ _ _ _ => pg_name (i := 2) scCopied.nd rfl (Or.inl rfl)) (fun _ _ _ _ _ => pts_nil) (fun _ _ _ _ _ => pe_callTy call_list_of (by rfl) ml (by decide +kernel) (pa_cons (pv 2) pa_nil))) rfl)
      (pss_cons (ps_fld (pv 1) (pe_callTy call_dictC (by rfl) md (by decide +kernel) (pa_cons (pe_fld (pv 0) rfl) pa_nil)) rfl)
      (pss_cons (ps_fld (pv 1) (pe_callTy call_dictC (by rfl) md (by decide +kernel) (pa_cons (pe_fld (pv 0) rfl) pa_nil)) rfl)
      (pss_cons (ps_fld (pv 1) (pe_callTy call_list_of (by rfl) ml (by decide +kernel) (pa_cons (pe_fld (pv 0) rfl) pa_nil)) rfl)
      (pss_one (ps_ret (pv 1)))))))), ?_⟩
    refine ⟨_, rfl, b, CB, A.dx, _, _, rfl, BA.ob, T.cl, T.nR, bf_rule, _, rfl, b, CB, A.dx, _, _, rfl, BA.ob, T.cl, T.nP, bf_proc, fun t dx nt nd dt => ?_⟩
    have s0' : Same H (Off t (upd (upd H dx (.own t)) t (.ins CB dx []))) := by
      rw [off_upd]
      exact .of fun z o e => by
        rw [off_ne (fun y => by rw [y, nt] at e; cases e), upd_ne (fun y => by rw [y, nd] at e; cases e)]
        exact e
    refine ⟨t, dx, rv, c, r, rfl, upd_same, dp_same ((offL_sub _ _).trans s0') dr, by omega, by omega, fun At G1 edx Bt1 fr1 S1 => ⟨rfl, ?_⟩⟩
    have sH1 : Same H G1 := s0'.trans (S1.trans (offL_sub _ _))
    have fr1' : ∀ z ∈ ftB t At, H z = none := fun z hz => by
      rcases fr1 z hz with e | e
      · rw [e]; exact nt
      · by_cases z1 : z = t
        · rw [z1]; exact nt
        · rw [upd_ne z1] at e
          by_cases z2 : z = dx
          · rw [z2]; exact nd
          · rw [upd_ne z2] at e
            exact e
    -- the moment
    have Bs1 := BA.same sH1
    refine ⟨_, rfl, b, CB, A.dx, _, _, rfl, Bs1.ob, T.cl, T.nN, bf_now, _, rfl, t, CB, At.dx, _, rfl, Bt1.ob, T.cl, T.nN, by show 7 < 1000; decide, ?_⟩
    rw [bf_setNow]
    have Bt2 := Bt1.setNow s.now
    have sH2 : Same H (upd G1 t (.ins CB At.dx (bf rv c s.now At))) := same_putT sH1 nt
    generalize upd G1 t (.ins CB At.dx (bf rv c s.now At)) = G2 at Bt2 sH2 ⊢
    -- the lines
    have Bs2 := BA.same sH2
    refine ⟨_, rfl, b, CB, A.dx, _, _, rfl, Bs2.ob, T.cl, T.nL, bf_lines, A.L, rfl, ⟨_, SqL.of Bs2.lines⟩, fun D2 nD2 => ?_⟩
    refine lc_it (walk_list (K := K) (a := A.L) (xs := A.ls.map V.ref)) (fun i Hc => Copies G2 D2 (s.lines.take i) Hc) (Copies.zero nD2) (fun i Hc _ ⟨_, _, _, _, _, _, sc⟩ => SqL.of ((sc.trans (off_sub D2 Hc)).at Bs2.lines)) ?_ ?_
    · rintro i y Hc0 Hc hi fr ⟨rfl, hy⟩
      rw [List.getElem?_map] at hy
      obtain ⟨l, hl, rfl⟩ := Option.map_eq_some_iff.mp hy
      have li : i < s.lines.length := by rw [← BA.len]; exact (List.getElem?_eq_some_iff.mp hl).1
      have hns : s.lines[i]? = some s.lines[i] := List.getElem?_eq_getElem li
      generalize s.lines[i] = ns at hns
      have hln := Bs2.line i l ns hl hns
      obtain ⟨_, _, _, _, _, _, sc⟩ := id fr
      refine ⟨rfl, _, rfl, l, _, rfl, .inl (SqL.of ((sc.trans (off_sub D2 Hc)).at hln)), fun L nL => ?_⟩
      obtain ⟨acc, a1, a2, a3⟩ := fr.next nL ns
      refine ⟨acc, a1, ?_, ?_⟩
      · rw [a2, List.length_take]
        exact Nat.lt_of_lt_of_le (show min i s.lines.length < 1000 by omega) (by decide)
      · rw [List.take_add_one, hns]
        exact a3
    intro HC fr
    rw [List.length_map, BA.len, List.take_length] at fr
    obtain ⟨ls, c1, c2, c3, c4, c5, c6⟩ := fr
    have sC := c6.trans (off_sub D2 HC)
    have BtC := Bt2.same sC
    refine ⟨_, rfl, t, CB, At.dx, _, rfl, BtC.ob, T.cl, T.nL, by show 7 < 1000; decide, ?_⟩
    rw [bf_setLines]
    obtain ⟨Bt3, _⟩ := Bt2.newLines sC (L' := D2) (ls := ls) (lines := s.lines) c2 nD2 (fun l hl => (c4 l hl).1) c1 c3 (List.nodup_cons.mpr ⟨fun h => (c4 D2 h).2.2 rfl, c5⟩)
    have fr3 : ∀ z ∈ ftB t { At with L := D2, ls := ls }, H z = none := fun z hz => by
      simp only [ftB, List.mem_cons] at hz
      rcases hz with rfl | rfl | rfl | rfl | rfl | h
      · exact nt
      · exact sH2.free nD2
      · exact fr1' _ (by simp [ftB])
      · exact fr1' _ (by simp [ftB])
      · exact fr1' _ (by simp [ftB])
      · exact sH2.free (c4 z h).1
    replace Bt3 : BdAt CB K (upd HC t (.ins CB At.dx (bf rv c s.now { At with L := D2 }))) t rv c { At with L := D2, ls := ls } ⟨s.now, s.lines, [], [], []⟩ := Bt3
    have sH3 : Same H (upd HC t (.ins CB At.dx (bf rv c s.now { At with L := D2 }))) := same_putT (sH2.trans sC) nt
    generalize upd HC t (.ins CB At.dx (bf rv c s.now { At with L := D2 })) = G3 at Bt3 sH3 ⊢
    generalize hA3 : ({ At with L := D2, ls := ls } : BdA) = A3 at Bt3 fr3
    -- the units
    have Bs3 := BA.same sH3
    refine ⟨_, rfl, b, CB, A.dx, _, _, rfl, Bs3.ob, T.cl, T.nU, bf_used, A.u, _, rfl, Bs3.used, fun u nu => ?_⟩
    have s4 := same_new (o := .dK (kvS s.used)) nu
    refine ⟨_, rfl, t, CB, A3.dx, _, rfl, s4.at Bt3.ob, T.cl, T.nU, by show 7 < 1000; decide, ?_⟩
    rw [bf_setUsed]
    obtain ⟨Bt4, _⟩ := Bt3.newUsed s4 (u' := u) (us := s.used) upd_same nu
    have fr4 : ∀ z ∈ ftB t { A3 with u := u }, H z = none := fun z hz => by
      simp only [ftB, List.mem_cons] at hz
      rcases hz with rfl | rfl | rfl | rfl | rfl | h
      · exact nt
      · exact fr3 _ (by simp [ftB])
      · exact sH3.free nu
      · exact fr3 _ (by simp [ftB])
      · exact fr3 _ (by simp [ftB])
      · exact fr3 _ (by simp [ftB, h])
    have sH4 : Same H (upd (upd G3 u (.dK (kvS s.used))) t (.ins CB A3.dx (bf rv c s.now { A3 with u := u }))) := same_putT (sH3.trans s4) nt
    replace Bt4 : BdAt CB K (upd (upd G3 u (.dK (kvS s.used))) t (.ins CB A3.dx (bf rv c s.now { A3 with u := u }))) t rv c { A3 with u := u } ⟨s.now, s.lines, s.used, [], []⟩ := Bt4
    generalize upd (upd G3 u (.dK (kvS s.used))) t (.ins CB A3.dx (bf rv c s.now { A3 with u := u })) = G4 at Bt4 sH4 ⊢
    generalize hA4 : ({ A3 with u := u } : BdA) = A4 at Bt4 fr4
    have Bs4 := BA.same sH4
    refine ⟨_, rfl, b, CB, A.dx, _, _, rfl, Bs4.ob, T.cl, T.nA, bf_ran, A.n, _, rfl, Bs4.ran, fun n nn => ?_⟩
    have s5 := same_new (o := .dK (kvS s.ran)) nn
    refine ⟨_, rfl, t, CB, A4.dx, _, rfl, s5.at Bt4.ob, T.cl, T.nA, by show 7 < 1000; decide, ?_⟩
    rw [bf_setRan]
    obtain ⟨Bt5, _⟩ := Bt4.newRan s5 (u' := n) (us := s.ran) upd_same nn
    have fr5 : ∀ z ∈ ftB t { A4 with n := n }, H z = none := fun z hz => by
      simp only [ftB, List.mem_cons] at hz
      rcases hz with rfl | rfl | rfl | rfl | rfl | h
      · exact nt
      · exact fr4 _ (by simp [ftB])
      · exact fr4 _ (by simp [ftB])
      · exact sH4.free nn
      · exact fr4 _ (by simp [ftB])
      · exact fr4 _ (by simp [ftB, h])
    have sH5 : Same H (upd (upd G4 n (.dK (kvS s.ran))) t (.ins CB A4.dx (bf rv c s.now { A4 with n := n }))) := same_putT (sH4.trans s5) nt
    replace Bt5 : BdAt CB K (upd (upd G4 n (.dK (kvS s.ran))) t (.ins CB A4.dx (bf rv c s.now { A4 with n := n }))) t rv c { A4 with n := n } ⟨s.now, s.lines, s.used, s.ran, []⟩ := Bt5
    generalize upd (upd G4 n (.dK (kvS s.ran))) t (.ins CB A4.dx (bf rv c s.now { A4 with n := n })) = G5 at Bt5 sH5 ⊢
    generalize hA5 : ({ A4 with n := n } : BdA) = A5 at Bt5 fr5
    -- the finishes
    have Bs5 := BA.same sH5
    obtain ⟨xs, f1, f2⟩ := BA.fins
    refine ⟨_, rfl, b, CB, A.dx, _, _, rfl, Bs5.ob, T.cl, T.nF, bf_fins, A.F, xs, rfl, .inl (SqL.of (sH5.at f1)), fun F nF => ?_⟩
    have s6 := same_new (o := .lst xs) nF
    refine ⟨_, rfl, t, CB, A5.dx, _, rfl, s6.at Bt5.ob, T.cl, T.nF, by show 7 < 1000; decide, ?_⟩
    rw [bf_setFins]
    have e0 : OffL [] H = H := funext fun z => offL_out (by simp)
    have sw : Same H (OffL (ftB t A5) G5) := by
      have y : Same (OffL [] H) (OffL (ftB t A5) H) := offL_swap fun z hz => .inr (fr5 z hz)
      rw [e0] at y
      exact y.trans (offL_mono sH5)
    obtain ⟨Bt6, _⟩ := Bt5.newFins s6 (F' := F) (fs := s.fins) upd_same nF (dps_same ((offL_sub _ _).trans sw) f2)
    have fr6 : ∀ z ∈ ftB t { A5 with F := F }, H z = none := fun z hz => by
      simp only [ftB, List.mem_cons] at hz
      rcases hz with rfl | rfl | rfl | rfl | rfl | h
      · exact nt
      · exact fr5 _ (by simp [ftB])
      · exact fr5 _ (by simp [ftB])
      · exact fr5 _ (by simp [ftB])
      · exact sH5.free nF
      · exact fr5 _ (by simp [ftB, h])
    have sH6 : Same H (upd (upd G5 F (.lst xs)) t (.ins CB A5.dx (bf rv c s.now { A5 with F := F }))) := same_putT (sH5.trans s6) nt
    exact ⟨_, rfl, k t _ _ Bt6 sH6 fr6⟩
end
end Vk
set_option maxHeartbeats 4000000
/-! a board keeps to what it kept to -/
namespace Vk
open PySem PySem.Spec PyProof.Rows L2
theorem Bd.leaves_same : ∀ (xs : List Str) (s : Bd), (xs.foldl Bd.leave s).now = s.now ∧ (xs.foldl Bd.leave s).fins = s.fins ∧ (xs.foldl Bd.leave s).ran = s.ran
  | [], s => ⟨rfl, rfl, rfl⟩
  | x :: xs, s => Bd.leaves_same xs (s.leave x)
theorem Bd.quanta_same {r : Rl} {s : Bd} {x : Str} : (s.quanta1 r x).now = s.now ∧ (s.quanta1 r x).fins = s.fins ∧ (s.quanta1 r x).ran = s.ran := by
  unfold Bd.quanta1
  split <;> exact ⟨rfl, rfl, rfl⟩
theorem Bd.quantas_same {r : Rl} : ∀ (xs : List Str) (s : Bd), (xs.foldl (Bd.quanta1 r) s).now = s.now ∧ (xs.foldl (Bd.quanta1 r) s).fins = s.fins ∧ (xs.foldl (Bd.quanta1 r) s).ran = s.ran
  | [], s => ⟨rfl, rfl, rfl⟩
  | x :: xs, s => by
    obtain ⟨h1, h2, h3⟩ := Bd.quantas_same (r := r) xs (s.quanta1 r x)
    obtain ⟨g1, g2, g3⟩ := Bd.quanta_same (r := r) (s := s) (x := x)
    exact ⟨h1.trans g1, h2.trans g2, h3.trans g3⟩
/-- who leaves -/
def Bd.lv (s : Bd) (c : Int) (fin : List Str) : List Str := (s.run c).filter fun x => decide (x ∈ fin)
structure Bd.After (s t : Bd) (c d : Int) (fin : List Str) : Prop where
  ok : t.Ok0
  now : t.now = s.now + d
  fins : t.fins = if s.lv c fin = [] then s.fins else s.fins ++ [(s.now + d, s.run c, s.lv c fin)]
  ran : t.ran.map (·.1) = s.ran.map (·.1)
  mem : ∀ y, y ∈ t.order ↔ y ∈ s.order ∧ y ∉ s.lv c fin
  len : t.lines.length = s.lines.length
theorem Bd.mid_after {s : Bd} (h : s.Ok0) (c d : Int) (fin : List Str) : (s.mid c d fin).Ok0 ∧ (s.mid c d fin).now = s.now + d ∧ (s.mid c d fin).fins = (if s.lv c fin = [] then s.fins else s.fins ++ [(s.now + d, s.run c, s.lv c fin)]) ∧
    (s.mid c d fin).ran.map (·.1) = s.ran.map (·.1) ∧ (s.mid c d fin).lines = s.lines := by
  obtain ⟨t1, t2, t3, t4, t5⟩ := Bd.ticks d (s.run c) { s with now := s.now + d }
  have ok := (h.at_ (s.now + d)).ticks d (s.run c)
  unfold Bd.mid Bd.lv
  generalize (s.run c).foldl (fun t x => t.tick1 d x) ({ s with now := s.now + d } : Bd) = sT at t1 t2 t3 t4 t5 ok ⊢
  by_cases e : (s.run c).filter (fun x => decide (x ∈ fin)) = []
  · rw [if_pos e, if_pos e]
    exact ⟨ok.at_ _, rfl, t2, t4, t1⟩
  · rw [if_neg e, if_neg e]
    exact ⟨(ok.at_ _).fin _, rfl, by show sT.fins ++ _ = _; rw [t2], t4, t1⟩
theorem Bd.units_after {r : Rl} {s : Bd} (h : s.Ok0) (c d : Int) (fin : List Str) : Bd.After s (s.endUnits r c d fin) c d fin := by
  obtain ⟨m1, m2, m3, m4, m5⟩ := Bd.mid_after h c d fin
  have lvs : (s.lv c fin).Sublist (s.run c) := List.filter_sublist
  have om : (s.mid c d fin).order = s.order := by unfold Bd.order; rw [m5]
  have subL : ∀ x ∈ s.lv c fin, x ∈ (s.mid c d fin).order := fun x hx => by rw [om]; exact Bd.run_sub x (lvs.subset hx)
  obtain ⟨l1, l2, l3⟩ := m1.leaves ((Bd.run_nd h).sublist lvs) subL
  obtain ⟨s1, s2, s3⟩ := Bd.leaves_same (s.lv c fin) (s.mid c d fin)
  have sub9 : ∀ x ∈ (s.run c).filter (fun x => decide (x ∉ s.lv c fin)), x ∈ ((s.lv c fin).foldl Bd.leave (s.mid c d fin)).order := fun x hx => by
    obtain ⟨x1, x2⟩ := List.mem_filter.mp hx
    exact (l2 x).mpr ⟨by rw [om]; exact Bd.run_sub x x1, of_decide_eq_true x2⟩
  obtain ⟨q1, q2, q3⟩ := l1.quantas (r := r) sub9
  obtain ⟨u1, u2, u3⟩ := Bd.quantas_same (r := r) ((s.run c).filter fun x => decide (x ∉ s.lv c fin)) ((s.lv c fin).foldl Bd.leave (s.mid c d fin))
  have base : Bd.After s (((s.run c).filter fun x => decide (x ∉ s.lv c fin)).foldl (Bd.quanta1 r) ((s.lv c fin).foldl Bd.leave (s.mid c d fin))) c d fin :=
    ⟨q1, by rw [u1, s1, m2], by rw [u2, s2, m3], by rw [u3, s3, m4], fun y => by rw [q2.mem_iff, l2 y, om], by rw [q3, l3, m5]⟩
  show Bd.After s (match r.boost with
    | some q => if (((s.run c).filter fun x => decide (x ∉ s.lv c fin)).foldl (Bd.quanta1 r) ((s.lv c fin).foldl Bd.leave (s.mid c d fin))).now.fmod q = 0 then Bd.lift (((s.run c).filter fun x => decide (x ∉ s.lv c fin)).foldl (Bd.quanta1 r) ((s.lv c fin).foldl Bd.leave (s.mid c d fin))) else ((s.run c).filter fun x => decide (x ∉ s.lv c fin)).foldl (Bd.quanta1 r) ((s.lv c fin).foldl Bd.leave (s.mid c d fin))
    | none => ((s.run c).filter fun x => decide (x ∉ s.lv c fin)).foldl (Bd.quanta1 r) ((s.lv c fin).foldl Bd.leave (s.mid c d fin))) c d fin
  generalize ((s.run c).filter fun x => decide (x ∉ s.lv c fin)).foldl (Bd.quanta1 r) ((s.lv c fin).foldl Bd.leave (s.mid c d fin)) = t at base ⊢
  cases r.boost with
  | none => exact base
  | some q =>
    show Bd.After s (if t.now.fmod q = 0 then t.lift else t) c d fin
    split
    · refine ⟨base.ok.lift, base.now, base.fins, base.ran, fun y => by rw [Bd.lift_order]; exact base.mem y, ?_⟩
      rw [← base.len]
      show (t.order :: List.replicate (t.lines.length - 1) []).length = _
      have := base.ok.lines1
      rw [List.length_cons, List.length_replicate]
      omega
    · exact base
theorem Bd.Ok.units {r : Rl} {s : Bd} (h : s.Ok) (c d : Int) (fin : List Str) (small : s.fins.length < 100000) : (s.endUnits r c d fin).Ok := by
  have a := Bd.units_after (r := r) h.toOk0 c d fin
  have lvs : (s.lv c fin).Sublist (s.run c) := List.filter_sublist
  have lo : ∀ x ∈ s.lv c fin, x ∈ s.order := fun x hx => Bd.run_sub x (lvs.subset hx)
  by_cases e : s.lv c fin = []
  · have ef := a.fins
    rw [if_pos e] at ef
    exact { a.ok with
      flen := by rw [ef]; exact h.flen
      fst := fun f hf => by
        rw [ef] at hf
        obtain ⟨x1, x2, x3⟩ := h.fst f hf
        exact ⟨x1, x2, fun x hx => by rw [a.ran]; exact x3 x hx⟩
      ndf := by rw [ef]; exact h.ndf
      gone := fun x hx m => by
        rw [ef] at hx
        exact h.gone x hx ((a.mem x).mp m).1 }
  · have ef := a.fins
    rw [if_neg e] at ef
    have fl : (s.endUnits r c d fin).fins.flatMap (fun f => f.2.2) = s.fins.flatMap (fun f => f.2.2) ++ s.lv c fin := by
      rw [ef, List.flatMap_append]
      simp
    exact { a.ok with
      flen := by
        rw [ef, List.length_append]
        show s.fins.length + 1 ≤ 100000
        omega
      fst := fun f hf => by
        rw [ef] at hf
        rcases List.mem_append.mp hf with hf | hf
        · obtain ⟨x1, x2, x3⟩ := h.fst f hf
          exact ⟨x1, x2, fun x hx => by rw [a.ran]; exact x3 x hx⟩
        · rw [List.mem_singleton.mp hf]
          refine ⟨Bd.run_le h.toOk0, Nat.le_trans lvs.length_le (Bd.run_le h.toOk0), fun x hx => ?_⟩
          rw [a.ran]
          exact h.sub x (lo x hx)
      ndf := by
        rw [fl]
        exact List.nodup_append.mpr ⟨h.ndf, (Bd.run_nd h.toOk0).sublist lvs, fun x hx y hy z => h.gone x hx (by rw [z]; exact lo y hy)⟩
      gone := fun x hx m => by
        rw [fl] at hx
        obtain ⟨m1, m2⟩ := (a.mem x).mp m
        rcases List.mem_append.mp hx with hx | hx
        · exact h.gone x hx m1
        · exact m2 hx }
theorem Bd.enter_order {r : Rl} {s : Bd} (h : s.Ok0) (x : Str) (e : Nat) : (s.enter r x e).order.Perm (x :: s.order) := by
  have l1 := h.lines1
  have lt : min e (s.lines.length - 1) < s.lines.length := by omega
  have hh := List.getElem?_eq_getElem lt
  show ((s.lines.set _ _).flatten).Perm (x :: s.lines.flatten)
  refine flat_add hh ?_
  rw [getD_at hh]
  split
  · exact List.Perm.refl _
  · exact List.perm_append_singleton _ _
theorem Bd.Ok.enter {r : Rl} {s : Bd} (h : s.Ok) {x : Str} {e : Nat} (nx : x ∉ s.ran.map (·.1)) (small : s.ran.length < 1000) : (s.enter r x e).Ok := by
  have p := Bd.enter_order (r := r) h.toOk0 x e
  have no : x ∉ s.order := fun m => nx (h.sub x m)
  have nu : x ∉ s.used.map (·.1) := fun m => no ((h.here x).mp m)
  have ll : (s.enter r x e).lines.length = s.lines.length := List.length_set
  have kr : (s.enter r x e).ran.map (·.1) = s.ran.map (·.1) ++ [x] := by
    show (s.ran ++ [(x, (0 : Int))]).map (·.1) = _
    rw [List.map_append]
    rfl
  have ku : (s.enter r x e).used.map (·.1) = s.used.map (·.1) ++ [x] := by
    show (s.used ++ [(x, (0 : Int))]).map (·.1) = _
    rw [List.map_append]
    rfl
  have nda : ∀ {l : List Str}, l.Nodup → x ∉ l → (l ++ [x]).Nodup := fun {l} n m => List.nodup_append.mpr ⟨n, by simp, fun a ha b hb z => m (by rw [List.mem_singleton.mp hb] at z; rw [← z]; exact ha)⟩
  exact {
    small := by
      show (s.ran ++ [(x, (0 : Int))]).length ≤ 1000
      rw [List.length_append]
      show s.ran.length + 1 ≤ 1000
      omega
    ndr := by rw [kr]; exact nda h.ndr nx
    ndu := by rw [ku]; exact nda h.ndu nu
    ndo := p.nodup_iff.mpr (List.nodup_cons.mpr ⟨no, h.ndo⟩)
    sub := fun y hy => by
      rw [kr, List.mem_append]
      rcases List.mem_cons.mp (p.mem_iff.mp hy) with e | m
      · exact .inr (by rw [e]; simp)
      · exact .inl (h.sub y m)
    here := fun y => by
      rw [ku, List.mem_append, h.here y, p.mem_iff, List.mem_singleton, List.mem_cons]
      exact Or.comm
    lines1 := by rw [ll]; exact h.lines1
    lines6 := by rw [ll]; exact h.lines6
    flen := h.flen
    fst := fun f hf => by
      obtain ⟨x1, x2, x3⟩ := h.fst f hf
      exact ⟨x1, x2, fun y hy => by rw [kr]; exact List.mem_append_left _ (x3 y hy)⟩
    ndf := h.ndf
    gone := fun y hy m => by
      rcases List.mem_cons.mp (p.mem_iff.mp m) with z | m
      · obtain ⟨f, hf, hy⟩ := List.mem_flatMap.mp hy
        exact nx (by rw [← z]; exact (h.fst f hf).2.2 y hy)
      · exact h.gone y hy m }
theorem Bd.Ok.new {r : Rl} (l1 : 1 ≤ r.levels.length) (l6 : r.levels.length ≤ 6) : (⟨0, List.replicate r.levels.length [], [], [], []⟩ : Bd).Ok := by
  have eo : (⟨0, List.replicate r.levels.length [], [], [], []⟩ : Bd).order = [] := by
    show (List.replicate r.levels.length ([] : List Str)).flatten = []
    simp
  exact {
    small := Nat.zero_le _
    ndr := List.nodup_nil
    ndu := List.nodup_nil
    ndo := by rw [eo]; exact List.nodup_nil
    sub := fun y hy => by rw [eo] at hy; cases hy
    here := fun y => by rw [eo]; exact ⟨fun h => (nomatch h), fun h => (nomatch h)⟩
    lines1 := by rw [List.length_replicate]; exact l1
    lines6 := by rw [List.length_replicate]; exact l6
    flen := Nat.zero_le _
    fst := fun f hf => (nomatch hf)
    ndf := List.nodup_nil
    gone := fun y hy => (nomatch hy) }
end Vk
set_option maxHeartbeats 4000000
namespace Vk
open PySem PySem.Spec PyProof.Rows L2
section
variable {P : Program} {w : World} {K : PySem.W.Frag} {mg : Str → Option Value} {base : Heap}
/-! ### _law_mix -/
def spMix : Sp := fun vs H Q _ => ∃ (n t : Int), vs = [.int n, .int t] ∧ 0 ≤ t ∧ t ≤ 10000000 ∧ ∀ r : Int, 0 ≤ r → r < 2147483648 → Q (.int r) H
theorem scMix : FnScope ["number", "turn", "value"] ["number", "turn"] (defScope sMix) := ⟨rfl, rfl, rfl, by decide +kernel, rfl, by decide +kernel, by decide +kernel⟩
theorem ok_mix (D : Df K mg "_law_mix" sMix ["number", "turn"]) : Cl P w K mg base CX0 1 "_law_mix" ["number", "turn"] spMix := by
  refine cl0 D scMix (fun vs H Q E h => ?_) (fun f cdv A outer s H vs Q E hr h => ?_)
  · obtain ⟨n, t, rfl, _⟩ := h
    rfl
  · obtain ⟨n, t, rfl, h0, h1, k⟩ := h
    refine ⟨_, pss_cons (ps_set (i := 2) scMix.nd rfl (Or.inl rfl) (pe_op op_mod (pe_op op_add (pe_op op_add (pe_op op_add (pe_op op_mod (pv 0) pe_int) (pe_op op_mul (pe_op op_mul pe_int (pv 1)) (pv 1))) (pe_op op_mul pe_int (pv 1))) pe_int) pe_int))
      (pss_cons (ps_set (i := 2) scMix.nd rfl (Or.inl rfl) (pe_op op_mod (pe_op op_mul (pe_op op_mod (pe_op op_mul (pv 2) (pv 2)) pe_int) (pv 2)) pe_int))
      (pss_one (ps_ret (pe_op op_fdiv (pe_op op_mod (pe_op op_add (pe_op op_mul (pv 2) pe_int) (pv 1)) pe_int) pe_int)))), ?_⟩
    refine ⟨_, rfl, _, _, rfl, rfl, (by show (0 : Int) < 2147483629; decide), _, rfl, _, _, rfl, rfl, .inl (by decide), _, rfl, _, _, rfl, rfl, .inr ⟨by omega, by omega⟩, _, _, rfl, rfl, _, rfl, _, _, rfl, rfl, .inl (by decide), _, _, rfl, rfl, _, _, rfl, rfl, _, _, rfl, rfl, (by show (0 : Int) < 2147483629; decide), ?_⟩
    generalize hv : (n % 2147483629 + 7919 * t * t + 104729 * t + 13) % 2147483629 = v
    have v0 : 0 ≤ v := by rw [← hv]; exact Int.emod_nonneg _ (by decide)
    have v1 : v < 2147483629 := by rw [← hv]; exact Int.emod_lt_of_pos _ (by decide)
    refine ⟨_, rfl, _, rfl, _, _, rfl, rfl, .inl ⟨by omega, by omega⟩, _, _, rfl, rfl, (by show (0 : Int) < 2147483587; decide), _, rfl, _, _, rfl, rfl, .inr ⟨by omega, by omega⟩, _, _, rfl, rfl, (by show (0 : Int) < 2147483563; decide), ?_⟩
    generalize hu : v * v % 2147483587 * v % 2147483563 = u
    have u0 : 0 ≤ u := by rw [← hu]; exact Int.emod_nonneg _ (by decide)
    have u1 : u < 2147483563 := by rw [← hu]; exact Int.emod_lt_of_pos _ (by decide)
    refine ⟨_, rfl, _, _, rfl, rfl, .inl ⟨by omega, by omega⟩, _, rfl, _, _, rfl, rfl, _, _, rfl, rfl, (by show (0 : Int) < 2147483399; decide), _, _, rfl, rfl, ⟨by decide, by decide⟩, ?_⟩
    exact k _ (by omega) (by omega)
/-! ### _law_store -/
def spStore (K : PySem.W.Frag) : Sp := fun vs H Q _ => ∃ (a : Addr) (ns : List Int), vs = [.ref a] ∧ SqL K H a (ns.map V.int) ∧ ns.length ≤ 63 ∧ ∀ (p sc : Addr) (H' : Hp), Same H H' → H p = none → Sto sc p 0 H' → Q (.ref p) H'
theorem scStore : FnScope ["script", "mixed", "cell"] ["script"] (defScope sStore) := ⟨rfl, rfl, rfl, by decide +kernel, rfl, by decide +kernel, by decide +kernel⟩
theorem map_int_get {ns : List Int} {i : Nat} {y : V} (h : (ns.map V.int)[i]? = some y) : ∃ z, ns[i]? = some z ∧ y = V.int z := by
  rw [List.getElem?_map] at h
  cases e : ns[i]? with
  | none => rw [e] at h; cases h
  | some z => rw [e] at h; exact ⟨z, rfl, (Option.some.inj h).symm⟩
theorem cut63 {ns : List Int} (h : ns.length ≤ 63) : cutV (ns.map V.int) none (some 63) = ns.map V.int := by
  have e1 : HT.sIx (ns.map V.int).length 0 none = 0 := rfl
  have e2 : HT.sIx (ns.map V.int).length (ns.map V.int).length (some 63) = min 63 (ns.map V.int).length := HT.sIx_nat _ _ 63
  unfold cutV
  rw [e1, e2, List.drop_zero]
  exact List.take_of_length_le (by rw [List.length_map]; omega)
theorem ok_store (D : Df K mg "_law_store" sStore ["script"]) (len : mg "len" = none) : Cl P w K mg base CX0 1 "_law_store" ["script"] (spStore K) := by
  refine cl0 D scStore (fun vs H Q E h => ?_) (fun f cdv A outer s H vs Q E hr h => ?_)
  · obtain ⟨a, ns, rfl, _⟩ := h
    rfl
  · obtain ⟨a, ns, rfl, hS, hl, k⟩ := h
    refine ⟨_, pss_cons (ps_set (i := 1) scStore.nd rfl (Or.inl rfl) (pe_callB call_len_seq (by rfl) len PySem.boot_len (pa_cons (pv 0) pa_nil)))
      (pss_cons (ps_for PassesOwn.never rfl (pi_list (pe_slice sl_list (pv 0) po_none (po_some pe_int))) (pg_name (i := 2) scStore.nd rfl (Or.inl rfl))
        (pss_one (ps_set (i := 1) scStore.nd rfl (Or.inl rfl) (pe_op op_mod (pe_op op_add (pe_op op_add (pe_op op_mul (pv 1) pe_int) (pe_op op_mod (pv 2) pe_int)) pe_int) pe_int))))
      (pss_one (ps_ret (pe_lst (pa_cons (pe_slice sl_list (pv 0) po_none (po_some pe_int)) (pa_cons pe_int (pa_cons pe_int (pa_cons (pv 1) (pa_cons pe_int pa_nil))))))))), ?_⟩
    refine ⟨_, rfl, a, _, rfl, .inl hS, ?_⟩
    refine ⟨_, rfl, _, rfl, a, _, rfl, hS, fun p hp => ⟨p, rfl, ⟨_, SqL.of upd_same⟩, ?_⟩⟩
    rw [cut63 hl]
    refine for_list (K := K) (a := p) (xs := ns.map V.int) (fun i σ H' => ∃ (m : Int) (v : Option V), σ = [some (.ref a), some (.int m), v] ∧ 0 ≤ m ∧ m < 2147483648 ∧ H' = upd H p (.lst (ns.map V.int)))
      ⟨_, none, rfl, Int.natCast_nonneg _, by rw [List.length_map]; omega, rfl⟩ (fun i σ H' _ ⟨m, v, _, _, _, e⟩ => by rw [e]; exact SqL.of upd_same) ?_ ?_
    · rintro i y σ H' hi ⟨m, v, rfl, m0, m1, rfl⟩
      obtain ⟨z, _, rfl⟩ := map_int_get hi
      refine ⟨_, rfl, _, _, rfl, rfl, .inl ⟨by omega, by omega⟩, _, rfl, _, _, rfl, rfl, (by show (0 : Int) < 1000000007; decide), _, _, rfl, rfl, _, _, rfl, rfl, _, _, rfl, rfl, (by show (0 : Int) < 2147483629; decide), ?_⟩
      refine ⟨_, _, rfl, Int.emod_nonneg _ (by decide), ?_, rfl⟩
      have q := Int.emod_lt_of_pos (m * 16807 + z % 1000000007 + 11) (show (0 : Int) < 2147483629 by decide)
      omega
    · rintro σ H' ⟨m, v, rfl, m0, m1, rfl⟩
      have s1 : Same H (upd H p (.lst (ns.map V.int))) := same_new hp
      refine ⟨_, rfl, _, rfl, a, _, rfl, s1.seq hS, fun q hq => ?_⟩
      rw [cut63 hl]
      have s2 : Same H (upd (upd H p (.lst (ns.map V.int))) q (.lst (ns.map V.int))) := s1.trans (same_new hq)
      refine ⟨_, rfl, (by show 5 ≤ sizeLine; decide), fun r hr' => ?_⟩
      have nq : q ≠ r := ne_of_none upd_same hr'
      refine k r q _ (s2.trans (same_new hr')) ((s2.trans (Same.refl _)).free hr') ?_
      exact Sto.put nq upd_same hl (by decide) (by decide) (by decide) (by decide)
end
end Vk
set_option maxHeartbeats 4000000
namespace Vk
open PySem PySem.Spec PyProof.Rows L2
section
variable {P : Program} {w : World} {K : PySem.W.Frag} {mg : Str → Option Value} {base : Heap}
def spPick : Sp := fun vs H Q _ => ∃ (a sc : Addr) (m n : Int), vs = [.ref a, .int m] ∧ 0 < m ∧ m < 1000000000 ∧ Sto sc a n H ∧ n ≤ 1000000 ∧
  ∀ (r : Int) (H' : Hp), 0 ≤ r → r < m → Sto sc a (n + 1) H' → Kept a H H' → Q (.int r) H'
theorem scPick : FnScope ["store", "count", "cell", "digit"] ["store", "count"] (defScope sPick) := ⟨rfl, rfl, rfl, by decide +kernel, rfl, by decide +kernel, by decide +kernel⟩
theorem ok_pick (D : Df K mg "_law_pick" sPick ["store", "count"]) (M : Cl P w K mg base CX0 1 "_law_mix" ["number", "turn"] spMix) (len : mg "len" = none) : Cl P w K mg base CX0 2 "_law_pick" ["store", "count"] spPick := by
  refine cl0 D scPick (fun vs H Q E h => ?_) (fun f cdv A outer s H vs Q E hr h => ?_)
  · obtain ⟨a, sc, m, n, rfl, _⟩ := h
    rfl
  · obtain ⟨a, sc, m, n, rfl, m0, m1, S, n1, k⟩ := h
    refine ⟨_, pss_cons (ps_asg (pe_op op_add (pe_ix ix_list (pv 0) pe_int (fun _ _ => rfl)) pe_int) (pg_sub (pv 0) pe_int set_list))
      (pss_cons (ps_if (PW.pt (pw_and (pt_cmpR op_eq (pe_ix ix_list (pv 0) pe_int (fun _ _ => rfl)) pe_int (nomark _)) (pw_and1 (pt_cmpR op_lt (pe_ix ix_list (pv 0) pe_int (fun _ _ => rfl)) (pe_callB call_len_seq (by rfl) len PySem.boot_len (pa_cons (pe_ix ix_list (pv 0) pe_int (fun _ _ => rfl)) pa_nil)) (nomark _)))))
        (pss_cons (ps_set (i := 2) scPick.nd rfl (Or.inl rfl) (pe_ix ix_list (pe_ix ix_list (pv 0) pe_int (fun _ _ => rfl)) (pe_ix ix_list (pv 0) pe_int (fun _ _ => rfl)) (fun _ _ => rfl)))
        (pss_cons (ps_asg (pe_op op_add (pe_ix ix_list (pv 0) pe_int (fun _ _ => rfl)) pe_int) (pg_sub (pv 0) pe_int set_list))
        (pss_cons (ps_if (pt_cmpR op_lt (pv 2) (pe_op op_pow pe_int pe_int) (nomark _))
          (pss_one (ps_ret (pe_op op_mod (pc M hr (by decide) (pa_cons (pv 2) (pa_cons (pe_ix ix_list (pv 0) pe_int (fun _ _ => rfl)) pa_nil))) (pv 1)))) pss_nil)
        (pss_one (ps_asg (pv 2) (pg_sub (pv 0) pe_int set_list)))))) pss_nil)
      (pss_cons (ps_if (pt_cmpR op_gt (pe_ix ix_list (pv 0) pe_int (fun _ _ => rfl)) pe_int (nomark _))
        (pss_cons (ps_set (i := 3) scPick.nd rfl (Or.inl rfl) (pe_op op_mod (pe_ix ix_list (pv 0) pe_int (fun _ _ => rfl)) (pv 1)))
        (pss_cons (ps_asg (pe_op op_fdiv (pe_ix ix_list (pv 0) pe_int (fun _ _ => rfl)) (pv 1)) (pg_sub (pv 0) pe_int set_list))
        (pss_one (ps_ret (pv 3))))) pss_nil)
      (pss_one (ps_ret (pe_op op_mod (pc M hr (by decide) (pa_cons (pe_ix ix_list (pv 0) pe_int (fun _ _ => rfl)) (pa_cons (pe_ix ix_list (pv 0) pe_int (fun _ _ => rfl)) pa_nil))) (pv 1)))))), ?_⟩
    obtain ⟨cs, i, dg, mx, c, hH, ns, hq, hl, i0, d0, c0, cn⟩ := S.ex
    have fill : ∀ (G : Hp) (i' dg' c' : Int), Off a G = Off a H → 0 ≤ i' → 0 ≤ dg' → 0 ≤ c' → c' ≤ n + 1 → G a = some (.lst [.ref sc, .int i', .int dg', .int mx, .int c']) → Sto sc a (n + 1) G ∧ Kept a H G := fun G i' dg' c' e h1 h2 h3 h4 h5 =>
      ⟨⟨cs, i', dg', mx, c', h5, ns, (off_sub a G).at (by rw [e, off_ne ns]; exact hq), hl, h1, h2, h3, h4⟩, by unfold Kept; rw [e]; exact Same.refl _⟩
    -- store[4] = store[4] + 1
    refine ⟨_, rfl, a, _, _, _, rfl, rfl, SqL.of hH, rfl, _, _, rfl, rfl, _, rfl, a, _, _, _, rfl, rfl, hH, rfl, ?_⟩
    -- the mix at the end
    have fin : ∀ (G : Hp) (i' dg' x r : Int), Off a G = Off a H → 0 ≤ i' → 0 ≤ dg' → G a = some (.lst [.ref sc, .int i', .int dg', .int mx, .int (c + 1)]) → Q (.int (r % m)) G := fun G i' dg' x r e h1 h2 h3 => by
      obtain ⟨s1, s2⟩ := fill G i' dg' (c + 1) e h1 h2 (by omega) (by omega) h3
      exact k _ G (Int.emod_nonneg _ (by omega)) (Int.emod_lt_of_pos _ m0) s1 s2
    have fin2 : ∀ (G : Hp) (i' dg' r : Int), Off a G = Off a H → 0 ≤ i' → 0 ≤ dg' → 0 ≤ r → r < m → G a = some (.lst [.ref sc, .int i', .int dg', .int mx, .int (c + 1)]) → Q (.int r) G := fun G i' dg' r e h1 h2 q1 q2 h3 => by
      obtain ⟨s1, s2⟩ := fill G i' dg' (c + 1) e h1 h2 (by omega) (by omega) h3
      exact k _ G q1 q2 s1 s2
    have hqG : ∀ G : Hp, Off a G = Off a H → SqL K G sc (cs.map V.int) := fun G e => SqL.of ((off_sub a G).at (by rw [e, off_ne ns]; exact hq))
    have oG : ∀ o, Off a (upd H a o) = Off a H := fun o => off_upd
    have oG2 : ∀ o u, Off a (upd (upd H a o) a u) = Off a H := fun o u => by rw [off_upd, off_upd]
    have oG3 : ∀ o u v, Off a (upd (upd (upd H a o) a u) a v) = Off a H := fun o u v => by rw [off_upd, off_upd, off_upd]
    refine ⟨_, rfl, a, _, _, _, rfl, rfl, SqL.of upd_same, rfl, rfl, _, rfl, ?_⟩
    refine ite2 (fun hd => ?_) (fun hd => ?_)
    · have hd0 : dg = 0 := by
        have z := of_decide_eq_true hd
        exact V.int.inj z
      subst hd0
      refine ⟨_, rfl, a, _, _, _, rfl, rfl, SqL.of upd_same, rfl, _, rfl, a, _, _, _, rfl, rfl, SqL.of upd_same, rfl, sc, _, rfl, .inl (hqG _ (oG _)), _, _, rfl, rfl, _, rfl, ?_⟩
      refine ite2 (fun hi => ?_) (fun hi => ?_)
      · have hi0 : i < (cs.map V.int).length := of_decide_eq_true hi
        have hj : i.toNat < cs.length := by rw [List.length_map] at hi0; omega
        have hc : (cs.map V.int)[i.toNat]? = some (V.int cs[i.toNat]) := by rw [List.getElem?_map, List.getElem?_eq_getElem hj]; rfl
        have ha : atI (cs.map V.int) i = some (V.int cs[i.toNat]) := by
          have z := atI_nat hc
          rw [Int.toNat_of_nonneg i0] at z
          exact z
        -- cell = store[0][store[1]]; store[1] = store[1] + 1
        refine ⟨_, rfl, a, _, _, _, rfl, rfl, SqL.of upd_same, rfl, _, rfl, a, _, _, _, rfl, rfl, SqL.of upd_same, rfl, sc, _, _, _, rfl, rfl, hqG _ (oG _), ha, ?_⟩
        refine ⟨_, rfl, a, _, _, _, rfl, rfl, SqL.of upd_same, rfl, _, _, rfl, rfl, _, rfl, a, _, _, _, rfl, rfl, upd_same, rfl, ?_⟩
        -- if cell < 10 ** 18
        refine ⟨_, rfl, _, _, rfl, rfl, ⟨by decide, by decide, by decide⟩, _, _, rfl, rfl, _, rfl, ?_⟩
        refine ite2 (fun hx => ?_) (fun hx => ?_)
        · refine ⟨_, rfl, _, rfl, a, _, _, _, rfl, rfl, SqL.of upd_same, rfl, _, _, rfl, by omega, by omega, fun r r0 r1 => ?_⟩
          exact ⟨_, rfl, _, _, rfl, rfl, m0, fin _ (i + 1) 0 0 r (oG2 _ _) (by omega) (by decide) upd_same⟩
        · have hx0 : ¬ cs[i.toNat] < 10 ^ 18 := fun z => hx (decide_eq_true z)
          -- store[2] = cell
          refine ⟨_, rfl, _, rfl, a, _, _, _, rfl, rfl, upd_same, rfl, ?_⟩
          refine ⟨_, rfl, a, _, _, _, rfl, rfl, SqL.of upd_same, rfl, _, _, rfl, rfl, _, rfl, ?_⟩
          refine ite2 (fun _ => ?_) (fun z => absurd (decide_eq_true (show (0 : Int) < cs[i.toNat] by omega)) z)
          refine ⟨_, rfl, a, _, _, _, rfl, rfl, SqL.of upd_same, rfl, _, rfl, _, _, rfl, rfl, m0, ?_⟩
          refine ⟨_, rfl, a, _, _, _, rfl, rfl, SqL.of upd_same, rfl, _, rfl, _, _, rfl, rfl, ⟨m0, by omega⟩, _, rfl, a, _, _, _, rfl, rfl, upd_same, rfl, ?_⟩
          refine ⟨_, rfl, ?_⟩
          exact fin2 _ (i + 1) (cs[i.toNat] / m) _ (by rw [off_upd, off_upd, off_upd, off_upd]) (by omega) (Int.ediv_nonneg (by omega) (by omega)) (Int.emod_nonneg _ (by omega)) (Int.emod_lt_of_pos _ m0) upd_same
      · refine ⟨_, rfl, a, _, _, _, rfl, rfl, SqL.of upd_same, rfl, _, _, rfl, rfl, _, rfl, ?_⟩
        refine ite2 (fun z => absurd (of_decide_eq_true z) (by decide)) (fun _ => ?_)
        refine ⟨_, rfl, a, _, _, _, rfl, rfl, SqL.of upd_same, rfl, _, rfl, a, _, _, _, rfl, rfl, SqL.of upd_same, rfl, _, _, rfl, by omega, by omega, fun r r0 r1 => ?_⟩
        exact ⟨_, rfl, _, _, rfl, rfl, m0, fin _ i 0 0 r (oG _) i0 (by decide) upd_same⟩
    · have hd0 : ¬ dg = 0 := fun z => hd (decide_eq_true (by rw [z]))
      refine iteF ?_
      refine ⟨_, rfl, a, _, _, _, rfl, rfl, SqL.of upd_same, rfl, _, _, rfl, rfl, _, rfl, ?_⟩
      refine ite2 (fun _ => ?_) (fun z => absurd (decide_eq_true (show (0 : Int) < dg by omega)) z)
      refine ⟨_, rfl, a, _, _, _, rfl, rfl, SqL.of upd_same, rfl, _, rfl, _, _, rfl, rfl, m0, ?_⟩
      refine ⟨_, rfl, a, _, _, _, rfl, rfl, SqL.of upd_same, rfl, _, rfl, _, _, rfl, rfl, ⟨m0, by omega⟩, _, rfl, a, _, _, _, rfl, rfl, upd_same, rfl, ?_⟩
      refine ⟨_, rfl, ?_⟩
      exact fin2 _ i (dg / m) _ (by rw [off_upd, off_upd]) i0 (Int.ediv_nonneg (by omega) (by omega)) (Int.emod_nonneg _ (by omega)) (Int.emod_lt_of_pos _ m0) upd_same
end
end Vk
set_option maxHeartbeats 4000000
namespace Vk
open PySem PySem.Spec PyProof.Rows L2 GxR
def abc : Str := "abcdefghijklmnopqrstuvwxyz"
theorem between_az (c : Nat) : between "a" "z" c = decide (97 ≤ c ∧ c ≤ 122) := by
  have e1 : (("a" : Str)).cps.toList = [97] := by decide +kernel
  have e2 : (("z" : Str)).cps.toList = [122] := by decide +kernel
  unfold between
  rw [e1, e2]
  by_cases h1 : c < 97
  · rw [decide_eq_true (lt_one.mpr h1), decide_eq_false (show ¬ (97 ≤ c ∧ c ≤ 122) by omega)]
    rfl
  · by_cases h2 : 122 < c
    · rw [decide_eq_true (lt_one.mpr h2), decide_eq_false (show ¬ (97 ≤ c ∧ c ≤ 122) by omega), Bool.not_true, Bool.and_false]
    · rw [decide_eq_false (fun h => h1 (lt_one.mp h)), decide_eq_false (fun h => h2 (lt_one.mp h)), decide_eq_true (show 97 ≤ c ∧ c ≤ 122 by omega)]
      rfl
theorem abc_list : abc.cps.toList = List.range' 97 26 := by decide +kernel
theorem atI_abc {r : Int} (h0 : 0 ≤ r) (h1 : r < 26) : atI abc.cps.toList r = some (97 + r.toNat) := by
  have e : ((r.toNat : Nat) : Int) = r := Int.toNat_of_nonneg h0
  rw [← e]
  refine atI_nat ?_
  rw [abc_list, List.getElem?_range' (by omega)]
  congr 1
  omega
theorem az_of {n : Nat} (h : n < 26) : between "a" "z" (97 + n) = true := by
  rw [between_az]
  exact decide_eq_true (by omega)
theorem nameD_iff {s : Str} : nameD (.str s) = true ↔ 1 ≤ s.cps.toList.length ∧ s.cps.toList.length ≤ 8 ∧ ∀ c ∈ s.cps.toList, between "a" "z" c = true := by
  show (decide (1 ≤ s.length) && (decide (s.length ≤ 8) && s.cps.toList.all (between "a" "z"))) = true ↔ _
  rw [Bool.and_eq_true_iff, Bool.and_eq_true_iff, decide_eq_true_iff, decide_eq_true_iff, List.all_eq_true, Array.length_toList]
  exact Iff.rfl
theorem joinL_one : ∀ cs : List Nat, TL.joinL [] (cs.map fun c => [c]) = cs
  | [] => rfl
  | [c] => rfl
  | c :: d :: r => by
    show [c] ++ ([] ++ TL.joinL [] ((d :: r).map fun c => [c])) = _
    rw [joinL_one (d :: r)]
    rfl
theorem join_sgn (cs : List Nat) : (Txt.join "" (cs.map sgn)).cps.toList = cs := by
  show TL.tl (Txt.join "" (cs.map sgn)) = cs
  rw [TL.join_eq, TL.tl_join, List.map_map]
  exact joinL_one cs
theorem lens_sgn (cs : List Nat) : ((cs.map sgn).map (·.length)).sum + (cs.map sgn).length * ("" : Str).length = cs.length := by
  rw [show (("" : Str)).length = 0 from by decide +kernel, Nat.mul_zero, Nat.add_zero, List.map_map]
  induction cs with
  | nil => rfl
  | cons c r ih =>
    rw [List.map_cons, List.sum_cons, ih, List.length_cons]
    show 1 + r.length = _
    omega
/-- the word of a late turn -/
def wordT (t : Nat) : Str := (sgn (97 + t % 26) ++ "q") ++ sgn (97 + t / 26 % 26)
theorem sub_len {α : Type} [DecidableEq α] : ∀ {l m : List α}, l.Nodup → (∀ x ∈ l, x ∈ m) → l.length ≤ m.length
  | [], _, _, _ => Nat.zero_le _
  | x :: l, m, h, s => by
    obtain ⟨h1, h2⟩ := List.nodup_cons.mp h
    have hx := s x (by simp)
    have z := sub_len (l := l) (m := m.erase x) h2 fun y hy => (List.mem_erase_of_ne (fun e : y = x => h1 (by rw [← e]; exact hy))).mpr (s y (by simp [hy]))
    have lx := List.length_erase_of_mem hx
    have pos := List.length_pos_of_mem hx
    rw [List.length_cons]
    omega
theorem words_nodup : (((List.range' 41 13).map wordT).map fun s => s.cps.toList).Nodup := by decide +kernel
theorem late {t : Nat} {ws : List Str} (h : ∀ s, 41 ≤ s → s ≤ t → wordT s ∈ ws) (l : ws.length < 12) : t ≤ 52 := by
  refine Nat.le_of_not_lt fun h53 => ?_
  have z := sub_len (l := ((List.range' 41 13).map wordT).map fun s => s.cps.toList) (m := ws.map fun s => s.cps.toList) words_nodup fun x hx => by
    obtain ⟨y, hy, rfl⟩ := List.mem_map.mp hx
    obtain ⟨s, hs, rfl⟩ := List.mem_map.mp hy
    obtain ⟨h1, h2⟩ := List.mem_range'_1.mp hs
    exact List.mem_map.mpr ⟨_, h s (by omega) (by omega), rfl⟩
  rw [List.length_map, List.length_map, List.length_map, List.length_range'] at z
  omega
theorem nameD_word (t : Nat) : nameD (.str (wordT t)) = true := by
  rw [nameD_iff]
  have e : (wordT t).cps.toList = [97 + t % 26, 113, 97 + t / 26 % 26] := by
    unfold wordT
    rw [cps_app, cps_app]
    rfl
  rw [e]
  refine ⟨Nat.succ_le_succ (Nat.zero_le _), (show 3 ≤ 8 by decide), fun c hc => ?_⟩
  simp only [List.mem_cons, List.not_mem_nil, or_false] at hc
  rcases hc with rfl | rfl | rfl
  · exact az_of (Nat.mod_lt _ (by decide))
  · exact az_of (n := 16) (by decide)
  · exact az_of (Nat.mod_lt _ (by decide))
def NW (sc a l : Addr) (n m : Int) (H : Hp) (M : Nat) (σ : L2.St) (G : Hp) : Prop := ∃ (t : Nat) (ws : List Str) (u5 u6 u7 : Option V), M + t = 60 ∧ σ = [some (.ref a), some (.int m), some (.str abc), some (.ref l), some (.int (t : Nat)), u5, u6, u7, none] ∧
  Sto sc a (n + 13 * t) G ∧ Same (Off l (Off a H)) (Off l (Off a G)) ∧ G l = some (.lst (ws.map V.str)) ∧ (∀ s ∈ ws, nameD (.str s) = true) ∧ (ws.length : Int) ≤ m ∧ (∀ s, 41 ≤ s → s ≤ t → wordT s ∈ ws) ∧ ws.Nodup
section
variable {P : Program} {w : World} {K : PySem.W.Frag} {mg : Str → Option Value} {base : Heap}
def spNames : Sp := fun vs H Q _ => ∃ (a sc : Addr) (n m : Int), vs = [.ref a, .int m] ∧ Sto sc a n H ∧ n ≤ 900000 ∧ 0 ≤ m ∧ m ≤ 12 ∧
  ∀ (l : Addr) (ws : List Str) (H' : Hp), H l = none → l ≠ a → Sto sc a (n + 800) H' → Kept a H H' → H' l = some (.lst (ws.map V.str)) → (ws.length : Int) = m → (∀ s ∈ ws, nameD (.str s) = true) → ws.Nodup → Q (.ref l) H'
theorem scNames : FnScope ["store", "count", "letters", "names", "turn", "word", "old", "at", "k"] ["store", "count"] (defScope sNames) := ⟨rfl, rfl, rfl, by decide +kernel, rfl, by decide +kernel, by decide +kernel⟩
theorem ok_names (D : Df K mg "_law_names" sNames ["store", "count"]) (B : Blt mg) (PK : Cl P w K mg base CX0 2 "_law_pick" ["store", "count"] spPick) : Cl P w K mg base CX0 3 "_law_names" ["store", "count"] spNames := by
  refine cl0 D scNames (fun vs H Q E h => ?_) (fun f cdv A outer s H vs Q E hr h => ?_)
  · obtain ⟨a, sc, n, m, rfl, _⟩ := h
    rfl
  · obtain ⟨a, sc, n, m, rfl, S, n1, m0, m12, k⟩ := h
    refine ⟨_, pss_cons (ps_set (i := 2) scNames.nd rfl (Or.inr rfl) pe_str)
      (pss_cons (ps_set (i := 3) scNames.nd rfl (Or.inl rfl) (pe_lst pa_nil))
      (pss_cons (ps_set (i := 4) scNames.nd rfl (Or.inl rfl) pe_int)
      (pss_cons (ps_while PassesOwn.never (pt_cmpR op_lt (pe_callB call_len_seq (by rfl) B.len PySem.boot_len (pa_cons (pv 3) pa_nil)) (pv 1) (nomark _))
        (pss_cons (ps_set (i := 4) scNames.nd rfl (Or.inl rfl) (pe_op op_add (pv 4) pe_int))
        (pss_cons (ps_set (i := 5) scNames.nd rfl (Or.inl rfl) (pe_join pe_str (pe_lc (own := [("k", 8)]) (g := gName 8) (tt := tYes) (te := tOp rIxS (tVar 2) (tCal spPick (tCons (tVar 0) (tCons (tC (.int 26)) tNil)))) (by rfl) scNames.nd (pi_range1 rfl B.range (pa_cons (pe_op op_add pe_int (pc PK hr (by decide) (pa_cons (pv 0) (pa_cons pe_int pa_nil)))) pa_nil))
            (blkOk_by (own := [("k", 8)]) (N := ["store", "count", "letters", "names", "turn", "word", "old", "at", "k"]) (sc := defScope sNames) (by decide +kernel)) (fun _ _ _ _ _ => pg_name (i := 8) scNames.nd rfl (Or.inl rfl)) (fun _ _ _ _ _ => pts_nil) (fun _ _ _ _ _ => pe_ix ix_str (pv 2) (pc PK hr (by decide) (pa_cons (pv 0) (pa_cons pe_int pa_nil))) (fun _ _ => rfl)))))
        (pss_cons (ps_if (PW.pt (pw_and (pt_cmpR (op_neNilL (Nat.lt_of_succ_lt (hu_of hr))) (pv 3) (pe_lst pa_nil) (nomark _)) (pw_and1 (pt_cmpR op_eq (pc PK hr (by decide) (pa_cons (pv 0) (pa_cons pe_int pa_nil))) pe_int (nomark _)))))
          (pss_cons (ps_set (i := 6) scNames.nd rfl (Or.inl rfl) (pe_ix ix_list (pv 3) (pc PK hr (by decide) (pa_cons (pv 0) (pa_cons (pe_callB call_len_seq (by rfl) B.len PySem.boot_len (pa_cons (pv 3) pa_nil)) pa_nil))) (fun _ _ => rfl)))
          (pss_cons (ps_set (i := 7) scNames.nd rfl (Or.inl rfl) (pc PK hr (by decide) (pa_cons (pv 0) (pa_cons (pe_callB call_len (by rfl) B.len PySem.boot_len (pa_cons (pv 6) pa_nil)) pa_nil))))
          (pss_one (ps_set (i := 5) scNames.nd rfl (Or.inl rfl) (pe_op op_add_str (pe_op op_add_str (pe_slice sl_str (pv 6) po_none (po_some (pv 7))) (pe_ix ix_str (pv 2) (pc PK hr (by decide) (pa_cons (pv 0) (pa_cons pe_int pa_nil))) (fun _ _ => rfl))) (pe_slice sl_str (pv 6) (po_some (pe_op op_add (pv 7) pe_int)) po_none)))))) pss_nil)
        (pss_cons (ps_if (pt_cmpR op_gt (pv 4) pe_int (nomark _)) (pss_one (ps_set (i := 5) scNames.nd rfl (Or.inl rfl) (pe_op op_add_str (pe_op op_add_str (pe_ix ix_str (pv 2) (pe_op op_mod (pv 4) pe_int) (fun _ _ => rfl)) pe_str) (pe_ix ix_str (pv 2) (pe_op op_mod (pe_op op_fdiv (pv 4) pe_int) pe_int) (fun _ _ => rfl))))) pss_nil)
        (pss_one (ps_if (pt_cmpR op_notIn_seq (pv 5) (pv 3) (by rfl)) (pss_one (ps_expr (pe_bm PySem.F.plainAttrs_list PySem.F.slot_list_append PySem.F.type_list_append mt_append (pv 3) (pa_cons (pv 5) pa_nil)))) pss_nil)))))))
      (pss_one (ps_ret (pv 3)))))), ?_⟩
    refine ⟨(by show 0 ≤ sizeLine; decide), fun l nl => ?_⟩
    have la : l ≠ a := S.ne nl
    have lsc : l ≠ sc := S.ne2 nl
    refine ⟨NW sc a l n m H, ⟨60, 0, [], none, none, none, rfl, rfl, (S.same (same_new nl)).more (by omega), off_mono (off_mono (same_new nl)), upd_same, (fun s hs => absurd hs (by simp)), m0, (fun s h1 h2 => by omega), List.nodup_nil⟩, ?_⟩
    rintro M σ G ⟨t, ws, u5, u6, u7, hM, rfl, SG, KG, lG, okw, lw, pw, nd⟩
    have lm : (ws.map V.str).length = ws.length := List.length_map ..
    refine ⟨_, rfl, l, _, rfl, .inl (SqL.of lG), _, rfl, _, _, rfl, rfl, _, rfl, ?_⟩
    refine ite2 (fun hlt => ?_) (fun hlt => ?_)
    case refine_2 =>
      have z : ¬ ((ws.map V.str).length : Int) < m := fun z => hlt (decide_eq_true z)
      exact ⟨_, rfl, k l ws G nl la (SG.more (by omega)) (kept_of_off nl KG) lG (by omega) okw nd⟩
    have z : ((ws.map V.str).length : Int) < m := of_decide_eq_true hlt
    rw [lm] at z
    have t52 := late pw (by omega)
    refine ⟨NW sc a l n m H (M - 1), fun σ' G' q => ⟨M - 1, by omega, q⟩, ?_⟩
    refine ⟨_, rfl, _, _, rfl, rfl, ?_⟩
    -- word
    refine ⟨⟨_, rfl⟩, _, rfl, a, sc, 8, _, rfl, by decide, by decide, SG, by omega, fun r G1 r0 r8 S1 K1 => ?_⟩
    refine ⟨_, _, rfl, rfl, 1 + r, rfl, by omega, by omega, fun D0 nD => ?_⟩
    have Da := S1.ne nD
    have Dsc := S1.ne2 nD
    have lG1 := K1.at lG la
    have nDG : G D0 = none := by
      have z := Same.free K1 (off_free nD)
      rw [off_ne Da] at z
      exact z
    have Dl : D0 ≠ l := fun e => by rw [e, lG1] at nD; cases nD
    refine lc_range (n := (1 + r).toNat) (fun i Hc => ∃ cs : List Nat, Sto sc a (n + 13 * t + 1 + i) Hc ∧ Kept a G Hc ∧ Hc D0 = some (.lst ((cs.map sgn).map V.str)) ∧ cs.length = i ∧ ∀ c ∈ cs, between "a" "z" c = true)
      ⟨[], (S1.same (same_new nD)).more (by omega), K1.trans (kept_same (same_new nD)), upd_same, rfl, fun c hc => absurd hc (by simp)⟩ ?_ ?_
    · rintro i Hc hi ⟨cs, Sc, Kc, hD, lc, okc⟩
      refine ⟨rfl, _, rfl, _, rfl, a, sc, 26, _, rfl, by decide, by decide, Sc, by omega, fun x Hd x0 x26 Sd Kd => ?_⟩
      refine ⟨abc, x, _, rfl, rfl, by decide +kernel, atI_abc x0 x26, _, Kd.at hD Da, ?_, cs ++ [97 + x.toNat], ?_, ?_, ?_, by rw [List.length_append, lc]; rfl, ?_⟩
      · rw [List.length_map, List.length_map, lc]
        exact Nat.lt_of_le_of_lt (show i ≤ 9 by omega) (by decide)
      · exact (Sd.other Da Dsc).more (by omega)
      · exact kept_new_put (Kc.trans Kd) nDG Da
      · rw [upd_same, List.map_append, List.map_append]
        rfl
      · intro c hc
        rcases List.mem_append.mp hc with hc | hc
        · exact okc c hc
        · rw [List.mem_singleton.mp hc]
          exact az_of (by omega)
    rintro G2 ⟨cs, S2, K2, hD, lc, okc⟩
    refine ⟨_, D0, cs.map sgn, rfl, rfl, .inl (SqL.of hD), ?_, ?_⟩
    · rw [lens_sgn, lc]
      omega
    have hw0 : nameD (.str (Txt.join "" (cs.map sgn))) = true := by
      rw [nameD_iff, join_sgn]
      exact ⟨by omega, by omega, okc⟩
    have S2' : Sto sc a (n + 13 * t + 9) G2 := S2.more (by omega)
    generalize Txt.join "" (cs.map sgn) = w0 at hw0 ⊢
    have lG2 := K2.at lG la
    apply cutR (α := L2.St → Hp → Prop) (F := fun R => ∀ (wd : Str) (G3 : Hp) (v6 v7 : Option V), nameD (.str wd) = true → Sto sc a (n + 13 * t + 13) G3 → Kept a G G3 → R [some (.ref a), some (.int m), some (.str abc), some (.ref l), some (.int (t + 1)), some (.str wd), v6, v7, none] G3)
    · intro cont
      refine ⟨_, rfl, (by show 0 ≤ sizeLine; decide), fun e1 ne1 => ?_⟩
      have se := same_new (o := .lst []) ne1
      have e1a := S2'.ne ne1
      refine ⟨l, e1, _, rfl, rfl, SqL.of (se.at lG2), SqL.of upd_same, _, rfl, ?_⟩
      have K3 := K2.trans (kept_same se)
      cases he : (ws.map V.str).isEmpty with
      | true => exact iteF (iteF (cont w0 _ _ _ hw0 ((S2'.same se).more (by omega)) K3))
      | false =>
        refine iteT ⟨_, rfl, a, sc, 2, _, rfl, by decide, by decide, S2'.same se, by omega, fun x G3 x0 x2 S3 K23 => ?_⟩
        have K4 := K3.trans K23
        have lG3 := K23.at (se.at lG2) la
        refine ⟨rfl, _, rfl, ?_⟩
        refine ite2 (fun _ => ?_) (fun _ => cont w0 _ _ _ hw0 (S3.more (by omega)) K4)
        have wpos : 0 < ws.length := by
          cases ws with
          | nil => cases he
          | cons x r => exact Nat.succ_pos _
        refine ⟨_, rfl, _, rfl, _, rfl, l, _, rfl, .inl (SqL.of lG3), a, sc, _, _, rfl, by omega, by omega, S3, by omega, fun y G4 y0 y2 S4 K34 => ?_⟩
        have lG4 := K34.at lG3 la
        obtain ⟨ov, hov, mov⟩ := atI_mem (xs := ws.map V.str) y0 (by omega)
        obtain ⟨old, mold, rfl⟩ := List.mem_map.mp mov
        obtain ⟨o1, o8, oaz⟩ := nameD_iff.mp (okw old mold)
        have oe : old.length = old.cps.toList.length := by rw [Array.length_toList]; rfl
        have osm : old.length ≤ sizeLine := Nat.le_trans (show old.length ≤ 8 by omega) (by decide)
        refine ⟨l, _, _, _, rfl, rfl, SqL.of lG4, hov, ?_⟩
        refine ⟨_, rfl, _, rfl, .str old, old.length, rfl, ⟨osm, rfl⟩, a, sc, _, _, rfl, by omega, by omega, S4, by omega, fun x G5 x0 x1 S5 K45 => ?_⟩
        obtain ⟨j, rfl⟩ := Int.eq_ofNat_of_zero_le x0
        refine ⟨_, rfl, ?_⟩
        dsimp only [tNoPart]
        refine ⟨_, rfl, _, rfl, old, rfl, osm, ?_⟩
        refine ⟨_, rfl, _, rfl, a, sc, 26, _, rfl, by decide, by decide, S5, by omega, fun q G6 q0 q26 S6 K56 => ?_⟩
        refine ⟨abc, q, _, rfl, rfl, by decide +kernel, atI_abc q0 q26, _, _, rfl, rfl, ?_, ?_⟩
        · exact Nat.le_trans (Nat.add_le_add_right (Nat.le_trans (cutS_length _ _ _) (show old.length ≤ 8 by omega)) 1) (by decide)
        refine ⟨_, rfl, _, rfl, _, _, rfl, rfl, _, rfl, ?_⟩
        dsimp only [tNoPart]
        have t1 : (cutS old none (some (j : Int))).cps.toList = old.cps.toList.take j := cut_to (by omega)
        have t2 : (cutS old (some ((j + 1 : Nat) : Int)) none).cps.toList = old.cps.toList.drop (j + 1) := cut_from (by omega)
        have tw : ((cutS old none (some (j : Int)) ++ sgn (97 + q.toNat)) ++ cutS old (some ((j + 1 : Nat) : Int)) none).cps.toList = (old.cps.toList.take j ++ [97 + q.toNat]) ++ old.cps.toList.drop (j + 1) := by
          rw [cps_app, cps_app, t1, t2]
          rfl
        refine ⟨old, rfl, osm, _, _, rfl, rfl, ?_, cont _ _ _ _ ?_ (S6.more (by omega)) (((K4.trans K34).trans K45).trans K56)⟩
        · refine Nat.le_trans (Nat.add_le_add (b := 9) (d := 8) (show (cutS old none (some (j : Int)) ++ sgn (97 + q.toNat)).length ≤ 9 from ?_) (Nat.le_trans (cutS_length _ _ _) (show old.length ≤ 8 by omega))) (by decide)
          rw [show ∀ s : Str, s.length = s.cps.toList.length from fun s => by rw [Array.length_toList]; rfl, cps_app, t1, List.length_append, List.length_take]
          show min j _ + 1 ≤ 9
          omega
        · show nameD (.str ((cutS old none (some (j : Int)) ++ sgn (97 + q.toNat)) ++ cutS old (some ((j + 1 : Nat) : Int)) none)) = true
          rw [nameD_iff, tw]
          refine ⟨?_, ?_, fun c hc => ?_⟩
          · simp only [List.length_append, List.length_take, List.length_drop, List.length_cons, List.length_nil]
            omega
          · simp only [List.length_append, List.length_take, List.length_drop, List.length_cons, List.length_nil]
            omega
          · rcases List.mem_append.mp hc with hc | hc
            · rcases List.mem_append.mp hc with hc | hc
              · exact oaz c (List.mem_of_mem_take hc)
              · rw [List.mem_singleton.mp hc]
                exact az_of (by omega)
            · exact oaz c (List.mem_of_mem_drop hc)
    · intro wd G3 v6 v7 hwd S3 K3
      have lG3 := K3.at lG la
      apply cutR (α := L2.St → Hp → Prop) (F := fun R => ∀ (wd : Str), nameD (.str wd) = true → (41 ≤ t + 1 → wd = wordT (t + 1)) → R [some (.ref a), some (.int m), some (.str abc), some (.ref l), some (.int (t + 1)), some (.str wd), v6, v7, none] G3)
      · intro cont
        refine ⟨_, rfl, _, _, rfl, rfl, _, rfl, ?_⟩
        refine ite2 (fun hl => ?_) (fun hl => cont wd hwd (fun h => absurd (decide_eq_true (show (40 : Int) < t + 1 by omega)) hl))
        refine ⟨_, rfl, _, rfl, _, _, rfl, rfl, (by show (0 : Int) < 26; decide), abc, _, _, rfl, rfl, by decide +kernel, atI_abc (by omega) (by omega), _, _, rfl, rfl, ?_, ?_⟩
        · show 1 + 1 ≤ sizeLine
          decide
        refine ⟨_, rfl, _, rfl, _, _, rfl, rfl, ⟨by decide, by omega⟩, _, _, rfl, rfl, (by show (0 : Int) < 26; decide), abc, _, _, rfl, rfl, by decide +kernel, atI_abc (by omega) (by omega), _, _, rfl, rfl, ?_, ?_⟩
        · show 2 + 1 ≤ sizeLine
          decide
        have e1 : (((t : Int) + 1) % 26).toNat = (t + 1) % 26 := by omega
        have e2 : (((t : Int) + 1) / 26 % 26).toNat = (t + 1) / 26 % 26 := by omega
        refine cont _ ?_ (fun _ => ?_)
        · show nameD (.str ((sgn (97 + (((t : Int) + 1) % 26).toNat) ++ "q") ++ sgn (97 + (((t : Int) + 1) / 26 % 26).toNat))) = true
          rw [e1, e2]
          exact nameD_word (t + 1)
        · show (sgn (97 + (((t : Int) + 1) % 26).toNat) ++ "q") ++ sgn (97 + (((t : Int) + 1) / 26 % 26).toNat) = _
          rw [e1, e2]
          rfl
      · intro wd hwd hlate
        have KF := KG.trans (off_mono (a := l) K3)
        refine ⟨_, rfl, _, rfl, l, _, rfl, .inl (SqL.of lG3), rfl, flat_strs _, _, rfl, ?_⟩
        show if (!inV (.str wd) (ws.map V.str)) = true then _ else _
        rw [inV_strs]
        cases hin : ws.any (fun y => y == wd) with
        | false =>
          refine iteT ⟨_, rfl, .inl ⟨rfl, _, SqL.of lG3⟩, _, rfl, l, _, _, rfl, rfl, lG3, ?_, t + 1, ws ++ [wd], _, _, _, by omega, rfl, (S3.other la lsc).more (by omega), ?_, ?_, ?_, ?_, ?_, ?_⟩
          · rw [lm]
            exact Nat.lt_of_le_of_lt (show ws.length ≤ 12 by omega) (by decide)
          · rw [off_other la, off_upd]
            exact KF
          · rw [upd_same, List.map_append]
            rfl
          · intro s hs
            rcases List.mem_append.mp hs with hs | hs
            · exact okw s hs
            · rw [List.mem_singleton.mp hs]
              exact hwd
          · rw [List.length_append, List.length_singleton]
            omega
          · intro s h1 h2
            by_cases e : s = t + 1
            · subst e
              rw [← hlate h1]
              simp
            · exact List.mem_append_left _ (pw s h1 (by omega))
          · rw [List.nodup_append]
            refine ⟨nd, by simp, fun x hx y hy e => ?_⟩
            rw [List.mem_singleton.mp hy] at e
            subst e
            have z : ws.any (fun y => y == x) = true := List.any_eq_true.mpr ⟨x, hx, by simp⟩
            rw [hin] at z
            cases z
        | true =>
          refine iteF ⟨t + 1, ws, _, _, _, by omega, rfl, S3.more (by omega), KF, lG3, okw, lw, (fun s h1 h2 => ?_), nd⟩
          by_cases e : s = t + 1
          · subst e
            rw [← hlate h1]
            obtain ⟨y, hy, e⟩ := List.any_eq_true.mp hin
            rw [← eq_of_beq e]
            exact hy
          · exact pw s h1 (by omega)
end
end Vk
set_option maxHeartbeats 8000000
/-! what a board is asked: its log, its lengths -/
namespace Vk
open PySem PySem.Spec PyProof.Rows L2
theorem dp_threeB {K : PySem.W.Frag} {H : Hp} {v : V} {a b c : PyData} (h : Dp K H v (.tuple [a, b, c])) : ∃ p x y z, v = .ref p ∧ SqT K H p [x, y, z] ∧ Dp K H x a ∧ Dp K H y b ∧ Dp K H z c := by
  obtain ⟨p, xs, rfl, q, r⟩ := dp_tuple h
  obtain _ | ⟨h1, r⟩ := r
  obtain _ | ⟨h2, r⟩ := r
  obtain _ | ⟨h3, r⟩ := r
  cases r
  exact ⟨p, _, _, _, rfl, q, h1, h2, h3⟩
theorem strs_dps {K : PySem.W.Frag} {H : Hp} : ∀ {vs : List V} {l : List Str}, DpAll K H vs (l.map PyData.str) → vs = l.map V.str
  | _, [], h => by
    cases h
    rfl
  | _, x :: r, h => by
    obtain _ | ⟨h1, h2⟩ := h
    rw [strs_dps h2, dp_str h1]
    rfl
def logD (s : Bd) : List PyData := s.fins.map fun f => .tuple [.int f.1, .int (f.2.2.length : Nat)]
def lensS (s : Bd) : List (Str × Int) := (s.fins.flatMap fun f => f.2.2).map fun x => (x, getS s.ran x)
def rLenQ (K : PySem.W.Frag) : List V → Hp → VK → Prop := fun xs H Q => ∃ p ys, xs = [.ref p] ∧ (SqL K H p ys ∨ SqT K H p ys) ∧ Q (.int ys.length) H
section
variable {P : Program} {w : World} {K : PySem.W.Frag} {mg : Str → Option Value} {base : Heap} {CB : Addr}
def spLogB (K : PySem.W.Frag) (CB : Addr) : Sp := fun vs H Q _ => ∃ (b : Addr) (rv : V) (c : Int) (A : BdA) (s : Bd), vs = [.ref b] ∧ BdAt CB K H b rv c A s ∧ s.Ok ∧ ∀ (t : Addr) (H' : Hp), Same H H' → Dp K H' (.ref t) (.tuple (logD s)) → Q (.ref t) H'
theorem scLogB : FnScope ["self", "unit", "_", "leaving"] ["self"] (defScope sBdLog) := ⟨rfl, rfl, rfl, by decide +kernel, rfl, by decide +kernel, by decide +kernel⟩
theorem ok_logB (D : MDf K CB "log" "Board.log" sBdLog ["self"]) (T : BdC K CB) (mt : mg "tuple" = none) (ml : mg "len" = none) : MCl P w K mg base CX0 1 CB "log" ["self"] (spLogB K CB) := by
  refine mcl0 D scLogB (fun vs H Q E h => ?_) (fun f cdv A outer s H vs Q E hr h => ?_)
  · obtain ⟨b, rv, c, A, s, rfl, _⟩ := h
    rfl
  · obtain ⟨b, rv, c, Ab, sb, rfl, B, ok, k⟩ := h
    obtain ⟨xs, fF, dF⟩ := B.fins
    have xl := dps_len dF
    rw [List.length_map] at xl
    refine ⟨_, pss_one (ps_ret (pe_callTy call_tuple_of (by rfl) mt (by decide +kernel) (pa_cons
        (pe_lc (own := [("unit", 1), ("_", 2), ("leaving", 3)]) (g := gTup K 3 (gCons (gName 1) (gCons (gName 2) (gCons (gName 3) gNil)))) (tt := tYes) (te := tTup (tCons (tVar 1) (tCons (tCB (rLenQ K) (tCons (tVar 3) tNil)) tNil))) (by rfl) scLogB.nd (pi_list (pe_fld (pv 0) rfl))
          (blkOk_by (own := [("unit", 1), ("_", 2), ("leaving", 3)]) (N := ["self", "unit", "_", "leaving"]) (sc := defScope sBdLog) (by decide +kernel)) (fun _ _ _ _ _ => pg_tup rfl (pgs_cons (pg_name (i := 1) scLogB.nd rfl (Or.inl rfl)) (pgs_cons (pg_name (i := 2) scLogB.nd rfl (Or.inl rfl)) (pgs_cons (pg_name (i := 3) scLogB.nd rfl (Or.inl rfl)) pgs_nil)))) (fun _ _ _ _ _ => pts_nil)
          (fun _ _ _ _ _ => pe_tup (pa_cons (pv 1) (pa_cons (pe_callB call_len_seq (by rfl) ml PySem.boot_len (pa_cons (pv 3) pa_nil)) pa_nil)))) pa_nil))), ?_⟩
    refine ⟨_, rfl, b, CB, Ab.dx, _, _, rfl, B.ob, T.cl, T.nF, bf_fins, Ab.F, rfl, ⟨_, SqL.of fF⟩, fun D nD => ?_⟩
    refine lc_it (walk_list (K := K) (a := Ab.F) (xs := xs)) (fun i Hc => ∃ acc, Hc D = some (.lst acc) ∧ Same H (Off D Hc) ∧ DpAll K (Off D Hc) acc ((sb.fins.take i).map fun f => .tuple [.int f.1, .int (f.2.2.length : Nat)])) ⟨[], upd_same, off_newB nD, .nil⟩ (fun i Hc _ ⟨_, _, sc, _⟩ => SqL.of ((sc.trans (off_sub D Hc)).at fF)) ?_ ?_
    · rintro i y Hc0 Hc hi ⟨acc, hD, sc, da⟩ ⟨rfl, hy⟩
      obtain ⟨d, hd, dd⟩ := dps_getV dF hy
      rw [List.getElem?_map] at hd
      obtain ⟨fi, hfi, rfl⟩ := Option.map_eq_some_iff.mp hd
      have sH := (offL_sub (ftB b Ab) H).trans (sc.trans (off_sub D Hc))
      obtain ⟨p, x, yv, z, rfl, q, dx, dy, dz⟩ := dp_threeB (dp_same sH dd)
      have ex := dp_int dx
      subst ex
      obtain ⟨pl, vl, rfl, ql, rl⟩ := dp_tuple dz
      have el := dps_len rl
      rw [List.length_map] at el
      have al := dps_len da
      rw [List.length_map, List.length_take] at al
      have fl := ok.flen
      refine ⟨p, _, rfl, q, rfl, _, _, rfl, _, _, rfl, _, _, rfl, rfl, rfl, ?_⟩
      refine ⟨_, rfl, _, rfl, pl, vl, rfl, .inr ql, (by show 2 ≤ sizeLine; decide), fun t nt => ?_⟩
      have st := same_new (o := .tup [V.int fi.1, V.int (vl.length : Nat)]) nt
      have tD : t ≠ D := (ne_of_none hD nt).symm
      refine ⟨acc, st.at hD, Nat.lt_of_le_of_lt (show acc.length ≤ 100000 by omega) (by decide), acc ++ [.ref t], upd_same, ?_, ?_⟩
      · rw [off_upd]
        exact sc.trans (off_mono st)
      · rw [off_upd, List.take_add_one, hfi, List.map_append]
        refine dps_app (dps_same (off_mono st) da) (.cons (.tup (a := t) (SqT.of (by rw [off_ne tD, upd_same])) (.cons (.int _) (.cons ?_ .nil))) .nil)
        rw [el]
        exact .int _
    · rintro Hc ⟨acc, hD, sc, da⟩
      rw [xl, List.take_length] at da
      refine ⟨D, acc, rfl, .inl ⟨SqL.of hD, fun t nt => ?_⟩⟩
      have st := same_new (o := .tup acc) nt
      refine k t _ ((sc.trans (off_sub D Hc)).trans st) (.tup (SqT.of upd_same) (dps_same ((off_sub D Hc).trans st) da))
def spLens (K : PySem.W.Frag) (CB : Addr) : Sp := fun vs H Q _ => ∃ (b : Addr) (rv : V) (c : Int) (A : BdA) (s : Bd), vs = [.ref b] ∧ BdAt CB K H b rv c A s ∧ s.Ok ∧ ∀ (t : Addr) (H' : Hp), H t = none → Same H H' → H' t = some (.dK (kvS (lensS s))) → Q (.ref t) H'
theorem scLens : FnScope ["self", "_", "leaving", "name"] ["self"] (defScope sBdLengths) := ⟨rfl, rfl, rfl, by decide +kernel, rfl, by decide +kernel, by decide +kernel⟩
theorem ok_lens (D : MDf K CB "lengths" "Board.lengths" sBdLengths ["self"]) (T : BdC K CB) : MCl P w K mg base CX0 1 CB "lengths" ["self"] (spLens K CB) := by
  refine mcl0 D scLens (fun vs H Q E h => ?_) (fun f cdv A outer s H vs Q E hr h => ?_)
  · obtain ⟨b, rv, c, A, s, rfl, _⟩ := h
    rfl
  · obtain ⟨b, rv, c, Ab, sb, rfl, B, ok, k⟩ := h
    obtain ⟨xs, fF, dF⟩ := B.fins
    have xl := dps_len dF
    rw [List.length_map] at xl
    refine ⟨_, pss_one (ps_ret (pe_dc2 (own := [("_", 1), ("leaving", 2), ("name", 3)]) (vj := [3]) (g := gTup K 3 (gCons (gName 1) (gCons (gName 1) (gCons (gName 2) gNil)))) (tt := tYes) (wj := iTup K (tVar 2)) (gj := gName 3) (tj := tYes) (tk := tVar 3) (tv := tDGet (tFld K (tVar 0) "ran") (tVar 3)) (by rfl) scLens.nd (pi_list (pe_fld (pv 0) rfl))
        (blkOk_by (own := [("_", 1), ("leaving", 2), ("name", 3)]) (N := ["self", "_", "leaving", "name"]) (sc := defScope sBdLengths) (by decide +kernel)) (by decide) (fun _ _ _ _ _ => pg_tup rfl (pgs_cons (pg_name (i := 1) scLens.nd rfl (Or.inl rfl)) (pgs_cons (pg_name (i := 1) scLens.nd rfl (Or.inl rfl)) (pgs_cons (pg_name (i := 2) scLens.nd rfl (Or.inl rfl)) pgs_nil)))) (fun _ _ _ _ _ => pts_nil)
        (fun _ _ _ _ _ => pi_tup (pv 2)) (fun _ _ _ _ _ => pg_name (i := 3) scLens.nd rfl (Or.inl rfl)) (fun _ _ _ _ _ => pts_nil) (fun _ _ _ _ _ => pv 3) (fun _ _ _ _ _ => pe_dget (hu_of hr) (pe_fld (pv 0) rfl) (pv 3) (fun _ _ => rfl)))), ?_⟩
    refine ⟨_, rfl, b, CB, Ab.dx, _, _, rfl, B.ob, T.cl, T.nF, bf_fins, Ab.F, rfl, ⟨_, SqL.of fF⟩, fun D nD => ?_⟩
    have all : (sb.fins.flatMap fun f => f.2.2).length ≤ 1000 := by
      refine Nat.le_trans (nd_len (m := sb.ran.map (·.1)) ok.ndf fun x hx => ?_) (by rw [List.length_map]; exact ok.small)
      obtain ⟨fi, h1, h2⟩ := List.mem_flatMap.mp hx
      exact (ok.fst fi h1).2.2 x h2
    refine dc2_it (walk_list (K := K) (a := Ab.F) (xs := xs)) (fun i Hc => Hc D = some (.dK (kvS (((sb.fins.take i).flatMap fun f => f.2.2).map fun x => (x, getS sb.ran x)))) ∧ Same H (Off D Hc)) ⟨upd_same, off_newB nD⟩ (fun i Hc _ ⟨_, sc⟩ => SqL.of ((sc.trans (off_sub D Hc)).at fF)) ?_ ?_
    · rintro i y Hc0 Hc hi ⟨hD, sc⟩ ⟨rfl, hy⟩
      obtain ⟨d, hd, dd⟩ := dps_getV dF hy
      rw [List.getElem?_map] at hd
      obtain ⟨fi, hfi, rfl⟩ := Option.map_eq_some_iff.mp hd
      have sC := sc.trans (off_sub D Hc)
      obtain ⟨p, x, yv, z, rfl, q, dx, dy, dz⟩ := dp_threeB (dp_same (offL_sub (ftB b Ab) H) dd)
      have ex := dp_int dx
      subst ex
      obtain ⟨pl, vl, rfl, ql, rl⟩ := dp_tuple dz
      have ev := strs_dps rl
      subst ev
      have tk : (sb.fins.take (i + 1)).flatMap (fun f => f.2.2) = (sb.fins.take i).flatMap (fun f => f.2.2) ++ fi.2.2 := by
        rw [List.take_add_one, hfi, List.flatMap_append]
        simp
      have whole : sb.fins.flatMap (fun f => f.2.2) = (sb.fins.take i).flatMap (fun f => f.2.2) ++ (fi.2.2 ++ (sb.fins.drop (i + 1)).flatMap (fun f => f.2.2)) := by
        have z : sb.fins = sb.fins.take (i + 1) ++ sb.fins.drop (i + 1) := (List.take_append_drop _ _).symm
        rw [← List.append_assoc, ← tk, ← List.flatMap_append, ← z]
      have nd := ok.ndf
      rw [whole] at nd all
      refine ⟨p, _, rfl, same_seqT sC q, rfl, _, _, rfl, _, _, rfl, _, _, rfl, rfl, rfl, ?_⟩
      refine ⟨_, rfl, pl, rfl, ⟨_, same_seqT sC ql⟩, ?_⟩
      refine dc_it (walk_tup (K := K) (a := pl) (xs := fi.2.2.map V.str)) (fun j Hd => Hd D = some (.dK (kvS ((((sb.fins.take i).flatMap fun f => f.2.2) ++ fi.2.2.take j).map fun x => (x, getS sb.ran x)))) ∧ Same H (Off D Hd)) ⟨by rw [List.take_zero, List.append_nil]; exact hD, sc⟩ (fun j Hd _ ⟨_, sd⟩ => same_seqT (sd.trans (off_sub D Hd)) ql) ?_ ?_
      · rintro j z Hd0 Hd hj ⟨hDd, sd⟩ ⟨rfl, hz⟩
        rw [List.getElem?_map] at hz
        obtain ⟨x, hx, rfl⟩ := Option.map_eq_some_iff.mp hz
        have sD := sd.trans (off_sub D Hd)
        have xr : x ∈ sb.ran.map (·.1) := (ok.fst fi (List.mem_of_getElem? hfi)).2.2 x (List.mem_of_getElem? hx)
        have xn : x ∉ ((((sb.fins.take i).flatMap fun f => f.2.2) ++ fi.2.2.take j).map fun x => (x, getS sb.ran x)).map (·.1) := by
          rw [List.map_map]
          intro hm
          obtain ⟨y, hy, ey⟩ := List.mem_map.mp hm
          have ey : y = x := ey
          subst ey
          have z : fi.2.2 = fi.2.2.take j ++ y :: fi.2.2.drop (j + 1) := by
            obtain ⟨h1, h2⟩ := List.getElem?_eq_some_iff.mp hx
            rw [← h2, List.getElem_cons_drop h1, List.take_append_drop]
          rw [z, ← List.append_assoc, ← List.append_assoc] at nd
          have nd2 := (List.nodup_append.mp (List.nodup_append.mp nd).1).2.2
          exact nd2 y hy y (List.mem_cons_self ..) rfl
        have al2 : ((((sb.fins.take i).flatMap fun f => f.2.2) ++ fi.2.2.take j)).length ≤ 1000 := by
          rw [List.length_append, List.length_append] at all
          rw [List.length_append, List.length_take]
          omega
        refine ⟨rfl, _, rfl, _, rfl, b, CB, Ab.dx, _, _, rfl, sD.at B.ob, T.cl, T.nA, bf_ran, _, rfl, Ab.n, .int (getS sb.ran x), rfl, ?_, _, .inr x, rfl, hDd, ?_, ?_, ?_⟩
        · have z := DGet.k (k := (.inr x : Key)) (sD.at B.ran)
          rw [valS, lookS xr] at z
          exact z
        · unfold kvS
          rw [List.length_map, List.length_map]
          exact Nat.lt_of_le_of_lt al2 (by decide)
        · rw [upd_same, putK_new_S xn, List.take_add_one, hx]
          simp
        · rw [off_upd]
          exact sd
      · rintro Hd ⟨hDd, sd⟩
        rw [List.length_map, List.take_length] at hDd
        exact ⟨by rw [tk]; exact hDd, sd⟩
    · rintro Hc ⟨hD, sc⟩
      rw [xl, List.take_length] at hD
      exact k D Hc nD (sc.trans (off_sub D Hc)) hD
end
end Vk
set_option maxHeartbeats 4000000
/-! an exception that its except suite gives to another name: it is tracked from there on -/
namespace Vk
open PySem PySem.Spec PyProof.Rows L2
/-- at a: an exception of the class cls, its dict d -/
def Xco (a : Addr) (cls : Value) (d : Option Addr) : HO := .ext fun h => ∃ (oe : Obj) (vs : Array Value), h.get? a = some oe ∧ Zc cls d oe ∧ oe.data = .fields vs
theorem xco_ok {P : Program} {w : World} {H : Hp} {h : Heap} {a : Addr} {cls : Value} {d : Option Addr} {oe : Obj} {vs : Array Value} (e : h.get? a = some oe) (z : Zc cls d oe) (f : oe.data = .fields vs) : ObjOk P w H h a (Xco a cls d) :=
  ⟨⟨oe, vs, e, z, f⟩, ⟨oe, e⟩, fun _ _ ⟨o, v, q, r⟩ k => ⟨o, v, k o q, r⟩⟩
theorem xco_at {P : Program} {w : World} {H : Hp} {h : Heap} {a : Addr} {cls : Value} {d : Option Addr} (hok : HOk P w H h) (e : H a = some (Xco a cls d)) : ∃ (oe : Obj) (vs : Array Value), h.get? a = some oe ∧ Zc cls d oe ∧ oe.data = .fields vs := by
  have x : ObjOk P w H h a (.ext fun h => ∃ (oe : Obj) (vs : Array Value), h.get? a = some oe ∧ Zc cls d oe ∧ oe.data = .fields vs) := hok a _ e
  exact x.1
section
variable {X : Cx} {pins : List (Addr × Obj)} {σ : L2.St} {H : Hp} {s : Shared}
theorem inv_track {a : Addr} {o : HO} (I : Inv X pins σ H s) (hn : H a = none) (n0 : ∀ ob, X.s_0.heap.get? a = some ob → False) (nL : a ≠ X.env.locals) (nC : ∀ x c, X.env.cells.lookup x = some c → c ≠ a) (nP : ∀ p ∈ X.pn ++ pins, p.1 ≠ a)
    (new : ObjOk X.prog X.w (upd H a o) s.heap a o) : Inv X pins σ (upd H a o) s := by
  have ne : ∀ {b : Addr} {u : HO}, H b = some u → b ≠ a := fun q => ne_of_none q hn
  have b1 : Un X.fs X.ex X.H_0 (upd H a o) X.s_0.heap s.heap := {
      keep := I.base.keep
      slot := I.base.slot
      free := fun b u q n x => by
        have nb : b ≠ a := fun z => by
          rw [z] at q
          exact n0 u q
        rw [upd_ne nb]
        exact I.base.free b u q n x
      there := I.base.there
      tups := fun b xs q => by
        have z := I.base.tups b xs q
        rw [upd_ne (ne z)]
        exact z
      frzs := fun b u xs q => by
        have z := I.base.frzs b u xs q
        rw [upd_ne (ne z)]
        exact z
      tbls := fun b ps q => by
        obtain ⟨m, z⟩ := I.base.tbls b ps q
        exact ⟨m, by rw [upd_ne (ne z)]; exact z⟩ }
  refine ⟨I.ok, I.os, I.bare, b1, I.loc, I.cell, ?_, ?_, ?_, ?_, I.len⟩
  · rw [upd_ne nL.symm]
    exact I.free
  · intro x c q
    rw [upd_ne (nC x c q)]
    exact I.freeC x c q
  · intro p hp
    obtain ⟨h1, h2, h3⟩ := I.pin p hp
    exact ⟨h1, by rw [upd_ne (nP p hp)]; exact h2, h3⟩
  · intro b u q
    by_cases hb : b = a
    · subst hb
      rw [upd_same] at q
      cases q
      exact new
    · rw [upd_ne hb] at q
      refine (I.hok b u q).stay (fun c v _ z => z) (fun c z => ?_) (fun c xs z => ?_)
      · rw [upd_ne (ne z)]
        exact z
      · rw [upd_ne (ne z)]
        exact z
end
/-- what «except C as n: suite» wishes where the suite keeps the exception -/
def wKeep (K : PySem.W.Frag) (c : Value) (i : Nat) (ts : Addr → Value → Option Addr → TS) (D : Ends) : WX := fun cls d σ H =>
  PySem.W.exmOne K cls c = some true ∧ ∀ a, H a = none → ts a cls d { nx := fun σ' H' => H' a = none → D.nx (σ'.set i none) (upd H' a (Xco a cls d)), rt := fun _ _ => False } (σ.set i (some (.ref a))) H
section
variable {X : Cx} {x n : Str} {c : Value} {i : Nat} {body more : List Stmt} {b₀ : Stmt} {np pos pos' : Pos} {tb : WX → TS} {ts : Addr → Value → Option Addr → TS}
theorem ps_try_keep (hs : X.stack = X.env :: X.outer) (hf : X.env.frame = some X.env.locals) (hex : X.ex = []) (hN : X.N.Nodup) (hi : X.N[i]? = some n) (hln : X.env.kindOf n = some .local) (hg : Gl X x) (hm : X.mg x = some c)
    (hdb : (x == ("__debug__" : Str)) = false)
    (hb : ∀ (W : WX) (pn : List (Addr × Obj)) (xe : Value → Shared → Prop), Takes (X.tr pn xe) W → PassesOwn (model X.prog X.w) X.A X.env xe → PSs (X.tr pn xe) body (tb W))
    (hsu : ∀ (a : Addr) (oe : Obj) (cls : Value) (d : Option Addr) (pn : List (Addr × Obj)), Zc cls d oe → (∃ vs, oe.data = .fields vs) → PSs (X.suite a ((a, oe) :: pn)) (b₀ :: more) (ts a cls d)) :
    PS X (.Try body [.ExceptHandler (some (.Name x np)) (some n) (b₀ :: more) pos'] [] [] pos) (fun D σ H => tb (wKeep X.K c i ts D) D σ H) := by
  refine ⟨fun pins s σ H D I h => ?_⟩
  have ok := I.ok
  have frames : X.A.frames = some (X.env :: X.outer) := by rw [ok.frames, hs]
  refine wpAny_Try_except (wpAny_mono ((hb (wKeep X.K c i ts D) (X.pn ++ pins) _ (fun u s2 air => ?_) PassesOwn.looking).run [] s σ H D (I.toTry _) h) (fun f s2 sp => ?_) (fun _ _ z => z))
  · obtain ⟨a, B, sI, pins2, σ2, H2, cls, d, rfl, J2, ground, up, sky, na, os, ag, match1, suite⟩ := air
    have J : Inv X pins σ2 H2 sI := J2.ofTry ok
    have air2 : Sky B (X.env :: X.outer) a (Zc cls d) X.env.locals s2.heap := by rw [← hs]; exact sky
    -- a stands in no frame, and is new
    refine Sky.land Zc.steady frames hf air2 fun h3 fly3 up3 => ?_
    have K3 : Inv X pins σ2 H2 { s2 with heap := h3 } := J.landed ground fly3.1 (up.trans up3) os ag
    obtain ⟨o3, v3, get3, z3, dat3⟩ := fly3.there
    have outFr : a ∉ frs (X.env :: X.outer) := fun hm2 => by
      obtain ⟨_, o4, get4, nf⟩ := fly3.2.2.1.mem hm2
      rw [get3] at get4
      cases get4
      exact nf _ dat3
    have noL : a ≠ X.env.locals := fun z => outFr (List.mem_filterMap.mpr ⟨X.env, List.mem_cons_self, by rw [hf, z]⟩)
    have noF : a ∉ X.fs := fun hm2 => by
      obtain ⟨e, he, q⟩ := List.mem_filterMap.mp hm2
      exact outFr (List.mem_filterMap.mpr ⟨e, List.mem_cons_of_mem _ he, q⟩)
    have outI : ∀ ob, sI.heap.get? a = some ob → False := fun ob q => by
      have z := ground a ob q (by rw [show (X.tr (X.pn ++ pins) _).stack = X.stack from rfl, hs]; exact outFr)
      rw [fly3.2.1] at z
      cases z
    have out0 : ∀ ob, X.s_0.heap.get? a = some ob → False := fun ob q => by
      obtain ⟨o5, z⟩ := J.base.there a ob q (by rw [hex]; exact fun y => nomatch y)
      exact outI _ z
    have noC : ∀ y cc, X.env.cells.lookup y = some cc → cc ≠ a := fun y cc q z => by
      obtain ⟨v, o6, get6, _⟩ := J.cell y cc q
      rw [z] at get6
      exact outI _ get6
    have noP : ∀ p ∈ X.pn ++ pins, p.1 ≠ a := fun p hp z => by
      have q := (J.pin p hp).1
      rw [z] at q
      exact outI _ q
    refine wpAny_handleBy_cons (codeAny_handlers_test ?_) (by intro q; cases q)
    have isC : PySem.W.Looks (model X.prog X.w) h3 (typeOf (.ref a)) cls := fun A2 Q2 E2 s4 kk q => wpAny_typeOf_ref (kk _ _ get3) (by rw [z3.1]; exact q)
    refine ld_glob (X := X.suite a ((a, o3) :: (X.pn ++ pins))) (K3.suite get3 dat3 na noL noF) hg hm ?_ hdb
    refine (PySem.W.exm_one (M := model X.prog X.w) K3.kIn isC match1).here (codeAny_handlers_suite_as ?_)
    refine HandSPX.lands_againZ fly3 fun h4 fly4 up4 => ?_
    have K4 : Inv X pins σ2 H2 { s2 with heap := h4 } := J.landed ground fly4.1 ((up.trans up3).trans up4) os ag
    obtain ⟨o4, v4, get4, z4, dat4⟩ := fly4.there
    refine store_ok (X := X.suite a ((a, o4) :: (X.pn ++ pins))) (v := .ref a) (K4.suite get4 dat4 na noL noF) hN hi (.inl hln) rfl (fun s5 S5 => ?_) (.inr hln)
    refine wpAny_mono ((hsu a o4 cls d (X.pn ++ pins) z4 ⟨_, dat4⟩).run [] s5 _ H2 _ S5 (suite a na)) (fun f s6 sp => ?_) (fun _ _ z => False.elim z)
    cases f with
    | next =>
      obtain ⟨σ6, H6, S6, q6⟩ := sp
      obtain ⟨get6, n6, _⟩ := S6.pin (a, o4) (List.mem_append_left _ List.mem_cons_self)
      have T6 : Inv X pins σ6 (upd H6 a (Xco a cls d)) s6 := inv_track (S6.unsuite ok) n6 out0 noL noC noP (xco_ok get6 z4 dat4)
      exact gone_ok T6 hN hi hln fun s7 T7 => ⟨_, _, T7, q6 n6⟩
    | brk =>
      obtain ⟨_, _, _, z⟩ := sp
      exact False.elim z
    | cont =>
      obtain ⟨_, _, _, z⟩ := sp
      exact False.elim z
    | ret u =>
      obtain ⟨_, _, _, _, _, z⟩ := sp
      exact False.elim z
  · cases f with
    | next =>
      obtain ⟨σ2, H2, J, q⟩ := sp
      exact wpAny_execs_nil ⟨σ2, H2, J.ofTry ok, q⟩
    | brk =>
      obtain ⟨σ2, H2, J, q⟩ := sp
      exact ⟨σ2, H2, J.ofTry ok, q⟩
    | cont =>
      obtain ⟨σ2, H2, J, q⟩ := sp
      exact ⟨σ2, H2, J.ofTry ok, q⟩
    | ret u =>
      obtain ⟨v, σ2, H2, J, r, q⟩ := sp
      exact ⟨v, σ2, H2, J.ofTry ok, r, q⟩
end
/-! ### what is asked of it later -/
theorem xco_inst {X : Cx} {pins : List (Addr × Obj)} {σ : L2.St} {H : Hp} {s : Shared} {a C : Addr} {d : Option Addr} (I : Inv X pins σ H s) (e : H a = some (Xco a (.ref C) d)) (hd : ∀ dd, d = some dd → ∃ fs, H dd = some (.xd fs)) :
    ∃ oe od, PySem.W.InstAt s.heap a oe C od := by
  obtain ⟨⟨oc, odd, dat, sl⟩, vs, get, ⟨z1, z2⟩, f⟩ := xco_at I.hok e
  dsimp only at z1 z2 f
  subst z1 z2 f
  cases odd with
  | none => exact ⟨_, none, get, rfl, rfl, trivial⟩
  | some dd =>
    obtain ⟨fs, hx⟩ := hd dd rfl
    have ok : ObjOk X.prog X.w H s.heap dd (.xd fs) := I.hok dd _ hx
    obtain ⟨mA, ⟨o2, _, _, get2, _⟩, _⟩ := ok
    exact ⟨_, some o2, get, rfl, rfl, get2⟩
/-- isinstance(e, c) of such an exception -/
def rIsX (K : PySem.W.Frag) : List V → Hp → VK → Prop := fun xs H Q => ∃ (a C : Addr) (d : Option Addr) (c : V) (u : Value) (b : Bool), xs = [.ref a, c] ∧ H a = some (Xco a (.ref C) d) ∧ (∀ dd, d = some dd → ∃ fs, H dd = some (.xd fs)) ∧
  ExcC K C ∧ ClsV c u ∧ PySem.W.kitOne K (.ref C) u = some b ∧ Q (.bl b) H
theorem call_isX {X : Cx} : CallR X (.builtin "isinstance") (rIsX X.K) := by
  intro pins s σ H xs us Q I r h
  obtain ⟨a, C, d, c, u, b, rfl, e, hd, T, k, hk, q⟩ := h
  obtain ⟨u1, u2, rfl, r1, r2⟩ := vals2 r
  cases r1
  have e2 := k.eq r2
  subst e2
  obtain ⟨oe, od, inst⟩ := xco_inst I e hd
  have cl : (PySem.W.clsIn X.K C).isSome = true := by
    obtain ⟨cd, hc, _⟩ := PySem.W.any_some T.hd
    rw [hc]
    rfl
  exact PySem.W.kia_one (PySem.W.kitx_exc (od := od) cl T.hg T.hk T.hs T.ha T.hn T.ht T.hm) I.kIn inst hk (fun z => nomatch z) fun tk => ⟨.bl b, H, I.tok tk, rfl, q⟩
/-- e.f of such an exception -/
def tXp (K : PySem.W.Frag) (f : Str) (te : TE) : TE := fun σ H Q => te σ H fun x H1 => ∃ (a C dd : Addr) (fs : List (Str × V)) (v : V), x = .ref a ∧ H1 a = some (Xco a (.ref C) (some dd)) ∧ H1 dd = some (.xd fs) ∧ fs.lookup f = some v ∧
  XfC K C ∧ PySem.W.findIn K (.ref C) f = some none ∧ Q v H1
theorem pe_xp {X : Cx} {e : Expr} {te : TE} {pos : Pos} {n : Str} (he : PE X e te) (hb : attributeBase e n X.env (eval e X.env) = eval e X.env := by rfl) : PE X (.Attribute e n pos) (tXp X.K n te) := by
  refine ⟨fun pins s σ H Q I h => attr_of hb (thn (he.run pins s σ H _ I h) fun u s1 got => ?_)⟩
  obtain ⟨x, H1, I1, rx, a, C, dd, fs, v, rfl, ea, ed, hl, T, hno, q⟩ := got
  cases rx
  obtain ⟨⟨oc, odd, dat, sl⟩, vs, get, ⟨z1, z2⟩, f⟩ := xco_at I1.hok ea
  dsimp only at z1 z2 f
  subst z1 z2 f
  have ok : ObjOk X.prog X.w H1 s1.heap dd (.xd fs) := I1.hok dd _ ed
  obtain ⟨mA, hns, hr⟩ := ok
  obtain ⟨od, ho, look⟩ := lookIn_ns hns
  obtain ⟨y, hy, ry⟩ := RelO.some_of (v := v) (o := mA n) (by rw [← hl]; exact hr n)
  have inst : PySem.W.InstAt s1.heap a ⟨.ref C, some dd, .fields vs, sl⟩ C (some od) := ⟨get, rfl, rfl, ho⟩
  exact HandSPX.exc_get I1.kIn inst T.ga T.gg T.exC (PySem.W.findObj_own T.hdC hno rfl (by rw [look, hy])) (handed_of ry) ⟨v, H1, I1.tok _, ry, q⟩
end Vk
set_option maxHeartbeats 4000000
/-! f(a, b, k = c) of a def with one keyword-only parameter, also where what it raises is caught -/
namespace Vk
open PySem PySem.Spec PyProof.Rows L2
/-- a def of the module's top with one keyword-only parameter, its default dv -/
structure DfK (K : PySem.W.Frag) (mg : Str → Option Value) (x : Str) (st : Stmt) (ps : List Str) (kn : Str) (dv : V) : Prop where
  ex : ∃ f fd, mg x = some (.ref f) ∧ FunD K x x (defArgs st) (defBody st) (defScope st) [] [(kn, dv)] f fd ∧ KBn K fd (ps ++ [kn]) ps.length [kn] (fun us ws => us ++ ws) (fun vs zs => vs ++ zs) ∧ ∃ ds, Vals [dv] ds ∧ Binds K fd (ps ++ [kn]) ds
/-- its promise -/
structure ClK (P : Program) (w : World) (K : PySem.W.Frag) (mg : Str → Option Value) (base : Heap) (CX : CXT) (k : Nat) (x : Str) (ps : List Str) (kn : Str) (dv : V) (sp : Sp) : Prop where
  ex : ∃ f fd, mg x = some (.ref f) ∧ PySem.W.keepIn K (.ref f) = true ∧ KBn K fd (ps ++ [kn]) ps.length [kn] (fun us ws => us ++ ws) (fun vs zs => vs ++ zs) ∧ (∃ ds, Vals [dv] ds ∧ Binds K fd (ps ++ [kn]) ds) ∧ FnOk P w K mg base CX k f fd (ps ++ [kn]) sp
section
variable {P : Program} {w : World} {K : PySem.W.Frag} {mg : Str → Option Value} {base : Heap}
theorem clK {CX : CXT} {x kn : Str} {st : Stmt} {N ps : List Str} {k : Nat} {dv : V} {sp : Sp} (D : DfK K mg x st ps kn dv) (S : FnScope N (ps ++ [kn]) (defScope st)) (len : ∀ vs H Q E, sp vs H Q E → vs.length = (ps ++ [kn]).length)
    (body : ∀ (f : Addr) (cdv : Value) (A : Around) (outer : List Env) (s : Shared) (H : Hp) (vs : List V) (Q : VK) (E : XK), Room k (A.deeper (envOfC x (defScope st) s.heap.objs.size f cdv)) → sp vs H Q E →
      ∃ t, PSs (cxOf CX P w K mg base N x (defScope st) f cdv A outer s H E) (defBody st) t ∧ t { nx := fun _ H' => Q .non H', rt := Q } (start N vs) H) : ClK P w K mg base CX (k + 1) x ps kn dv sp := by
  obtain ⟨f, fd, hm, F, kb, db⟩ := D.ex
  exact ⟨f, fd, hm, F.kp, kb, db, F.ok S len (body f)⟩
/-- binding, from the def as it stands -/
theorem dfk_mk {x kn : Str} {st : Stmt} {f D : Addr} {oc doc pm cdv ct : Value} {od an : Option Addr} {osl : Array (Option Value)} {dv : V} {u : Value} (m : mg x = some (.ref f))
    (l : K.lookup f = some ⟨oc, od, .func (PySem.W.fnOf x x (defArgs st) (defBody st) (defScope st) .none (.ref D) doc pm an cdv ct), osl⟩) (c : PySem.W.codeIn K cdv x = true) (kp : PySem.W.keepIn K (.ref f) = true) (n : PySem.W.nsIn K D kn = some (some u)) (r : RelV dv u) {p1 p2 : Str}
    (hb : ∀ (doc pm : Value) (an : Option Addr) (cdv ct a b z : Value), bindArgs (PySem.W.fnOf x x (defArgs st) (defBody st) (defScope st) .none (.ref D) doc pm an cdv ct) ⟨[a, b], [(kn, z)]⟩ = pure [(p1, a), (p2, b), (kn, z)])
    (hd : ∀ (doc pm : Value) (an : Option Addr) (cdv ct a b z : Value), KwChain D [(kn, z)] (bindArgs (PySem.W.fnOf x x (defArgs st) (defBody st) (defScope st) .none (.ref D) doc pm an cdv ct) ⟨[a, b], []⟩) [(p1, a), (p2, b), (kn, z)]) : DfK K mg x st [p1, p2] kn dv := by
  have F : FunD K x x (defArgs st) (defBody st) (defScope st) [] [(kn, dv)] f (PySem.W.fnOf x x (defArgs st) (defBody st) (defScope st) .none (.ref D) doc pm an cdv ct) :=
    ⟨⟨oc, od, .none, .ref D, doc, pm, an, cdv, ct, osl, rfl, l, c, .inl ⟨rfl, rfl⟩, .inr ⟨D, rfl, fun q hq => by
      rw [List.mem_singleton.mp hq]
      exact ⟨u, n, r⟩⟩⟩, kp⟩
  refine ⟨f, _, m, F, ⟨fun s us ws X l1 l2 => ?_, fun r1 r2 => r1.append r2⟩, [u], .cons r .nil, fun s us X hl => ?_⟩
  · match us, ws, l1, l2 with
    | [a, b], [z], _, _ => exact .of_eq (hb doc pm an cdv ct a b z)
  · have two : us.length = 2 := by
      rw [List.length_append] at hl
      simp only [List.length_cons, List.length_nil, List.length_append] at hl
      omega
    match us, two with
    | [a, b], _ =>
      refine BindsTo.of_looks fun M => KwChain.looks X (fun q hq => ?_) (hd doc pm an cdv ct a b u)
      rw [List.mem_singleton.mp hq]
      exact n
end
/-- the call with a keyword, where W takes what is raised -/
def tCallK (sp : Sp) (ex : L2.St → XK) (n : Nat) (t tk : TA) : TE := fun σ H Q => t σ H fun vs H1 => tk σ H1 fun zs H2 => vs.length = n ∧ zs.length = 1 ∧ sp (vs ++ zs) H2 Q (ex σ)
section
variable {X : Cx} {CX : CXT} {k n : Nat} {fa : Addr} {fdat : FuncData} {names : List Str} {kn : Str} {sp : Sp} {ex : L2.St → XK} {x : Str} {p pos : Pos} {e1 : Expr} {es1 : List Expr} {kws1 : List Keyword} {ta1 tk1 : TA}
theorem pe_callK (fn : FnOk X.prog X.w X.K X.mg X.base CX k fa fdat names sp) (room : Room k X.A) (gx : Gl X x) (mx : X.mg x = some (.ref fa)) (kx : PySem.W.keepIn X.K (.ref fa) = true) (kb : KBn X.K fdat names n [kn] (fun us ws => us ++ ws) (fun vs zs => vs ++ zs)) (px : ∀ σ, PassesAt CX X σ (ex σ))
    (args : PA X (e1 :: es1) ta1) (kargs : PK X kws1 tk1) (all1 : (backToKw pos (keywordEach kws1 X.env)).all (·.1.isSome) = true := by rfl) (names1 : (backToKw pos (keywordEach kws1 X.env)).filterMap (·.1) = [kn] := by rfl)
    (nodebug : (x == ("__debug__" : Str)) = false := by decide) (first1 : starEach (e1 :: es1) X.env = (false, eval e1 X.env) :: starEach es1 X.env := by rfl)
    (plain1 : ((backTo pos (starEach (e1 :: es1) X.env)).any (·.1) || (backToKw pos (keywordEach kws1 X.env)).any (·.1.isNone)) = false := by rfl) :
    PE X (.Call (.Name x p) (e1 :: es1) kws1 pos) (tCallK sp ex n ta1 tk1) := ⟨fun pins s σ H Q I h => by
  refine wpAny_Call_Name_kw (ld_glob I gx mx ?_ nodebug)
  refine PySem.W.callWith_KW (h₀ := X.base) I.ok.mod.kin kx all1 (thn (args.run pos pins s σ H _ I h) fun us s1 got => ?_) plain1 first1
  obtain ⟨vs, H1, I1, rv, q⟩ := got
  refine thn (kargs.run pos pins s1 σ H1 _ I1 q) fun ws s2 got2 => ?_
  obtain ⟨zs, H2, I2, rz, n1, n2, q2⟩ := got2
  refine ⟨I2.kIn, ?_⟩
  rw [names1]
  have len1 : us.length = n := rv.length.symm.trans n1
  have len2 : ws.length = [kn].length := rz.length.symm.trans n2
  refine wpAny_call (codeAny_mono (fn.run X.A X.stack s2 H2 ⟨us, [kn].zip ws⟩ (us ++ ws) (vs ++ zs) Q (ex σ) room I2.env0 (kb.to s2 us ws I2.kIn len1 len2) (kb.rel rv rz) q2) fun res s3 hq => ?_)
  match res, hq with
  | .error er, hq => exact px σ pins H2 s2 er s3 I2 hq
  | .ok (.ret u), hq => exact I2.after hq
  | .ok .next, hq => exact False.elim hq
  | .ok .brk, hq => exact False.elim hq
  | .ok .cont, hq => exact False.elim hq⟩
end
end Vk
set_option maxHeartbeats 8000000
/-! the bench: its place, what it does -/
namespace Vk
open PySem PySem.Spec PyProof.Rows L2 GxR
theorem offL_comp {a b : List Addr} {H : Hp} : OffL a (OffL b H) = OffL (a ++ b) H := by
  funext x
  by_cases h1 : x ∈ a
  · rw [offL_in h1, offL_in (List.mem_append_left _ h1)]
  · by_cases h2 : x ∈ b
    · rw [offL_out h1, offL_in h2, offL_in (List.mem_append_right _ h2)]
    · rw [offL_out h1, offL_out h2, offL_out (fun m => (List.mem_append.mp m).elim h1 h2)]
structure BnA where
  dn : Addr
  b : Addr
  p : Addr
  A : BdA
def ftN (n : Addr) (N : BnA) : List Addr := n :: N.p :: ftB N.b N.A
def nfl (N : BnA) : List (Str × V) := [("_board", .ref N.b), ("_past", .ref N.p)]
structure BnAt (CN CB : Addr) (K : PySem.W.Frag) (H : Hp) (n : Addr) (rv : V) (c : Int) (N : BnA) (s : Bd) (r : Rl) (ps : List Addr) : Prop where
  ob : H n = some (.ins CN N.dn (nfl N))
  past : H N.p = some (.lst (ps.map V.ref).reverse)
  bd : BdAt CB K H N.b rv c N.A s
  ok : s.Ok
  rule : Dp K (OffL (ftN n N) H) rv (bRulD r)
  lev : r.levels.length = s.lines.length
  nb : n ∉ ftB N.b N.A
  pb : N.p ∉ ftB N.b N.A
structure BnC (K : PySem.W.Frag) (C : Addr) : Prop where
  cl : Cls K C
  nB : NoAttr K C "_board"
  nP : NoAttr K C "_past"
section
variable {CN CB : Addr} {K : PySem.W.Frag} {H H' : Hp} {n : Addr} {rv : V} {c : Int} {N : BnA} {s : Bd} {r : Rl} {ps : List Addr}
/-- finishes stay where tuples stay -/
theorem fin_keep {X Y : Hp} (k : ∀ a xs, SqT K X a xs → SqT K Y a xs) {v : V} {f : Int × List Str × List Str} (h : Dp K X v (finD f)) : Dp K Y v (finD f) := by
  obtain ⟨p, x, y, z, rfl, q, dx, dy, dz⟩ := dp_threeB h
  have two : ∀ {v : V} {l : List Str}, Dp K X v (.tuple (l.map PyData.str)) → Dp K Y v (.tuple (l.map PyData.str)) := fun {v l} h => by
    obtain ⟨a, ys, rfl, qa, da⟩ := dp_tuple h
    have e := strs_dps da
    subst e
    exact .tup (k _ _ qa) (dps_strs l)
  have e := dp_int dx
  subst e
  exact .tup (k _ _ q) (.cons (.int _) (.cons (two dy) (.cons (two dz) .nil)))
theorem fins_keep {X Y : Hp} (k : ∀ a xs, SqT K X a xs → SqT K Y a xs) : ∀ {vs : List V} {fs : List (Int × List Str × List Str)}, DpAll K X vs (fs.map finD) → DpAll K Y vs (fs.map finD)
  | _, [], .nil => .nil
  | _, _ :: fs, .cons h t => .cons (fin_keep k h) (fins_keep k (fs := fs) t)
theorem BdAt.keepT {b : Addr} {A : BdA} (B : BdAt CB K H b rv c A s) (e : ∀ x ∈ ftB b A, H' x = H x) (k : ∀ a xs, SqT K (OffL (ftB b A) H) a xs → SqT K (OffL (ftB b A) H') a xs) : BdAt CB K H' b rv c A s := by
  obtain ⟨xs, f1, f2⟩ := B.fins
  exact ⟨(e _ (by simp [ftB])).trans B.ob, (e _ (by simp [ftB])).trans B.lines, B.len, fun i l ns h1 h2 => (e l (by simp [ftB, List.mem_of_getElem? h1])).trans (B.line i l ns h1 h2), (e _ (by simp [ftB])).trans B.used, (e _ (by simp [ftB])).trans B.ran,
    ⟨xs, (e _ (by simp [ftB])).trans f1, fins_keep k f2⟩, B.nd, B.un⟩
/-- neither a tuple nor one that is locked -/
def NoTup (o : HO) : Prop := (∀ xs, o ≠ .tup xs) ∧ ∀ q u, o ≠ .frz q u
theorem sqt_off {H : Hp} {ft : List Addr} (h : ∀ z ∈ ft, ∀ o, H z = some o → NoTup o) {a : Addr} {xs : List V} (q : SqT K H a xs) : SqT K (OffL ft H) a xs := by
  rcases q with (q | ⟨o, q⟩) | q
  · exact .inl (.inl (by rw [offL_out (fun m => (h a m _ q).1 xs rfl)]; exact q))
  · exact .inl (.inr ⟨o, by rw [offL_out (fun m => (h a m _ q).2 _ _ rfl)]; exact q⟩)
  · exact .inr q
theorem sqt_put {H : Hp} {z : Addr} {o u : HO} (h : H z = some o) (n : NoTup o) {a : Addr} {xs : List V} (q : SqT K H a xs) : SqT K (upd H z u) a xs := by
  rcases q with (q | ⟨w, q⟩) | q
  · exact .inl (.inl (by rw [upd_ne (fun e => by rw [e, h] at q; cases q; exact n.1 xs rfl)]; exact q))
  · exact .inl (.inr ⟨w, by rw [upd_ne (fun e => by rw [e, h] at q; cases q; exact n.2 _ _ rfl)]; exact q⟩)
  · exact .inr q
theorem noTup_lst {l : List V} : NoTup (.lst l) := ⟨fun _ e => (nomatch e), fun _ _ e => (nomatch e)⟩
theorem noTup_ins {C d : Addr} {l : List (Str × V)} : NoTup (.ins C d l) := ⟨fun _ e => (nomatch e), fun _ _ e => (nomatch e)⟩
theorem noTup_dK {l : List (Key × V)} : NoTup (.dK l) := ⟨fun _ e => (nomatch e), fun _ _ e => (nomatch e)⟩
theorem BdAt.noTup {b : Addr} {A : BdA} (B : BdAt CB K H b rv c A s) : ∀ z ∈ ftB b A, ∀ o, H z = some o → NoTup o := fun z hz o e => by
  obtain ⟨xs, f1, _⟩ := B.fins
  simp only [ftB, List.mem_cons] at hz
  rcases hz with rfl | rfl | rfl | rfl | rfl | h
  · rw [B.ob] at e; cases e; exact noTup_ins
  · rw [B.lines] at e; cases e; exact noTup_lst
  · rw [B.used] at e; cases e; exact noTup_dK
  · rw [B.ran] at e; cases e; exact noTup_dK
  · rw [f1] at e; cases e; exact noTup_lst
  · obtain ⟨_, _, _, _, q⟩ := B.at_line h
    rw [q] at e; cases e; exact noTup_lst
theorem BnAt.noTup (B : BnAt CN CB K H n rv c N s r ps) : ∀ z ∈ ftN n N, ∀ o, H z = some o → NoTup o := fun z hz o e => by
  simp only [ftN, List.mem_cons] at hz
  rcases hz with rfl | rfl | h
  · rw [B.ob] at e; cases e; exact noTup_ins
  · rw [B.past] at e; cases e; exact noTup_lst
  · exact B.bd.noTup z h o e
theorem nf_board : (nfl N).lookup ("_board" : Str) = some (.ref N.b) := by kernel_rfl
theorem nf_past : (nfl N).lookup ("_past" : Str) = some (.ref N.p) := by kernel_rfl
theorem BnAt.np (B : BnAt CN CB K H n rv c N s r ps) : n ≠ N.p := ne_of B.ob B.past (by intro z; cases z)
theorem BnAt.bdR (B : BnAt CN CB K H n rv c N s r ps) : BdR K CB H N.b rv c N.A s r := ⟨B.bd, B.ok.toOk0, dp_same (offL_swap fun x hx => .inl (by simp [ftN, hx])) B.rule, B.lev⟩
theorem BnAt.same (B : BnAt CN CB K H n rv c N s r ps) (k : Same H H') : BnAt CN CB K H' n rv c N s r ps :=
  ⟨k.at B.ob, k.at B.past, B.bd.same k, B.ok, dp_same (offL_mono k) B.rule, B.lev, B.nb, B.pb⟩
theorem ftN_comp {X : Hp} {A' : BdA} : OffL [n, N.p] (OffL (ftB N.b A') X) = OffL (ftN n { N with A := A' }) X := offL_comp
/-- the board has done something -/
theorem BnAt.step (B : BnAt CN CB K H n rv c N s r ps) {A' : BdA} {s' : Bd} (S : Same (OffL (ftB N.b N.A) H) (OffL (ftB N.b A') H')) (B' : BdAt CB K H' N.b rv c A' s') (ok' : s'.Ok) (lev' : r.levels.length = s'.lines.length) :
    BnAt CN CB K H' n rv c { N with A := A' } s' r ps ∧ Same (OffL (ftN n N) H) (OffL (ftN n { N with A := A' }) H') := by
  have sm : Same (OffL (ftN n N) H) (OffL (ftN n { N with A := A' }) H') := by
    have y := offL_mono (ft := [n, N.p]) S
    rw [ftN_comp, ftN_comp] at y
    exact y
  obtain ⟨n1, n2⟩ := offL_some (S.at (o := .ins CN N.dn (nfl N)) (by rw [offL_out B.nb]; exact B.ob))
  obtain ⟨p1, p2⟩ := offL_some (S.at (o := .lst (ps.map V.ref).reverse) (by rw [offL_out B.pb]; exact B.past))
  exact ⟨⟨n2, p2, B', ok', dp_same sm B.rule, lev', n1, p1⟩, sm⟩
/-- a copy goes to the past -/
theorem BnAt.push (B : BnAt CN CB K H n rv c N s r ps) (k : Same H H') {t : Addr} {At : BdA} (Bt : BdAt CB K H' t rv c At s) (fr : ∀ z ∈ ftB t At, H z = none) :
    BnAt CN CB K (upd H' N.p (.lst ((ps.map V.ref).reverse ++ [V.ref t]))) n rv c N s r (t :: ps) ∧
    Same (OffL (ftN n N) H) (OffL (ftN n N) (upd H' N.p (.lst ((ps.map V.ref).reverse ++ [V.ref t])))) ∧ BdAt CB K (OffL (ftN n N) (upd H' N.p (.lst ((ps.map V.ref).reverse ++ [V.ref t])))) t rv c At s := by
  have B1 := B.same k
  have mp : N.p ∈ ftN n N := by simp [ftN]
  have sm : Same (OffL (ftN n N) H) (OffL (ftN n N) (upd H' N.p (.lst ((ps.map V.ref).reverse ++ [V.ref t])))) := by
    rw [offL_upd mp]
    exact offL_mono k
  have here : ∀ z ∈ ftN n N, H z ≠ none := fun z hz => by
    simp only [ftN, List.mem_cons] at hz
    rcases hz with rfl | rfl | h
    · rw [B.ob]; simp
    · rw [B.past]; simp
    · exact B.bd.here h
  have tn : ∀ z ∈ ftB t At, z ∉ ftN n N := fun z hz m => here z m (fr z hz)
  refine ⟨⟨by rw [upd_ne B.np]; exact B1.ob, ?_, B1.bd.keepT (fun x hx => upd_ne (fun e => B.pb (by rw [← e]; exact hx))) (fun a xs q => ?_), B.ok, dp_same sm B.rule, B.lev, B.nb, B.pb⟩, sm, ?_⟩
  · rw [upd_same]
    simp
  · rw [offL_put B.pb]
    exact sqt_put (by rw [offL_out B.pb]; exact B1.past) noTup_lst q
  · rw [offL_upd mp]
    refine Bt.keepT (fun x hx => offL_out (tn x hx)) (fun a xs q => ?_)
    · rw [offL_comp]
      have e : OffL (ftN n N) (OffL (ftB t At) H') = OffL (ftB t At ++ ftN n N) H' := by
        rw [offL_comp]
        funext x
        by_cases m : x ∈ ftN n N ++ ftB t At
        · rw [offL_in m, offL_in (by simpa [or_comm] using m)]
        · rw [offL_out m, offL_out (by simpa [or_comm, and_comm] using m)]
      rw [← e]
      exact sqt_off (fun z hz o h => B1.noTup z hz o (offL_some h).2) q
/-- a rule stays where tuples stay -/
theorem rul_keep {X Y : Hp} (k : ∀ a xs, SqT K X a xs → SqT K Y a xs) {v : V} (h : Dp K X v (bRulD r)) : Dp K Y v (bRulD r) := by
  obtain ⟨p, x, y, rfl, q, dx, dy⟩ := dp_two h
  obtain ⟨pl, xs, rfl, ql, rl⟩ := dp_tuple dx
  have opt : ∀ {o : Option Int} {v : V}, Dp K X v (bOptD o) → Dp K Y v (bOptD o) := fun {o v} h => by
    cases o with
    | none => cases h; exact .non
    | some i => cases dp_int h; exact .int i
  have lv : ∀ {vs : List V} {ls : List (Bool × Option Int)}, DpAll K X vs (ls.map bLevD) → DpAll K Y vs (ls.map bLevD) := fun {vs ls} => by
    intro h
    induction ls generalizing vs with
    | nil => cases h; exact .nil
    | cons l ls ih =>
      cases h with
      | cons a t =>
        obtain ⟨p, x, y, rfl, q, dx, dy⟩ := dp_two a
        have e := dp_str dx
        subst e
        exact .cons (.tup (k _ _ q) (.cons (.str _) (.cons (opt dy) .nil))) (ih t)
  exact .tup (k _ _ q) (.cons (.tup (k _ _ ql) (lv rl)) (.cons (opt dy) .nil))
theorem BnAt.keepT (B : BnAt CN CB K H n rv c N s r ps) (e : ∀ z ∈ ftN n N, H' z = H z) (k : ∀ a xs, SqT K (OffL (ftN n N) H) a xs → SqT K (OffL (ftN n N) H') a xs) (k2 : ∀ a xs, SqT K (OffL (ftB N.b N.A) H) a xs → SqT K (OffL (ftB N.b N.A) H') a xs) : BnAt CN CB K H' n rv c N s r ps :=
  ⟨(e _ (by simp [ftN])).trans B.ob, (e _ (by simp [ftN])).trans B.past, B.bd.keepT (fun z hz => e z (by simp [ftN, hz])) k2, B.ok, rul_keep k B.rule, B.lev, B.nb, B.pb⟩
/-- what is no part of it changes, no tuple -/
theorem BnAt.put (B : BnAt CN CB K H n rv c N s r ps) {z : Addr} {o u : HO} (nz : z ∉ ftN n N) (h : H z = some o) (nt : NoTup o) : BnAt CN CB K (upd H z u) n rv c N s r ps :=
  B.keepT (fun x hx => upd_ne (fun e => nz (by rw [← e]; exact hx))) (fun a xs q => by
    rw [offL_put nz]
    exact sqt_put (by rw [offL_out nz]; exact h) nt q) (fun a xs q => by
    have nz2 : z ∉ ftB N.b N.A := fun m => nz (by simp [ftN, m])
    rw [offL_put nz2]
    exact sqt_put (by rw [offL_out nz2]; exact h) nt q)
theorem sqt_kept {X Y : Hp} {z : Addr} {o : HO} (s : Same (Off z X) (Off z Y)) (h : X z = some o) (nt : NoTup o) {a : Addr} {xs : List V} (q : SqT K X a xs) : SqT K Y a xs := by
  rcases q with (q | ⟨w, q⟩) | q
  · have az : a ≠ z := fun e => by rw [e, h] at q; cases q; exact nt.1 xs rfl
    have y := s.at (o := .tup xs) (by rw [off_ne az]; exact q)
    rw [off_ne az] at y
    exact .inl (.inl y)
  · have az : a ≠ z := fun e => by rw [e, h] at q; cases q; exact nt.2 _ _ rfl
    have y := s.at (o := .frz w (.tup xs)) (by rw [off_ne az]; exact q)
    rw [off_ne az] at y
    exact .inl (.inr ⟨w, y⟩)
  · exact .inr q
theorem offL_off {ft : List Addr} {z : Addr} {X : Hp} : OffL ft (Off z X) = Off z (OffL ft X) := by
  rw [← offL_one, ← offL_one, offL_comp, offL_comp]
  funext x
  by_cases m : x ∈ ft ++ [z]
  · rw [offL_in m, offL_in (by simp at m ⊢; exact m.symm)]
  · rw [offL_out m, offL_out (fun y => m (by simp at y ⊢; exact y.symm))]
/-- .. as by a call that changes one list -/
theorem BnAt.kept (B : BnAt CN CB K H n rv c N s r ps) {z : Addr} {o : HO} (nz : z ∉ ftN n N) (h : H z = some o) (nt : NoTup o) (k : Same (Off z H) (Off z H')) : BnAt CN CB K H' n rv c N s r ps := by
  refine B.keepT (fun x hx => ?_) (fun a xs q => sqt_kept (z := z) ?_ (by rw [offL_out nz]; exact h) nt q) (fun a xs q => sqt_kept (z := z) ?_ (by rw [offL_out fun m => nz (by simp [ftN, m])]; exact h) nt q)
  · have xz : x ≠ z := fun e => nz (by rw [← e]; exact hx)
    have w : ∃ u, H x = some u ∧ NoTbl u := by
      obtain ⟨xs, f1, _⟩ := B.bd.fins
      simp only [ftN, ftB, List.mem_cons] at hx
      rcases hx with rfl | rfl | rfl | rfl | rfl | rfl | rfl | hx
      · exact ⟨_, B.ob, trivial⟩
      · exact ⟨_, B.past, trivial⟩
      · exact ⟨_, B.bd.ob, trivial⟩
      · exact ⟨_, B.bd.lines, trivial⟩
      · exact ⟨_, B.bd.used, trivial⟩
      · exact ⟨_, B.bd.ran, trivial⟩
      · exact ⟨_, f1, trivial⟩
      · obtain ⟨_, _, _, _, q⟩ := B.bd.at_line hx
        exact ⟨_, q, trivial⟩
    obtain ⟨u, w1, w2⟩ := w
    have y := k.at_ x u (by rw [off_ne xz]; exact w1) w2
    rw [off_ne xz] at y
    rw [y, w1]
  · rw [← offL_off, ← offL_off]
    exact offL_mono k
  · rw [← offL_off, ← offL_off]
    exact offL_mono k
end
end Vk
set_option maxHeartbeats 8000000
/-! what a bench does -/
namespace Vk
open PySem PySem.Spec PyProof.Rows L2 GxR
/-- a method with one keyword-only parameter -/
structure MDfK (K : PySem.W.Frag) (C : Addr) (m qual : Str) (st : Stmt) (ps : List Str) (kn : Str) (dv : V) : Prop where
  ex : ∃ f fd, Meth K C m f ∧ FunD K m qual (defArgs st) (defBody st) (defScope st) [] [(kn, dv)] f fd ∧ KBn K fd (ps ++ [kn]) ps.length [kn] (fun us ws => us ++ ws) (fun vs zs => vs ++ zs) ∧ ∃ ds, Vals [dv] ds ∧ Binds K fd (ps ++ [kn]) ds
structure MClK (P : Program) (w : World) (K : PySem.W.Frag) (mg : Str → Option Value) (base : Heap) (CX : CXT) (k : Nat) (C : Addr) (m : Str) (ps : List Str) (kn : Str) (dv : V) (sp : Sp) : Prop where
  ex : ∃ f fd, Meth K C m f ∧ KBn K fd (ps ++ [kn]) ps.length [kn] (fun us ws => us ++ ws) (fun vs zs => vs ++ zs) ∧ (∃ ds, Vals [dv] ds ∧ Binds K fd (ps ++ [kn]) ds) ∧ FnOk P w K mg base CX k f fd (ps ++ [kn]) sp
/-- .. with a default -/
structure MDfP (K : PySem.W.Frag) (C : Addr) (m qual : Str) (st : Stmt) (ps : List Str) (dv : V) : Prop where
  ex : ∃ f fd, Meth K C m f ∧ FunD K m qual (defArgs st) (defBody st) (defScope st) [dv] [] f fd ∧ Binds K fd ps [] ∧ ∃ ds, Vals [dv] ds ∧ Binds K fd ps ds
structure MClP (P : Program) (w : World) (K : PySem.W.Frag) (mg : Str → Option Value) (base : Heap) (CX : CXT) (k : Nat) (C : Addr) (m : Str) (ps : List Str) (dv : V) (sp : Sp) : Prop where
  ex : ∃ f fd, Meth K C m f ∧ Binds K fd ps [] ∧ (∃ ds, Vals [dv] ds ∧ Binds K fd ps ds) ∧ FnOk P w K mg base CX k f fd ps sp
section
variable {P : Program} {w : World} {K : PySem.W.Frag} {mg : Str → Option Value} {base : Heap} {CN CB : Addr}
theorem mclK0 {C : Addr} {m qual kn : Str} {st : Stmt} {N ps : List Str} {k : Nat} {dv : V} {sp : Sp} (D : MDfK K C m qual st ps kn dv) (S : FnScope N (ps ++ [kn]) (defScope st)) (len : ∀ vs H Q E, sp vs H Q E → vs.length = (ps ++ [kn]).length)
    (body : ∀ (f : Addr) (cdv : Value) (A : Around) (outer : List Env) (s : Shared) (H : Hp) (vs : List V) (Q : VK) (E : XK), Room k (A.deeper (envOfC qual (defScope st) s.heap.objs.size f cdv)) → sp vs H Q E →
      ∃ t, PSs (cxOf CX0 P w K mg base N qual (defScope st) f cdv A outer s H E).nox (defBody st) t ∧ t { nx := fun _ H' => Q .non H', rt := Q } (start N vs) H) : MClK P w K mg base CX0 (k + 1) C m ps kn dv sp := by
  obtain ⟨f, fd, M, F, kb, db⟩ := D.ex
  exact ⟨f, fd, M, kb, db, F.ok S len fun cdv A outer s H vs Q E hr h => by
    obtain ⟨t, h1, h2⟩ := body f cdv A outer s H vs Q E hr h
    exact ⟨t, h1.nox, h2⟩⟩
theorem mclP0 {C : Addr} {m qual : Str} {st : Stmt} {N ps : List Str} {k : Nat} {dv : V} {sp : Sp} (D : MDfP K C m qual st ps dv) (S : FnScope N ps (defScope st)) (len : ∀ vs H Q E, sp vs H Q E → vs.length = ps.length)
    (body : ∀ (f : Addr) (cdv : Value) (A : Around) (outer : List Env) (s : Shared) (H : Hp) (vs : List V) (Q : VK) (E : XK), Room k (A.deeper (envOfC qual (defScope st) s.heap.objs.size f cdv)) → sp vs H Q E →
      ∃ t, PSs (cxOf CX0 P w K mg base N qual (defScope st) f cdv A outer s H E).nox (defBody st) t ∧ t { nx := fun _ H' => Q .non H', rt := Q } (start N vs) H) : MClP P w K mg base CX0 (k + 1) C m ps dv sp := by
  obtain ⟨f, fd, M, F, b0, db⟩ := D.ex
  exact ⟨f, fd, M, b0, db, F.ok S len fun cdv A outer s H vs Q E hr h => by
    obtain ⟨t, h1, h2⟩ := body f cdv A outer s H vs Q E hr h
    exact ⟨t, h1.nox, h2⟩⟩
def spArrive (K : PySem.W.Frag) (T CN CB : Addr) : Sp := fun vs H Q _ => ∃ (n : Addr) (rv : V) (c : Int) (N : BnA) (s : Bd) (r : Rl) (ps : List Addr) (x : Str) (e : Nat), vs = [.ref n, .str x, .int e] ∧ BnAt CN CB K H n rv c N s r ps ∧ nameD (.str x) = true ∧ x.length ≤ 1000 ∧ TabG H T ∧ x ∉ s.ran.map (·.1) ∧ s.ran.length < 1000 ∧ ps.length < 1000 ∧
  ∀ (t : Addr) (At : BdA) (H' : Hp), BnAt CN CB K H' n rv c N (s.enter r x e) r (t :: ps) → Same (OffL (ftN n N) H) (OffL (ftN n N) H') → BdAt CB K (OffL (ftN n N) H') t rv c At s → (∀ z ∈ ftB t At, H z = none) → Q .non H'
theorem scArrive : FnScope ["self", "name", "entry"] ([("self" : Str), "name"] ++ [("entry" : Str)]) (defScope sBnArrive) := ⟨rfl, rfl, rfl, by decide +kernel, rfl, by decide +kernel, by decide +kernel⟩
theorem ok_arrive {T : Addr} (D : MDfK K CN "arrive" "Bench.arrive" sBnArrive ["self", "name"] "entry" (.int 0)) (TN : BnC K CN) (TB : BdC K CB) (NA : Cl P w K mg base CX0 1 "is_name" ["value"] (spName K T)) (CP : MCl P w K mg base CX0 3 CB "copied" ["self"] (spCopied K CB)) (EN : MCl P w K mg base CX0 1 CB "enter" ["self", "name", "entry"] (spEnter K CB)) :
    MClK P w K mg base CX0 4 CN "arrive" ["self", "name"] "entry" (.int 0) (spArrive K T CN CB) := by
  refine mclK0 D scArrive (fun vs H Q E h => ?_) (fun f cdv Ar outer s0 H vs Q E hr h => ?_)
  · obtain ⟨n, rv, c, N, s, r, ps, x, e, rfl, _⟩ := h
    rfl
  · obtain ⟨n, rv, c, N, s, r, ps, x, e, rfl, B, hn, x1, tg, nx, small, plen, k⟩ := h
    obtain ⟨fC, fdC, MC, bC, FC⟩ := CP.ex
    obtain ⟨fE, fdE, ME, bE, FE⟩ := EN.ex
    refine ⟨_, pss_cons (ps_if (PW.pt (pw_or (pt_not (pt_val (pc NA hr (by decide) (pa_cons (pv 1) pa_nil)))) (pw_or1 (pt_cmp (pc_din (hu_of hr) (pv 1) (pe_fld (pe_fld (pv 0) rfl) rfl)))))) (pss_one ps_never) pss_nil)
      (pss_cons (ps_expr (pe_bm PySem.F.plainAttrs_list PySem.F.slot_list_append PySem.F.type_list_append mt_append (pe_fld (pv 0) rfl) (pa_cons (pe_meth0 (pe_fld (pv 0) rfl) TB.cl MC FC hr bC .nil pass0) pa_nil)))
      (pss_one (ps_expr (pe_meth (pe_fld (pv 0) rfl) TB.cl ME FE (hr.mono (by decide)) bE .nil pass0 (pa_cons (pv 1) (pa_cons (pv 2) pa_nil)))))), ?_⟩
    refine ⟨_, rfl, _, .str x, rfl, .str x, x1, tg, fun H1 s1 => ?_⟩
    refine ⟨_, rfl, ?_⟩
    rw [hn]
    refine iteF ?_
    have B1 := B.same s1
    refine ⟨_, rfl, _, rfl, n, CN, N.dn, _, _, rfl, B1.ob, TN.cl, TN.nB, nf_board, N.b, CB, N.A.dx, _, _, rfl, B1.bd.ob, TB.cl, TB.nA, bf_ran, N.A.n, none, rfl, ?_, _, rfl, ?_⟩
    · have z := DGet.k (k := (.inr x : Key)) B1.bd.ran
      rw [valS, lookS_none nx] at z
      exact z
    refine iteF ?_
    refine ⟨_, rfl, n, CN, N.dn, _, _, rfl, B1.ob, TN.cl, TN.nP, nf_past, .inl ⟨rfl, _, SqL.of B1.past⟩, _, rfl, n, CN, N.dn, _, _, rfl, B1.ob, TN.cl, TN.nB, nf_board, N.b, N.A.dx, _, rfl, B1.bd.ob, by kernel_rfl, N.b, rv, c, N.A, s, r, rfl, B1.bdR, fun t At H2 Bt s2 fr => ?_⟩
    obtain ⟨B2, S2, P2⟩ := B1.push s2 Bt fr
    refine ⟨N.p, _, .ref t, rfl, rfl, s2.at B1.past, ?_, ?_⟩
    · rw [List.length_reverse, List.length_map]
      exact Nat.lt_trans plen (by decide)
    generalize upd H2 N.p (.lst ((ps.map V.ref).reverse ++ [V.ref t])) = G2 at B2 S2 P2 ⊢
    refine ⟨_, rfl, n, CN, N.dn, _, _, rfl, B2.ob, TN.cl, TN.nB, nf_board, N.b, N.A.dx, _, rfl, B2.bd.ob, by kernel_rfl, _, rfl, _, rfl, N.b, rv, c, N.A, s, r, x, e, rfl, B2.bdR, nx, small, fun H3 B3 S3 => ?_⟩
    obtain ⟨B4, S4⟩ := B2.step S3 B3 (B2.ok.enter nx small) (by rw [B2.lev]; exact (List.length_set).symm)
    exact k t At H3 B4 ((offL_mono s1).trans (S2.trans S4)) (P2.same S4) (fun z hz => s1.free (fr z hz))
/-- the running ones, by name -/
def spBRun (K : PySem.W.Frag) (CN CB : Addr) : Sp := fun vs H Q _ => ∃ (n : Addr) (rv : V) (c : Int) (N : BnA) (s : Bd) (r : Rl) (ps : List Addr), vs = [.ref n] ∧ BnAt CN CB K H n rv c N s r ps ∧ 0 ≤ c ∧ ∀ (D : Addr) (H' : Hp), H D = none → Same H H' → H' D = some (.tup ((s.run c).map V.str)) → Q (.ref D) H'
theorem scBRun : FnScope ["self"] ["self"] (defScope sBnRunning) := ⟨rfl, rfl, rfl, by decide +kernel, rfl, by decide +kernel, by decide +kernel⟩
theorem ok_brun (D : MDf K CN "running" "Bench.running" sBnRunning ["self"]) (TN : BnC K CN) (TB : BdC K CB) (RU : MCl P w K mg base CX0 2 CB "running" ["self"] (spRun K CB)) : MCl P w K mg base CX0 3 CN "running" ["self"] (spBRun K CN CB) := by
  refine mcl0 D scBRun (fun vs H Q E h => ?_) (fun f cdv Ar outer s0 H vs Q E hr h => ?_)
  · obtain ⟨n, rv, c, N, s, r, ps, rfl, _⟩ := h
    rfl
  · obtain ⟨n, rv, c, N, s, r, ps, rfl, B, c0, k⟩ := h
    obtain ⟨fR, fdR, MR, bR, FR⟩ := RU.ex
    refine ⟨_, pss_one (ps_ret (pe_meth0 (pe_fld (pv 0) rfl) TB.cl MR FR hr bR .nil pass0)), ?_⟩
    exact ⟨_, rfl, n, CN, N.dn, _, _, rfl, B.ob, TN.cl, TN.nB, nf_board, N.b, N.A.dx, _, rfl, B.bd.ob, by kernel_rfl, N.b, rv, c, N.A, s, rfl, B.bd, B.ok.toOk0, c0, k⟩
def spMoment (K : PySem.W.Frag) (CN CB : Addr) : Sp := fun vs H Q _ => ∃ (n : Addr) (rv : V) (c : Int) (N : BnA) (s : Bd) (r : Rl) (ps : List Addr), vs = [.ref n] ∧ BnAt CN CB K H n rv c N s r ps ∧ Q (.int s.now) H
theorem scMoment : FnScope ["self"] ["self"] (defScope sBnMoment) := ⟨rfl, rfl, rfl, by decide +kernel, rfl, by decide +kernel, by decide +kernel⟩
theorem ok_moment (D : MDf K CN "moment" "Bench.moment" sBnMoment ["self"]) (TN : BnC K CN) (TB : BdC K CB) : MCl P w K mg base CX0 1 CN "moment" ["self"] (spMoment K CN CB) := by
  refine mcl0 D scMoment (fun vs H Q E h => ?_) (fun f cdv Ar outer s0 H vs Q E hr h => ?_)
  · obtain ⟨n, rv, c, N, s, r, ps, rfl, _⟩ := h
    rfl
  · obtain ⟨n, rv, c, N, s, r, ps, rfl, B, k⟩ := h
    refine ⟨_, pss_one (ps_ret (pe_fld (pe_fld (pv 0) rfl) rfl)), ?_⟩
    exact ⟨_, rfl, n, CN, N.dn, _, _, rfl, B.ob, TN.cl, TN.nB, nf_board, N.b, CB, N.A.dx, _, _, rfl, B.bd.ob, TB.cl, TB.nN, bf_now, k⟩
def spBLog (K : PySem.W.Frag) (CN CB : Addr) : Sp := fun vs H Q _ => ∃ (n : Addr) (rv : V) (c : Int) (N : BnA) (s : Bd) (r : Rl) (ps : List Addr), vs = [.ref n] ∧ BnAt CN CB K H n rv c N s r ps ∧ ∀ (t : Addr) (H' : Hp), Same H H' → Dp K H' (.ref t) (.tuple (logD s)) → Q (.ref t) H'
theorem scBLog : FnScope ["self"] ["self"] (defScope sBnLog) := ⟨rfl, rfl, rfl, by decide +kernel, rfl, by decide +kernel, by decide +kernel⟩
theorem ok_blog (D : MDf K CN "log" "Bench.log" sBnLog ["self"]) (TN : BnC K CN) (TB : BdC K CB) (LO : MCl P w K mg base CX0 1 CB "log" ["self"] (spLogB K CB)) : MCl P w K mg base CX0 2 CN "log" ["self"] (spBLog K CN CB) := by
  refine mcl0 D scBLog (fun vs H Q E h => ?_) (fun f cdv Ar outer s0 H vs Q E hr h => ?_)
  · obtain ⟨n, rv, c, N, s, r, ps, rfl, _⟩ := h
    rfl
  · obtain ⟨n, rv, c, N, s, r, ps, rfl, B, k⟩ := h
    obtain ⟨fR, fdR, MR, bR, FR⟩ := LO.ex
    refine ⟨_, pss_one (ps_ret (pe_meth0 (pe_fld (pv 0) rfl) TB.cl MR FR hr bR .nil pass0)), ?_⟩
    exact ⟨_, rfl, n, CN, N.dn, _, _, rfl, B.ob, TN.cl, TN.nB, nf_board, N.b, N.A.dx, _, rfl, B.bd.ob, by kernel_rfl, N.b, rv, c, N.A, s, rfl, B.bd, B.ok, k⟩
def spBLens (K : PySem.W.Frag) (CN CB : Addr) : Sp := fun vs H Q _ => ∃ (n : Addr) (rv : V) (c : Int) (N : BnA) (s : Bd) (r : Rl) (ps : List Addr), vs = [.ref n] ∧ BnAt CN CB K H n rv c N s r ps ∧ ∀ (t : Addr) (H' : Hp), H t = none → Same H H' → H' t = some (.dK (kvS (lensS s))) → Q (.ref t) H'
theorem scBLens : FnScope ["self"] ["self"] (defScope sBnLengths) := ⟨rfl, rfl, rfl, by decide +kernel, rfl, by decide +kernel, by decide +kernel⟩
theorem ok_blens (D : MDf K CN "lengths" "Bench.lengths" sBnLengths ["self"]) (TN : BnC K CN) (TB : BdC K CB) (LE : MCl P w K mg base CX0 1 CB "lengths" ["self"] (spLens K CB)) : MCl P w K mg base CX0 2 CN "lengths" ["self"] (spBLens K CN CB) := by
  refine mcl0 D scBLens (fun vs H Q E h => ?_) (fun f cdv Ar outer s0 H vs Q E hr h => ?_)
  · obtain ⟨n, rv, c, N, s, r, ps, rfl, _⟩ := h
    rfl
  · obtain ⟨n, rv, c, N, s, r, ps, rfl, B, k⟩ := h
    obtain ⟨fR, fdR, MR, bR, FR⟩ := LE.ex
    refine ⟨_, pss_one (ps_ret (pe_meth0 (pe_fld (pv 0) rfl) TB.cl MR FR hr bR .nil pass0)), ?_⟩
    exact ⟨_, rfl, n, CN, N.dn, _, _, rfl, B.ob, TN.cl, TN.nB, nf_board, N.b, N.A.dx, _, rfl, B.bd.ob, by kernel_rfl, N.b, rv, c, N.A, s, rfl, B.bd, B.ok, k⟩
end
end Vk
set_option maxHeartbeats 8000000
/-! the state of a bench -/
namespace Vk
open PySem PySem.Spec PyProof.Rows L2 GxR
def jobD3 (s : Bd) (x : Str) : PyData := .tuple [.str x, .int (getS s.used x), .int (getS s.ran x)]
def lineD3 (s : Bd) (l : List Str) : PyData := .tuple (l.map (jobD3 s))
def stateD (s : Bd) : PyData := .tuple (s.lines.map (lineD3 s))
theorem off_commB {a b : Addr} {H : Hp} : Off a (Off b H) = Off b (Off a H) := by
  funext x
  unfold Off
  split <;> split <;> rfl
def rTupC (K : PySem.W.Frag) : List V → Hp → VK → Prop := fun xs H Q => ∃ p ys, xs = [.ref p] ∧ ((SqL K H p ys ∧ ∀ l, H l = none → Q (.ref l) (upd H l (.tup ys))) ∨ (SqT K H p ys ∧ Q (.ref p) H))
section
variable {P : Program} {w : World} {K : PySem.W.Frag} {mg : Str → Option Value} {base : Heap} {CN CB : Addr}
def spState (K : PySem.W.Frag) (CN CB : Addr) : Sp := fun vs H Q _ => ∃ (n : Addr) (rv : V) (c : Int) (N : BnA) (s : Bd) (r : Rl) (ps : List Addr), vs = [.ref n] ∧ BnAt CN CB K H n rv c N s r ps ∧ ∀ (t : Addr) (H' : Hp), Same H H' → Dp K H' (.ref t) (stateD s) → Q (.ref t) H'
theorem scState : FnScope ["self", "board", "line", "name"] ["self"] (defScope sBnState) := ⟨rfl, rfl, rfl, by decide +kernel, rfl, by decide +kernel, by decide +kernel⟩
theorem ok_state (D : MDf K CN "state" "Bench.state" sBnState ["self"]) (TN : BnC K CN) (TB : BdC K CB) (mt : mg "tuple" = none) : MCl P w K mg base CX0 1 CN "state" ["self"] (spState K CN CB) := by
  refine mcl0 D scState (fun vs H Q E h => ?_) (fun f cdv Ar outer s0 H vs Q E hr h => ?_)
  · obtain ⟨n, rv, c, N, s, r, ps, rfl, _⟩ := h
    rfl
  · obtain ⟨n, rv, c, N, s, r, ps, rfl, B, k⟩ := h
    refine ⟨_, pss_cons (ps_set (i := 1) scState.nd rfl (Or.inr rfl) (pe_fld (pv 0) rfl))
      (pss_one (ps_ret (pe_callTy call_tuple_of (by rfl) mt (by decide +kernel) (pa_cons
        (pe_lc (own := [("line", 2)]) (g := gName 2) (tt := tYes) (te := tCB (rTupC K) (tCons (tLc (iList K (tVar 2)) (gName 3) tYes (tTup (tCons (tVar 3) (tCons (tDGet (tFld K (tVar 1) "used") (tVar 3)) (tCons (tDGet (tFld K (tVar 1) "ran") (tVar 3)) tNil)))) [3]) tNil)) (by rfl) scState.nd (pi_list (pe_fld (pv 1) rfl))
          (blkOk_by (own := [("line", 2)]) (N := ["self", "board", "line", "name"]) (sc := defScope sBnState) (by decide +kernel)) (fun _ _ _ _ _ => pg_name (i := 2) scState.nd rfl (Or.inl rfl)) (fun _ _ _ _ _ => pts_nil)
          (fun _ _ _ _ _ => pe_callTy call_tuple_of (by rfl) mt (by decide +kernel) (pa_cons
            (pe_lc (own := [("name", 3)]) (g := gName 3) (tt := tYes) (te := tTup (tCons (tVar 3) (tCons (tDGet (tFld K (tVar 1) "used") (tVar 3)) (tCons (tDGet (tFld K (tVar 1) "ran") (tVar 3)) tNil)))) (by rfl) scState.nd (pi_list (pv 2))
              (blkOk_by (own := [("name", 3)]) (N := ["self", "board", "line", "name"]) (sc := { kind := .function, names := [(".0", .local), ("line", .local), ("tuple", .globalImplicit), ("board", .cell)], isGenerator := false, isCoroutine := false }) (by decide +kernel)) (fun _ _ _ _ _ => pg_name (i := 3) scState.nd rfl (Or.inl rfl)) (fun _ _ _ _ _ => pts_nil)
              (fun _ _ _ _ _ => pe_tup (pa_cons (pv 3) (pa_cons (pe_dget (hu_of hr) (pe_fld (pv 1) rfl) (pv 3) (fun _ _ => rfl)) (pa_cons (pe_dget (hu_of hr) (pe_fld (pv 1) rfl) (pv 3) (fun _ _ => rfl)) pa_nil))))) pa_nil))) pa_nil)))), ?_⟩
    have bd := B.bd
    have ok := B.ok
    have l6 := ok.lines6
    refine ⟨_, rfl, n, CN, N.dn, _, _, rfl, B.ob, TN.cl, TN.nB, nf_board, ?_⟩
    refine ⟨_, rfl, N.b, CB, N.A.dx, _, _, rfl, bd.ob, TB.cl, TB.nL, bf_lines, N.A.L, rfl, ⟨_, SqL.of bd.lines⟩, fun D2 nD2 => ?_⟩
    refine lc_it (walk_list (K := K) (a := N.A.L) (xs := N.A.ls.map V.ref)) (fun i Hc => ∃ vs, Hc D2 = some (.lst vs) ∧ vs.length = i ∧ DpAll K (Off D2 Hc) vs ((s.lines.take i).map (lineD3 s)) ∧ Same H (Off D2 Hc)) ⟨[], upd_same, rfl, .nil, off_newB nD2⟩ (fun i Hc _ ⟨_, _, _, _, sc⟩ => SqL.of ((sc.trans (off_sub D2 Hc)).at bd.lines)) ?_ ?_
    · rintro i y Hc0 Hc hi ⟨vs, hD2, lvs, dvs, sc⟩ ⟨rfl, hy⟩
      rw [List.getElem?_map] at hy
      obtain ⟨l, hl, rfl⟩ := Option.map_eq_some_iff.mp hy
      have li : i < s.lines.length := by rw [← bd.len]; exact (List.getElem?_eq_some_iff.mp hl).1
      have hns : s.lines[i]? = some s.lines[i] := List.getElem?_eq_getElem li
      generalize s.lines[i] = ns at hns
      have hln := bd.line i l ns hl hns
      have nle := ok.line_le hns
      have sH := sc.trans (off_sub D2 Hc)
      refine ⟨rfl, _, rfl, l, rfl, ⟨_, SqL.of (sH.at hln)⟩, fun D3 nD3 => ?_⟩
      have D32 : D3 ≠ D2 := fun e => by rw [e, hD2] at nD3; cases nD3
      have s00 : Same (Off D2 Hc) (Off D3 (Off D2 (upd Hc D3 (.lst [])))) := by
        rw [off_other D32]
        exact off_newB (by rw [off_ne D32]; exact nD3)
      refine lc_it (walk_list (K := K) (a := l) (xs := ns.map V.str)) (fun j Hd => ∃ ws, Hd D3 = some (.lst ws) ∧ ws.length = j ∧ Hd D2 = some (.lst vs) ∧ DpAll K (Off D3 (Off D2 Hd)) ws ((ns.take j).map (jobD3 s)) ∧ Same (Off D2 Hc) (Off D3 (Off D2 Hd)))
        ⟨[], upd_same, rfl, by rw [upd_ne (Ne.symm D32)]; exact hD2, .nil, s00⟩ (fun j Hd _ ⟨_, _, _, _, _, sd⟩ => SqL.of ((sc.trans (sd.trans ((off_sub D3 _).trans (off_sub D2 Hd)))).at hln)) ?_ ?_
      · rintro j z Hd0 Hd hj ⟨ws, hD3, lws, hD2', dws, sd⟩ ⟨rfl, hz⟩
        rw [List.getElem?_map] at hz
        obtain ⟨x, hx, rfl⟩ := Option.map_eq_some_iff.mp hz
        have sN := sc.trans (sd.trans ((off_sub D3 _).trans (off_sub D2 Hd)))
        have xo : x ∈ s.order := List.mem_flatten.mpr ⟨ns, List.mem_of_getElem? hns, List.mem_of_getElem? hx⟩
        have xu := (ok.here x).mpr xo
        have xr := ok.sub x xo
        have hjn : j < ns.length := (List.getElem?_eq_some_iff.mp hx).1
        refine ⟨rfl, _, rfl, _, rfl, N.b, CB, N.A.dx, _, _, rfl, sN.at bd.ob, TB.cl, TB.nU, bf_used, _, rfl, N.A.u, .int (getS s.used x), rfl, ?_, _, rfl, N.b, CB, N.A.dx, _, _, rfl, sN.at bd.ob, TB.cl, TB.nA, bf_ran, _, rfl, N.A.n, .int (getS s.ran x), rfl, ?_, ?_, fun q nq => ?_⟩
        · have z := DGet.k (k := (.inr x : Key)) (sN.at bd.used)
          rw [valS, lookS xu] at z
          exact z
        · have z := DGet.k (k := (.inr x : Key)) (sN.at bd.ran)
          rw [valS, lookS xr] at z
          exact z
        · show 3 ≤ sizeLine
          decide
        have sq := same_new (o := .tup [V.str x, .int (getS s.used x), .int (getS s.ran x)]) nq
        have q3 : q ≠ D3 := fun e => by rw [e, hD3] at nq; cases nq
        have q2 : q ≠ D2 := fun e => by rw [e, hD2'] at nq; cases nq
        have sqq := off_mono (a := D3) (off_mono (a := D2) sq)
        refine ⟨ws, sq.at hD3, ?_, ws ++ [.ref q], upd_same, by rw [List.length_append, lws]; rfl, by rw [upd_ne (Ne.symm D32)]; exact sq.at hD2', ?_, ?_⟩
        · rw [lws]
          exact Nat.lt_of_le_of_lt (show j ≤ 1000 by omega) (by decide)
        · rw [off_other D32, off_upd, List.take_add_one, hx, List.map_append]
          refine dps_app (dps_same sqq dws) (.cons (.tup (SqT.of ?_) (.cons (.str _) (.cons (.int _) (.cons (.int _) .nil)))) .nil)
          rw [off_ne q3, off_ne q2, upd_same]
        · rw [off_other D32, off_upd]
          exact sd.trans sqq
      · rintro Hd ⟨ws, hD3, lws, hD2', dws, sd⟩
        rw [List.length_map, List.take_length] at dws
        refine ⟨D3, ws, rfl, .inl ⟨SqL.of hD3, fun t nt => ?_⟩⟩
        have st := same_new (o := .tup ws) nt
        have t2 : t ≠ D2 := fun e => by rw [e, hD2'] at nt; cases nt
        have sOff : Same (Off D2 Hc) (Off D2 (upd Hd t (.tup ws))) := (sd.trans (off_sub D3 _)).trans (off_mono (a := D2) st)
        refine ⟨vs, st.at hD2', ?_, vs ++ [.ref t], upd_same, by rw [List.length_append, lvs]; rfl, ?_, ?_⟩
        · rw [lvs]
          exact Nat.lt_of_le_of_lt (show i ≤ 1000 by omega) (by decide)
        · rw [off_upd, List.take_add_one, hns, List.map_append]
          refine dps_app (dps_same sOff dvs) (.cons (.tup (SqT.of ?_) (dps_same ((off_sub D3 _).trans (off_mono (a := D2) st)) dws)) .nil)
          rw [off_ne t2, upd_same]
        · rw [off_upd]
          exact sc.trans sOff
    · rintro Hc ⟨vs, hD2, lvs, dvs, sc⟩
      rw [List.length_map, bd.len, List.take_length] at dvs
      refine ⟨D2, vs, rfl, .inl ⟨SqL.of hD2, fun t nt => ?_⟩⟩
      have st := same_new (o := .tup vs) nt
      exact k t _ ((sc.trans (off_sub D2 Hc)).trans st) (.tup (SqT.of upd_same) (dps_same ((off_sub D2 Hc).trans st) dvs))
end
end Vk
set_option maxHeartbeats 8000000
/-! a unit of a bench; a new bench -/
namespace Vk
open PySem PySem.Spec PyProof.Rows L2 GxR
theorem nd_take {α : Type} {l : List α} {i : Nat} {x : α} (nd : l.Nodup) (h : l[i]? = some x) : x ∉ l.take i := by
  obtain ⟨j1, j2⟩ := List.getElem?_eq_some_iff.mp h
  intro m
  rw [← List.take_append_drop i l, List.drop_eq_getElem_cons j1, j2] at nd
  exact (List.nodup_append.mp nd).2.2 _ m _ (List.mem_cons_self ..) rfl
section
variable {P : Program} {w : World} {K : PySem.W.Frag} {mg : Str → Option Value} {base : Heap} {CN CB : Addr}
def spEnd (K : PySem.W.Frag) (CN CB : Addr) : Sp := fun vs H Q _ => ∃ (n : Addr) (rv : V) (c : Int) (N : BnA) (s : Bd) (r : Rl) (ps : List Addr) (fa : Addr) (fin : List Str), vs = [.ref n, .ref fa] ∧ BnAt CN CB K H n rv c N s r ps ∧ 0 ≤ c ∧ SqT K (OffL (ftN n N) H) fa (fin.map V.str) ∧ fin.Nodup ∧ (∀ x ∈ fin, x ∈ s.run c) ∧
  ps.length < 1000 ∧ s.fins.length < 100000 ∧ (∀ q, r.boost = some q → q ≠ 0) ∧
  ∀ (t : Addr) (At A' : BdA) (D : Addr) (H' : Hp), BnAt CN CB K H' n rv c { N with A := A' } (s.endUnits r c 1 fin) r (t :: ps) → Same (OffL (ftN n N) H) (OffL (ftN n { N with A := A' }) H') → OffL (ftN n { N with A := A' }) H' D = some (.tup ((s.run c).map V.str)) → BdAt CB K (OffL (ftN n { N with A := A' }) H') t rv c At s → (∀ z ∈ ftB t At, H z = none) → Q (.ref D) H'
theorem scEnd : FnScope ["self", "finishing", "running", "place", "name"] ["self", "finishing"] (defScope sBnEnd) := ⟨rfl, rfl, rfl, by decide +kernel, rfl, by decide +kernel, by decide +kernel⟩
theorem ok_end {dv : V} (D : MDfP K CN "end_unit" "Bench.end_unit" sBnEnd ["self", "finishing"] dv) (TN : BnC K CN) (TB : BdC K CB) (B0 : Blt mg) (RU : MCl P w K mg base CX0 2 CB "running" ["self"] (spRun K CB)) (CP : MCl P w K mg base CX0 3 CB "copied" ["self"] (spCopied K CB)) (EU : MCl P w K mg base CX0 3 CB "end_units" ["self", "units", "finishing"] (spUnits K CB)) :
    MClP P w K mg base CX0 4 CN "end_unit" ["self", "finishing"] dv (spEnd K CN CB) := by
  refine mclP0 D scEnd (fun vs H Q E h => ?_) (fun f cdv Ar outer s0 H vs Q E hr h => ?_)
  · obtain ⟨n, rv, c, N, s, r, ps, fa, fin, rfl, _⟩ := h
    rfl
  · obtain ⟨n, rv, c, N, s, r, ps, fa, fin, rfl, B, c0, hfa, fnd, frun, plen, flen, bq, k⟩ := h
    obtain ⟨fR, fdR, MR, bR, FR⟩ := RU.ex
    obtain ⟨fC, fdC, MC, bC, FC⟩ := CP.ex
    obtain ⟨fE, fdE, ME, bE, FE⟩ := EU.ex
    refine ⟨_, pss_cons (ps_set (i := 2) scEnd.nd rfl (Or.inl rfl) (pe_meth0 (pe_fld (pv 0) rfl) TB.cl MR FR (hr.mono (by decide)) bR .nil pass0))
      (pss_cons (ps_for PassesOwn.never rfl (pi_enumT B0.enum (pa_cons (pv 1) pa_nil)) (pg_tup rfl (pgs_cons (pg_name (i := 3) scEnd.nd rfl (.inl rfl)) (pgs_cons (pg_name (i := 4) scEnd.nd rfl (.inl rfl)) pgs_nil)))
        (pss_one (ps_if (PW.pt (pw_or (pt_cmpR op_notIn_seq (pv 4) (pv 2) (by rfl)) (pw_or1 (pt_cmpR op_in_seq (pv 4) (pe_slice sl_tupA (pv 1) po_none (po_some (pv 3))) (by rfl))))) (pss_one ps_never) pss_nil)))
      (pss_cons (ps_expr (pe_bm PySem.F.plainAttrs_list PySem.F.slot_list_append PySem.F.type_list_append mt_append (pe_fld (pv 0) rfl) (pa_cons (pe_meth0 (pe_fld (pv 0) rfl) TB.cl MC FC hr bC .nil pass0) pa_nil)))
      (pss_cons (ps_expr (pe_meth (pe_fld (pv 0) rfl) TB.cl ME FE hr bE .nil pass0 (pa_cons pe_int (pa_cons (pv 1) pa_nil))))
      (pss_one (ps_ret (pv 2)))))), ?_⟩
    have ok := B.ok
    have rle := Bd.run_le ok.toOk0 (c := c)
    have fle : fin.length ≤ 1000 := Nat.le_trans (nd_len fnd frun) rle
    refine ⟨_, rfl, n, CN, N.dn, _, _, rfl, B.ob, TN.cl, TN.nB, nf_board, N.b, N.A.dx, _, rfl, B.bd.ob, by kernel_rfl, N.b, rv, c, N.A, s, rfl, B.bd, ok.toOk0, c0, fun D H1 nD s1 hD => ?_⟩
    have B1 := B.same s1
    have S1 := offL_mono (ft := ftN n N) s1
    have here : ∀ z ∈ ftN n N, H z ≠ none := fun z hz => by
      simp only [ftN, List.mem_cons] at hz
      rcases hz with rfl | rfl | h
      · rw [B.ob]; simp
      · rw [B.past]; simp
      · exact B.bd.here h
    have hD1 : OffL (ftN n N) H1 D = some (.tup ((s.run c).map V.str)) := by
      rw [offL_out (fun m => here D m nD)]
      exact hD
    have hfa1 := same_seqT S1 hfa
    refine ⟨_, rfl, fa, fin.map V.str, rfl, same_seqT (offL_sub _ H1) hfa1, ?_⟩
    refine for_it (D := { nx := _, rt := _ }) (walk_enumT (K := K) (a := fa) (xs := fin.map V.str)) (fun i σ G => ∃ (u3 u4 : Option V), σ = [some (.ref n), some (.ref fa), some (.ref D), u3, u4] ∧ Same H1 G)
      ⟨none, none, rfl, Same.refl _⟩ (fun i σ G _ ⟨_, _, _, sG⟩ => same_seqT ((offL_sub _ H1).trans sG) hfa1) ?_ ?_
    · rintro i v1 σ G0 G hi ⟨u3, u4, rfl, sG⟩ ⟨TT, x1, y1, rfl, nT, rfl, ex, ey⟩
      cases ex
      replace ey : (fin.map V.str)[i]? = some y1 := ey
      rw [List.getElem?_map] at ey
      obtain ⟨x, hx, rfl⟩ := Option.map_eq_some_iff.mp ey
      have sT := same_new (o := .tup [V.int (i : Nat), V.str x]) nT
      have hi' : i < fin.length := by rw [List.length_map] at hi; exact hi
      refine ⟨TT, _, rfl, SqT.of upd_same, rfl, _, _, rfl, _, _, rfl, rfl, ?_⟩
      refine ⟨_, rfl, _, rfl, D, _, rfl, .inr (SqT.of ((sG.trans sT).at hD)), rfl, all_flatS _, _, rfl, ?_⟩
      rw [if_pos rfl, inV_S, decide_eq_true (frun x (List.mem_of_getElem? hx))]
      refine iteF ?_
      refine ⟨_, rfl, _, rfl, ?_⟩
      dsimp only [tNoPart]
      refine ⟨_, rfl, _, rfl, fa, _, rfl, same_seqT ((offL_sub _ H1).trans (sG.trans sT)) hfa1, fun z => ?_, fun _ p np => ?_⟩
      · have z2 := z.2
        rw [HT.sIx_nat, List.length_map] at z2
        omega
      · rw [cut_take (by omega)]
        refine ⟨p, _, rfl, .inr (SqT.of upd_same), rfl, ?_, _, rfl, ?_⟩
        · rw [← List.map_take]
          exact all_flatS _
        · rw [if_neg Bool.false_ne_true, ← List.map_take, inV_S, Int.toNat_natCast, decide_eq_false (nd_take fnd hx)]
          refine iteF ?_
          exact ⟨_, _, rfl, sG.trans (sT.trans (same_new np))⟩
    rintro σ G ⟨u3, u4, rfl, sG⟩
    have B2 := B1.same sG
    have S2 := S1.trans (offL_mono (ft := ftN n N) sG)
    have hD2 := (offL_mono (ft := ftN n N) sG).at hD1
    refine ⟨_, rfl, n, CN, N.dn, _, _, rfl, B2.ob, TN.cl, TN.nP, nf_past, .inl ⟨rfl, _, SqL.of B2.past⟩, _, rfl, n, CN, N.dn, _, _, rfl, B2.ob, TN.cl, TN.nB, nf_board, N.b, N.A.dx, _, rfl, B2.bd.ob, by kernel_rfl, N.b, rv, c, N.A, s, r, rfl, B2.bdR, fun t At H3 Bt s3 fr => ?_⟩
    obtain ⟨B3, S3, P3⟩ := B2.push s3 Bt fr
    refine ⟨N.p, _, .ref t, rfl, rfl, s3.at B2.past, ?_, ?_⟩
    · rw [List.length_reverse, List.length_map]
      exact Nat.lt_trans plen (by decide)
    generalize upd H3 N.p (.lst ((ps.map V.ref).reverse ++ [V.ref t])) = G3 at B3 S3 P3 ⊢
    have S23 := S2.trans S3
    refine ⟨_, rfl, n, CN, N.dn, _, _, rfl, B3.ob, TN.cl, TN.nB, nf_board, N.b, N.A.dx, _, rfl, B3.bd.ob, by kernel_rfl, _, rfl, N.b, rv, c, N.A, s, r, 1, fa, fin, rfl, B3.bdR, c0, same_seqT ((offL_swap fun x hx => .inl (by simp [ftN, hx])).trans (Same.refl _)) (same_seqT S23 hfa), flen, bq, fun A' H4 B4 S4 => ?_⟩
    obtain ⟨B5, S5⟩ := B3.step S4 B4 (ok.units c 1 fin flen) (by rw [B.lev]; exact (Bd.units_after ok.toOk0 c 1 fin).len.symm)
    exact ⟨_, rfl, k t At A' D H4 B5 (S23.trans S5) (S5.at (S3.at hD2)) (P3.same S5) (fun z hz => (s1.trans sG).free (fr z hz))⟩
end
end Vk
set_option maxHeartbeats 4000000
/-! raise X(e), X an own error whose __init__ keeps one field -/
namespace Vk
open PySem PySem.Spec PyProof.Rows L2
def spIni (C : Addr) (fld : Str) : Sp := fun vs H Q _ => ∃ (a : Addr) (v : V), vs = [.ref a, v] ∧ H a = some (exo a C none) ∧ ∀ dx, H dx = none → dx ≠ a → Q .non (upd (upd H dx (exd dx [(fld, v)])) a (exo a C (some dx)))
structure ErC (P : Program) (w : World) (K : PySem.W.Frag) (mg : Str → Option Value) (base : Heap) (x fld : Str) (C : Addr) : Prop where
  gC : mg x = some (.ref C)
  oex : OexC K C
  ini : ∃ (fI : Addr) (fd : FuncData), PySem.W.findIn K (.ref C) "__init__" = some (some (.ref fI)) ∧ PySem.W.typeIn K (.ref fI) = some (.type "function") ∧ Binds K fd ["self", fld] [] ∧ FnOk P w K mg base CX0 1 fI fd ["self", fld] (spIni C fld)
def tRaiseE (C : Addr) (fld : Str) (W : WX) (te : TE) : TS := fun _ σ H => tMkO C (spIni C fld) [] (tCons te tNil) σ H fun cls d H' => W cls d σ H'
theorem put_del {H : Hp} {a d : Addr} {o u v x : HO} (ha : H a = none) (hd : H d = none) (ne : d ≠ a) : Same H (upd (del (upd (upd (upd H a o) d u) a v) a) d x) := .of fun b y e => by
  have nb : b ≠ a := ne_of_none e ha
  rw [upd_ne (ne_of_none e hd), del_ne nb, upd_ne nb, upd_ne (ne_of_none e hd), upd_ne nb]
  exact e
section
variable {X : Cx} {x fld : Str} {C : Addr} {W : WX} {e : Expr} {te : TE} {p pos pos2 : Pos} {k : Nat}
theorem ps_raiseE (T : ErC X.prog X.w X.K X.mg X.base x fld C) (hc : X.calm = true) (hr : Room k X.A) (hk : 2 ≤ k) (tk : Takes X W) (he : PE X e te) (hg : Gl X x := by rfl) (hdb : (x == ("__debug__" : Str)) = false := by decide)
    (hs : starEach (e :: []) X.env = (false, eval e X.env) :: starEach [] X.env := by rfl) (hpl : (backTo pos (starEach [] X.env)).any (·.1) = false := by rfl) :
    PS X (.Raise (some (.Call (.Name x p) [e] [] pos)) none pos2) (tRaiseE C fld W te) := by
  obtain ⟨fI, fd, h1, h2, h3, h4⟩ := T.ini
  have big := ps_raise (pos := pos2) hc tk (pmk_oex (p := p) (pos := pos) (CX := CX0) (k := 1) T.oex h1 h2 h4 (hr.mono hk) h3 .nil pass0 hg T.gC (pa_cons he pa_nil hs) hdb hs hpl)
  exact big
end
theorem raise_go {C : Addr} {fld : Str} {v : V} {H1 : Hp} {R : XK} {E : XK} (h : ∀ (d : Addr) (H2 : Hp), Same H1 H2 → H1 d = none → H2 d = some (.xd [(fld, v)]) → R (.ref C) (some d) H2) :
    [v].length ≤ 1000 ∧ ∀ a, H1 a = none → spIni C fld (.ref a :: ([v] ++ [])) (upd H1 a (exo a C none)) (fun u H2 => u = .non ∧ ∃ (d : Addr) (fs : List (Str × V)), H2 a = some (exo a C (some d)) ∧ H2 d = some (exd d fs) ∧ H1 d = none ∧ R (.ref C) (some d) (upd (del H2 a) d (.xd fs))) E := by
  refine ⟨by simp, fun a na => ⟨a, v, rfl, upd_same, fun dx nx ne => ?_⟩⟩
  have n1 : H1 dx = none := by
    rw [upd_ne ne] at nx
    exact nx
  refine ⟨rfl, dx, [(fld, v)], upd_same, by rw [upd_ne ne, upd_same], n1, h dx _ (put_del na n1 ne) n1 upd_same⟩
/-! ### the __init__ -/
structure Nit (K : PySem.W.Frag) (x qual fld : Str) (st : Stmt) (C : Addr) : Prop where
  ex : ∃ (fI : Addr) (fd : FuncData), PySem.W.findIn K (.ref C) "__init__" = some (some (.ref fI)) ∧ PySem.W.typeIn K (.ref fI) = some (.type "function") ∧ Fun K "__init__" qual st fI fd ∧ Binds K fd ["self", fld] []
end Vk
set_option maxHeartbeats 4000000
namespace Vk
open PySem PySem.Spec PyProof.Rows L2
abbrev sRuleInit : Stmt := inClass (top 6) 0
section
variable {P : Program} {w : World} {K : PySem.W.Frag} {mg : Str → Option Value} {base : Heap}
theorem scRuleInit : FnScope ["self", "place"] ["self", "place"] (defScope sRuleInit) := ⟨rfl, rfl, rfl, by decide +kernel, rfl, by decide +kernel, by decide +kernel⟩
theorem ok_ruleInit {C fI : Addr} {fd : FuncData} (F : Fun K "__init__" "NoRule.__init__" sRuleInit fI fd) (T : OexC K C) (no : PySem.W.findIn K (.ref C) "place" = some none) : FnOk P w K mg base CX0 1 fI fd ["self", "place"] (spIni C "place") := by
  refine F.ok scRuleInit (fun vs H Q E h => ?_) (fun cdv A outer s H vs Q E hr h => ?_)
  · obtain ⟨a, v, rfl, _⟩ := h
    rfl
  · obtain ⟨a, v, rfl, ha, k⟩ := h
    refine ⟨_, pss_one (ps_ost (pv 0) (pv 1)), ?_⟩
    exact ⟨_, rfl, _, rfl, a, C, rfl, T, no, .inl ⟨ha, fun dx n1 n2 => k dx n1 n2⟩⟩
theorem erc_rule {C : Addr} (g : mg "NoRule" = some (.ref C)) (T : OexC K C) (no : PySem.W.findIn K (.ref C) "place" = some none) (N : Nit K "NoRule" "NoRule.__init__" "place" sRuleInit C) : ErC P w K mg base "NoRule" "place" C := by
  obtain ⟨fI, fd, h1, h2, h3, h4⟩ := N.ex
  exact ⟨g, T, fI, fd, h1, h2, h4, ok_ruleInit h3 T no⟩
end
end Vk
set_option maxHeartbeats 4000000
namespace Vk
open PySem PySem.Spec PyProof.Rows L2
/-- the place of the first fault of a rule -/
def rulePlace : PyData → Option Int
  | .tuple [.tuple ls, b] => if 1 ≤ ls.length ∧ ls.length ≤ 6 then (match ls.findIdx? (fun d => !levelD d) with
    | some i => some (i : Int)
    | none => if countD b = true then none else some (ls.length : Int)) else some 0
  | _ => some 0
def goodHeads : PyData → Bool
  | .tuple [.tuple ls, _] => ls.all headD
  | _ => true
theorem place_two {d : PyData} (h : tupleND 2 d = false) : rulePlace d = some 0 := by
  cases d with
  | tuple ds =>
    have z : ¬ (ds.length : Int) = 2 := of_decide_eq_false h
    match ds, z with
    | [a, b], z => exact absurd rfl z
    | [], _ => rfl
    | [_], _ => simp [rulePlace]
    | _ :: _ :: _ :: l, _ => simp [rulePlace]
  | _ => rfl
theorem place_tup {a b : PyData} (h : isTupD a = false) : rulePlace (.tuple [a, b]) = some 0 := by
  cases a with
  | tuple ds => cases h
  | _ => rfl
theorem bad_at {ls : List PyData} {i : Nat} {d : PyData} (h : ls[i]? = some d) (hd : levelD d = false) (ok : ∀ j < i, ∀ e, ls[j]? = some e → levelD e = true) : ls.findIdx? (fun d => !levelD d) = some i := by
  rw [List.findIdx?_eq_some_iff_getElem]
  obtain ⟨h1, h2⟩ := List.getElem?_eq_some_iff.mp h
  refine ⟨h1, by rw [h2, hd]; rfl, fun j hj => ?_⟩
  have z := ok j hj ls[j] (List.getElem?_eq_getElem (by omega))
  rw [z]
  decide
theorem bad_no {ls : List PyData} (ok : ∀ j < ls.length, ∀ e, ls[j]? = some e → levelD e = true) : ls.findIdx? (fun d => !levelD d) = none := by
  rw [List.findIdx?_eq_none_iff]
  intro x hx
  obtain ⟨j, hj, e⟩ := List.getElem_of_mem hx
  have z := ok j hj x (by rw [List.getElem?_eq_getElem hj, e])
  rw [z]
  rfl
section
variable {P : Program} {w : World} {K : PySem.W.Frag} {mg : Str → Option Value} {base : Heap}
def spCheck (K : PySem.W.Frag) (C : Addr) : Sp := fun vs H Q E => ∃ (v : V) (d : PyData), vs = [v] ∧ Dp K H v d ∧ goodHeads d = true ∧ (rulePlace d = none → ∀ H', Same H H' → Q .non H') ∧
  (∀ p, rulePlace d = some p → ∀ (dx : Addr) (H' : Hp), Same H H' → H' dx = some (.xd [("place", .int p)]) → E (.ref C) (some dx) H')
theorem scCheck : FnScope ["rule", "levels", "boost", "place", "level"] ["rule"] (defScope sCheck) := ⟨rfl, rfl, rfl, by decide +kernel, rfl, by decide +kernel, by decide +kernel⟩
theorem ok_check {C : Addr} (D : Df K mg "check_rule" sCheck ["rule"]) (B : Blt mg) (M : ∃ u, mg "MOST_LEVELS" = some u ∧ RelV (.int 6) u) (ER : ErC P w K mg base "NoRule" "place" C) (T : Cl P w K mg base CX0 1 "is_tuple_of" ["value", "many"] (spTupleOf K))
    (L : Cl P w K mg base CX0 3 "is_level" ["level"] (spLevel K)) (CN : Cl P w K mg base CX0 2 "is_count" ["value"] (spCount K)) : Cl P w K mg base (L2.CX P w) 4 "check_rule" ["rule"] (spCheck K C) := by
  refine clX D scCheck (fun vs H Q E h => ?_) (fun f cdv A outer s H vs Q E hr h => ?_)
  · obtain ⟨v, d, rfl, _⟩ := h
    rfl
  · obtain ⟨v, d, rfl, hd, gh, kN, kE⟩ := h
    obtain ⟨mu, mm, mr⟩ := M
    refine ⟨_, pss_cons (ps_if (pt_not (pt_val (pc T hr (by decide) (pa_cons (pv 0) (pa_cons pe_int pa_nil))))) (pss_one (ps_raiseE ER rfl hr (by decide) (takes_of rfl rfl rfl rfl) pe_int)) pss_nil)
      (pss_cons (ps_asg (pv 0) (pg_tup rfl (pgs_cons (pg_name (i := 1) scCheck.nd rfl (.inl rfl)) (pgs_cons (pg_name (i := 2) scCheck.nd rfl (.inl rfl)) pgs_nil))))
      (pss_cons (ps_if (PW.pt (pw_or (pt_not (pt_val (pe_callB call_isi (by rfl) B.isi (by decide +kernel) (pa_cons (pv 1) (pa_cons (pe_bltn (v := .ty "tuple") (u := .type "tuple") (by rfl) B.tuple (by decide +kernel) rfl) pa_nil))))) (pw_or1 (pt_not (pt_chain op_le op_le pe_int (pe_callB call_len_seq (by rfl) B.len PySem.boot_len (pa_cons (pv 1) pa_nil)) (pe_glob rfl mm mr))))))
        (pss_one (ps_raiseE ER rfl hr (by decide) (takes_of rfl rfl rfl rfl) pe_int)) pss_nil)
      (pss_cons (ps_for (passes_of rfl) rfl (pi_enumT B.enum (pa_cons (pv 1) pa_nil)) (pg_tup rfl (pgs_cons (pg_name (i := 3) scCheck.nd rfl (.inl rfl)) (pgs_cons (pg_name (i := 4) scCheck.nd rfl (.inl rfl)) pgs_nil)))
        (pss_one (ps_if (pt_not (pt_val (pc L hr (by decide) (pa_cons (pv 4) pa_nil)))) (pss_one (ps_raiseE ER rfl hr (by decide) (takes_of rfl rfl rfl rfl) (pv 3))) pss_nil)))
      (pss_one (ps_if (pt_not (pt_val (pc CN hr (by decide) (pa_cons (pv 2) pa_nil)))) (pss_one (ps_raiseE ER rfl hr (by decide) (takes_of rfl rfl rfl rfl) (pe_callB call_len_seq (by rfl) B.len PySem.boot_len (pa_cons (pv 1) pa_nil)))) pss_nil))))), ?_⟩
    refine ⟨_, rfl, v, d, 2, rfl, hd, _, rfl, ?_⟩
    cases ht : tupleND 2 d with
    | false =>
      refine iteT ?_
      exact raise_go fun dx H2 s1 _ hx => kE 0 (place_two ht) dx H2 s1 hx
    | true =>
      obtain ⟨a, b, rfl⟩ := level_two ht
      obtain ⟨p, x, y, rfl, q, ha, hb⟩ := dp_two hd
      refine iteF ?_
      -- levels, boost = rule
      refine ⟨_, rfl, p, _, rfl, q, rfl, _, _, rfl, _, _, rfl, rfl, ?_⟩
      refine ⟨_, rfl, x, _, _, _, _, rfl, .ty "tuple", dp_ty ha, kit_tup ha, _, rfl, ?_⟩
      cases hta : isTupD a with
      | false =>
        refine iteT ?_
        refine iteT ?_
        exact raise_go fun dx H2 s1 _ hx => kE 0 (place_tup hta) dx H2 s1 hx
      | true =>
        obtain ⟨ls, rfl⟩ : ∃ ls, a = .tuple ls := by
          cases a with
          | tuple ls => exact ⟨ls, rfl⟩
          | _ => cases hta
        obtain ⟨pl, xs, rfl, ql, rl⟩ := dp_tuple ha
        have ll := dps_len rl
        refine iteF ?_
        -- 1 <= len(levels) <= 6
        refine ⟨_, rfl, pl, xs, rfl, .inr ql, _, _, rfl, rfl, _, rfl, ?_⟩
        have small : rulePlace (.tuple [.tuple ls, b]) = some 0 ∨ (1 ≤ ls.length ∧ ls.length ≤ 6) := by
          by_cases z : 1 ≤ ls.length ∧ ls.length ≤ 6
          · exact .inr z
          · refine .inl ?_
            simp only [rulePlace]
            rw [if_neg z]
        have noSmall : ¬ (1 ≤ ls.length ∧ ls.length ≤ 6) → rulePlace (.tuple [.tuple ls, b]) = some 0 := fun z => by
          rcases small with h | h
          · exact h
          · exact absurd h z
        have loop : ∀ H1 : Hp, 1 ≤ ls.length → ls.length ≤ 6 → True := fun _ _ _ => trivial
        refine ite2 (fun z1 => ?_) (fun z1 => ?_)
        case refine_2 =>
          have n1 : ¬ (1 ≤ ls.length) := fun y => z1 (decide_eq_true (by omega))
          refine ⟨_, rfl, iteT ?_⟩
          exact raise_go fun dx H2 s1 _ hx => kE 0 (noSmall fun y => n1 y.1) dx H2 s1 hx
        refine ⟨_, _, rfl, rfl, _, rfl, ?_⟩
        by_cases n6 : ls.length ≤ 6
        case neg =>
          rw [decide_eq_false (show ¬ ((xs.length : Nat) : Int) ≤ 6 by omega)]
          refine iteT ?_
          exact raise_go fun dx H2 s1 _ hx => kE 0 (noSmall fun y => n6 y.2) dx H2 s1 hx
        rw [decide_eq_true (show ((xs.length : Nat) : Int) ≤ 6 by omega)]
        refine iteF ?_
        have n1 : 1 ≤ ls.length := by
          have z := of_decide_eq_true z1
          omega
        -- for place, level in enumerate(levels)
        refine ⟨_, rfl, pl, xs, rfl, ql, for_it (walk_enumT (K := K) (a := pl) (xs := xs)) (fun i σ H' => ∃ (u1 u2 : Option V), σ = [some (.ref p), some (.ref pl), some y, u1, u2] ∧ Same H H' ∧ ∀ j < i, ∀ e, ls[j]? = some e → levelD e = true)
          ⟨none, none, rfl, Same.refl H, fun j hj => absurd hj (Nat.not_lt_zero _)⟩ (fun i σ H' _ ⟨_, _, _, s1, _⟩ => same_seqT s1 ql) ?_ ?_⟩
        · rintro i v1 σ H1 H2 hi ⟨u1, u2, rfl, s1, okl⟩ ⟨TT, x1, y1, rfl, nT, rfl, ex, ey⟩
          cases ex
          obtain ⟨d1, hd1, dp1⟩ := dps_getV rl ey
          have s2 := s1.trans (same_new (o := .tup [V.int (i : Nat), y1]) nT)
          refine ⟨TT, _, rfl, SqT.of upd_same, rfl, _, _, rfl, _, _, rfl, rfl, ?_⟩
          have hh : headD d1 = true := List.all_eq_true.mp gh d1 (List.mem_of_getElem? hd1)
          refine ⟨_, rfl, y1, d1, rfl, dp_same s2 dp1, hh, fun H3 s3 => ⟨_, rfl, ?_⟩⟩
          cases hl : levelD d1 with
          | true =>
            refine iteF ?_
            refine ⟨_, _, rfl, s2.trans s3, fun j hj e he => ?_⟩
            by_cases z : j = i
            · subst z
              rw [hd1] at he
              cases he
              exact hl
            · exact okl j (by omega) e he
          | false =>
            refine iteT ⟨_, rfl, ?_⟩
            refine raise_go fun dx H4 s4 _ hx => kE (i : Int) ?_ dx H4 ((s2.trans s3).trans s4) hx
            simp only [rulePlace]
            rw [if_pos ⟨n1, n6⟩, bad_at hd1 hl okl]
        · rintro σ H1 ⟨u1, u2, rfl, s1, okl⟩
          have none1 := bad_no (ls := ls) (fun j hj => okl j (by omega))
          have pl1 : rulePlace (.tuple [.tuple ls, b]) = if countD b = true then none else some (ls.length : Int) := by
            simp only [rulePlace]
            rw [if_pos ⟨n1, n6⟩, none1]
          refine ⟨_, rfl, y, b, rfl, dp_same s1 hb, _, rfl, ?_⟩
          cases hc : countD b with
          | true =>
            rw [hc] at pl1
            exact iteF (kN pl1 _ s1)
          | false =>
            rw [hc] at pl1
            refine iteT ⟨_, rfl, pl, xs, rfl, .inr (same_seqT s1 ql), ?_⟩
            refine raise_go fun dx H4 s4 _ hx => kE (ls.length : Int) pl1 dx H4 (s1.trans s4) ?_
            rw [← ll]
            exact hx
end
end Vk
set_option maxHeartbeats 8000000
/-! a new bench -/
namespace Vk
open PySem PySem.Spec PyProof.Rows L2 GxR
theorem passE0 {X : Cx} : Passes (L2.CX X.prog X.w) X E0 := fun _ _ _ _ _ _ _ ⟨_, _, _, _, _, _, _, _, _, _, _, _, h⟩ => False.elim h
theorem count_opt {q : Option Int} (h : ∀ i, q = some i → 1 ≤ i) : countD (bOptD q) = true := by
  cases q with
  | none => rfl
  | some i =>
    show decide (1 ≤ i) = true
    exact decide_eq_true (h i rfl)
theorem level_ok {l : Bool × Option Int} (h : ∀ i, l.2 = some i → 1 ≤ i) : levelD (bLevD l) = true := by
  show (kindD (.str (bKindS l.1)) && countD (bOptD l.2)) = true
  rw [count_opt h, Bool.and_true]
  cases l.1 <;> decide
theorem rule_ok {r : Rl} (h : r.Ok) : rulePlace (bRulD r) = none ∧ goodHeads (bRulD r) = true := by
  constructor
  · show (if 1 ≤ (r.levels.map bLevD).length ∧ (r.levels.map bLevD).length ≤ 6 then (match (r.levels.map bLevD).findIdx? (fun d => !levelD d) with
      | some i => some (i : Int)
      | none => if countD (bOptD r.boost) = true then none else some ((r.levels.map bLevD).length : Int)) else some 0) = none
    have e : (r.levels.map bLevD).findIdx? (fun d => !levelD d) = none := by
      rw [List.findIdx?_eq_none_iff]
      intro x hx
      obtain ⟨l, hl, rfl⟩ := List.mem_map.mp hx
      rw [level_ok (h.quanta l hl)]
      rfl
    rw [if_pos ⟨by rw [List.length_map]; exact h.len1, by rw [List.length_map]; exact h.len6⟩, e]
    show (if countD (bOptD r.boost) = true then none else _) = none
    rw [if_pos (count_opt h.boost)]
  · show (r.levels.map bLevD).all headD = true
    exact List.all_eq_true.mpr fun d hd => by
      obtain ⟨l, _, rfl⟩ := List.mem_map.mp hd
      rfl
section
variable {P : Program} {w : World} {K : PySem.W.Frag} {mg : Str → Option Value} {base : Heap} {CN CB : Addr}
def spNInit (K : PySem.W.Frag) (CN CB : Addr) : Sp := fun vs H Q _ => ∃ (x dx : Addr) (rv : V) (c : Int) (r : Rl), vs = [.ref x, rv, .int c] ∧ H x = some (.ins CN dx []) ∧ Dp K (Off x H) rv (bRulD r) ∧ r.Ok ∧
  ∀ (N : BnA) (H' : Hp), BnAt CN CB K H' x rv c N (Bd.new r) r [] → (∀ z ∈ ftN x N, z = x ∨ H z = none) → Same (Off x H) (OffL (ftN x N) H') → Q .non H'
theorem scNInit : FnScope ["self", "rule", "processors"] ([("self" : Str), "rule"] ++ [("processors" : Str)]) (defScope sBnInit) := ⟨rfl, rfl, rfl, by decide +kernel, rfl, by decide +kernel, by decide +kernel⟩
theorem nf_make {b p dn : Addr} {A : BdA} : putF "_past" (.ref p) (putF "_board" (.ref b) []) = nfl ⟨dn, b, p, A⟩ := by kernel_rfl
theorem ok_ninit {C0 fN : Addr} {fd : FuncData} (F : FunD K "__init__" "Bench.__init__" (defArgs sBnInit) (defBody sBnInit) (defScope sBnInit) [] [("processors", .int 1)] fN fd) (TN : BnC K CN) (NB : BdNew P w K mg base CB) (CK : Cl P w K mg base (L2.CX P w) 4 "check_rule" ["rule"] (spCheck K C0)) :
    FnOk P w K mg base CX0 5 fN fd ([("self" : Str), "rule"] ++ [("processors" : Str)]) (spNInit K CN CB) := by
  refine F.ok scNInit (fun vs H Q E h => ?_) (fun cdv Ar outer s0 H vs Q E hr h => ?_)
  · obtain ⟨x, dx, rv, c, r, rfl, _⟩ := h
    rfl
  · obtain ⟨x, dx, rv, c, r, rfl, hx, hd, ro, k⟩ := h
    obtain ⟨fC, fdC, mC, kpC, bC, FC⟩ := CK.ex
    obtain ⟨fI, fdI, MI, bI, FI⟩ := NB.ex
    have q : ∃ t, PSs (cxOf CX0 P w K mg base ["self", "rule", "processors"] "Bench.__init__" (defScope sBnInit) fN cdv Ar outer s0 H E).nox (defBody sBnInit) t ∧ t { nx := fun _ H' => Q .non H', rt := Q } (start ["self", "rule", "processors"] [.ref x, rv, .int c]) H := by
      refine ⟨_, pss_cons (ps_expr (pe_call (E := E0) FC hr rfl mC kpC bC .nil passE0 (pa_cons (pv 1) pa_nil)))
        (pss_cons (ps_fld (pv 0) (pe_make MI FI (hr.mono (by decide)) rfl NB.g bI .nil pass0 (pa_cons (pv 1) (pa_cons (pv 2) pa_nil))) rfl)
        (pss_one (ps_fld (pv 0) (pe_lst pa_nil) rfl))), ?_⟩
      obtain ⟨ro1, ro2⟩ := rule_ok ro
      refine ⟨_, rfl, rv, bRulD r, rfl, dp_same (off_sub x H) hd, ro2, fun _ H1 s1 => ?_, fun p e => absurd (ro1.symm.trans e) (fun z => nomatch z)⟩
      have hx1 := s1.at hx
      have hd1 : Dp K (Off x H1) rv (bRulD r) := dp_same (off_mono s1) hd
      refine ⟨_, rfl, _, rfl, fun b db nb ndb bdb => ?_⟩
      have bx : b ≠ x := fun e => by rw [e, hx1] at nb; cases nb
      have dbx : db ≠ x := fun e => by rw [e, hx1] at ndb; cases ndb
      have sb : Same H1 (Off b (upd (upd H1 db (.own b)) b (.ins CB db []))) := by
        rw [off_upd]
        exact .of fun z o e => by
          rw [off_ne (fun y => by rw [y, nb] at e; cases e), upd_ne (fun y => by rw [y, ndb] at e; cases e)]
          exact e
      refine ⟨b, db, rv, c, r, rfl, upd_same, dp_same ((off_sub x H1).trans sb) hd1, ro.len1, ro.len6, fun A G2 edb B2 fr2 S2 => ⟨rfl, ?_⟩⟩
      have s12 : Same H1 G2 := sb.trans (S2.trans (offL_sub _ _))
      have fr1 : ∀ z ∈ ftB b A, H1 z = none := fun z hz => by
        rcases fr2 z hz with e | e
        · rw [e]; exact nb
        · by_cases z1 : z = b
          · rw [z1]; exact nb
          · rw [upd_ne z1] at e
            by_cases z2 : z = db
            · rw [z2]; exact ndb
            · rw [upd_ne z2] at e
              exact e
      have xft : x ∉ ftB b A := fun m => by
        have z := fr1 x m
        rw [hx1] at z
        cases z
      have hx2 := s12.at hx1
      refine ⟨_, rfl, x, CN, dx, _, rfl, hx2, TN.cl, TN.nB, by show 0 < 1000; decide, ?_⟩
      have B3 : BdAt CB K (upd G2 x (.ins CN dx (putF "_board" (.ref b) []))) b rv c A (Bd.new r) := B2.keepT (fun z hz => upd_ne (fun e => xft (by rw [← e]; exact hz))) (fun a xs q => by
        rw [offL_put xft]
        exact sqt_put (by rw [offL_out xft]; exact hx2) noTup_ins q)
      refine ⟨Nat.zero_le _, fun p np => ?_⟩
      have px : p ≠ x := fun e => by rw [e, upd_same] at np; cases np
      have np2 : G2 p = none := by rw [upd_ne px] at np; exact np
      have pft : p ∉ ftB b A := fun m => B2.here m np2
      have B4 := B3.same (same_new (o := .lst []) np)
      have hx4 : upd (upd G2 x (.ins CN dx (putF "_board" (.ref b) []))) p (.lst []) x = some (.ins CN dx (putF "_board" (.ref b) [])) := by rw [upd_ne (Ne.symm px), upd_same]
      refine ⟨_, rfl, x, CN, dx, _, rfl, hx4, TN.cl, TN.nP, by show 1 < 1000; decide, ?_⟩
      rw [nf_make (dn := dx) (A := A)]
      have B5 : BdAt CB K (upd (upd (upd G2 x (.ins CN dx (putF "_board" (.ref b) []))) p (.lst [])) x (.ins CN dx (nfl ⟨dx, b, p, A⟩))) b rv c A (Bd.new r) := B4.keepT (fun z hz => upd_ne (fun e => xft (by rw [← e]; exact hz))) (fun a xs q => by
        rw [offL_put xft]
        exact sqt_put (by rw [offL_out xft]; exact hx4) noTup_ins q)
      have mem : ∀ z ∈ ftN x ⟨dx, b, p, A⟩, z = x ∨ H1 z = none := fun z hz => by
        simp only [ftN, List.mem_cons] at hz
        rcases hz with rfl | rfl | h
        · exact .inl rfl
        · exact .inr (s12.free np2)
        · exact .inr (fr1 z h)
      have mx : x ∈ ftN x ⟨dx, b, p, A⟩ := by simp [ftN]
      have S5 : Same (Off x H1) (OffL (ftN x ⟨dx, b, p, A⟩) (upd (upd (upd G2 x (.ins CN dx (putF "_board" (.ref b) []))) p (.lst [])) x (.ins CN dx (nfl ⟨dx, b, p, A⟩)))) := by
        rw [offL_upd mx, ← offL_one]
        refine (offL_swap (ft' := ftN x ⟨dx, b, p, A⟩) fun z hz => (mem z hz).imp (fun e => by simp [e]) id).trans ?_
        refine (offL_mono s12).trans ?_
        have z := offL_mono (ft := ftN x ⟨dx, b, p, A⟩) (same_new (o := .lst []) np)
        rw [offL_upd mx] at z
        exact z
      refine k ⟨dx, b, p, A⟩ _ ⟨upd_same, by rw [upd_ne px, upd_same]; rfl, B5, Bd.Ok.new ro.len1 ro.len6, dp_same S5 hd1, (List.length_replicate ..).symm, xft, pft⟩ (fun z hz => (mem z hz).imp id fun e => s1.free e) ((off_mono s1).trans S5)
    obtain ⟨t, h1, h2⟩ := q
    exact ⟨t, h1.nox, h2⟩
end
end Vk
set_option maxHeartbeats 4000000
/-! the end where the program has classes with methods: what is looked at behind the top -/
namespace Vk
open PySem PySem.Spec PyProof.Rows L2
abbrev SeeC : Type := Bool × List He.FnV × List He.FnW
def seeC (fs : List (PySem.W.Frag → Bool)) (fn : List He.FnD) (fw : List He.DefD) (K : PySem.W.Frag) : SeeC := (fs.all fun f => f K, fn.map fun d => He.fnObs K d.at_, fw.map fun d => He.fnW K d.at_)
def dueC (fn : List He.FnD) (fw : List He.DefD) : SeeC := (true, fn.map He.FnD.val, fw.map He.DefD.val)
def asC (g : Addr → Option Obj) : List Addr :=
  let l1 := valsV g mainGlobals
  let l2 := l1.flatMap (backV g)
  let l3 := l2.flatMap (valsV g)
  let l4 := l3.flatMap (backV g)
  mainGlobals :: (l1 ++ (l2 ++ (l3 ++ (l4 ++ l4.flatMap (valsV g)))))
def partC (_ : Nat) (g : Addr → Option Obj) : PySem.W.Frag := He.frT g (asC g)
def hookC (n : Nat) (fs : List (PySem.W.Frag → Bool)) (fn : List He.FnD) (fw : List He.DefD) : PySem.W.Hook where
  α := SeeC
  obs := fun s => seeC fs fn fw (partC n s.heap.get?)
  val := fun _ => dueC fn fw
  says := fun _ h => ∃ K : PySem.W.Frag, K.In h ∧ seeC fs fn fw K = dueC fn fw
  of := fun _ _ e => ⟨_, He.frT_in, e⟩
  keeps := fun _ _ _ ⟨K, hK, c⟩ k => ⟨K, PySem.W.Frag.In.keeps hK k, c⟩
theorem seeC_eq {n : Nat} {fs : List (PySem.W.Frag → Bool)} {fn : List He.FnD} {fw : List He.DefD} {g : Addr → Option Obj} {s : Shared} (h : ∀ a, g a = s.heap.get? a) : seeC fs fn fw (partC n g) = (hookC n fs fn fw).obs s := by
  have e : g = s.heap.get? := funext h
  rw [e]
  rfl
section
variable {fs : List (PySem.W.Frag → Bool)} {fn : List He.FnD} {fw : List He.DefD} {K : PySem.W.Frag}
theorem facC (c : seeC fs fn fw K = dueC fn fw) (i : Nat) {f : PySem.W.Frag → Bool} (h : fs[i]? = some f) : f K = true :=
  List.all_eq_true.mp (show (fs.all fun f => f K) = true from congrArg (fun z : SeeC => z.1) c) f (List.mem_of_getElem? h)
theorem defC (c : seeC fs fn fw K = dueC fn fw) (i : Nat) {d : He.FnD} (h : fn[i]? = some d) : He.fnObs K d.at_ = d.val := by
  have e : fn.map (fun d => He.fnObs K d.at_) = fn.map He.FnD.val := congrArg (fun z : SeeC => z.2.1) c
  have e2 : (fn.map fun d => He.fnObs K d.at_)[i]? = (fn.map He.FnD.val)[i]? := by rw [e]
  rw [List.getElem?_map, List.getElem?_map, h] at e2
  exact Option.some.inj e2
theorem dfwC (c : seeC fs fn fw K = dueC fn fw) (i : Nat) {d : He.DefD} (h : fw[i]? = some d) : He.fnW K d.at_ = d.val := by
  have e : fw.map (fun d => He.fnW K d.at_) = fw.map He.DefD.val := congrArg (fun z : SeeC => z.2.2) c
  have e2 : (fw.map fun d => He.fnW K d.at_)[i]? = (fw.map He.DefD.val)[i]? := by rw [e]
  rw [List.getElem?_map, List.getElem?_map, h] at e2
  exact Option.some.inj e2
end
/-- a method m of the class C -/
def mW (C m q : Str) (st : Stmt) (dfl : List He.Dv) (kwd : List (Str × He.Dv)) : He.DefD := ⟨(C, some m), m, q, defArgs st, defBody st, defScope st, dfl, kwd⟩
/-- its address -/
abbrev mA (K : PySem.W.Frag) (C m : Str) : Addr := He.ma K (He.ga K C) m
/-- an empty tuple of the top -/
def tupE (K : PySem.W.Frag) (a : Addr) : Bool := match K.lookup a with
  | some ⟨.type c, _, .seq its _, _⟩ => decide (c = "tuple") && its.isEmpty
  | _ => false
theorem tupE_ok {K : PySem.W.Frag} {a : Addr} (h : tupE K a = true) (H : Hp) : SqT K H a [] := by
  unfold tupE at h
  cases q : K.lookup a with
  | none =>
    rw [q] at h
    cases h
  | some o =>
    obtain ⟨oc, od, dt, osl⟩ := o
    rw [q] at h
    cases oc with
    | type c =>
      cases dt with
      | seq its n =>
        obtain ⟨h1, h2⟩ := He.ba (show (decide (c = "tuple") && its.isEmpty) = true from h)
        have h3 : its = #[] := Array.isEmpty_iff.mp h2
        subst h3
        exact .inr ⟨_, #[], n, q, congrArg Value.type (of_decide_eq_true h1), rfl, Nat.zero_le _, .nil⟩
      | _ => cases h
    | _ => cases od <;> cases dt <;> cases h
section
variable {P : Program} {w : World} {K : PySem.W.Frag} {mg : Str → Option Value} {base : Heap}
theorem fund_fun {x qual : Str} {st : Stmt} {f : Addr} {fd : FuncData} (F : FunD K x qual (defArgs st) (defBody st) (defScope st) [] [] f fd) : Fun K x qual st f fd := by
  obtain ⟨oc, od, dV, kV, doc, pm, an, cdv, ct, osl, rfl, lk, hcd, hD, _⟩ := F.ex
  rcases hD with ⟨_, rfl⟩ | ⟨h, _⟩
  · exact ⟨⟨oc, od, kV, doc, pm, an, cdv, ct, osl, rfl, lk, hcd⟩, F.kp⟩
  · exact absurd rfl h
theorem mdf_mk {C f : Addr} {m q : Str} {st : Stmt} {ps : List Str} (M : Meth K C m f) (F : ∃ fd, FunD K m q (defArgs st) (defBody st) (defScope st) [] [] f fd)
    (hb : ∀ (kV doc pm : Value) (an : Option Addr) (cdv ct : Value) (us : List Value), us.length = ps.length → bindArgs (PySem.W.fnOf m q (defArgs st) (defBody st) (defScope st) .none kV doc pm an cdv ct) ⟨us, []⟩ = pure (ps.zip us)) : MDf K C m q st ps := by
  obtain ⟨fd, F⟩ := F
  exact ⟨f, fd, M, fund_fun F, F.bindsN hb⟩
/-- one keyword-only parameter behind two others -/
theorem kw_mk {m q kn p1 p2 : Str} {st : Stmt} {f : Addr} {fd : FuncData} {dv : V} (F : FunD K m q (defArgs st) (defBody st) (defScope st) [] [(kn, dv)] f fd)
    (hb : ∀ (D : Addr) (doc pm : Value) (an : Option Addr) (cdv ct a b z : Value), bindArgs (PySem.W.fnOf m q (defArgs st) (defBody st) (defScope st) .none (.ref D) doc pm an cdv ct) ⟨[a, b], [(kn, z)]⟩ = pure [(p1, a), (p2, b), (kn, z)])
    (hd : ∀ (D : Addr) (doc pm : Value) (an : Option Addr) (cdv ct a b z : Value), KwChain D [(kn, z)] (bindArgs (PySem.W.fnOf m q (defArgs st) (defBody st) (defScope st) .none (.ref D) doc pm an cdv ct) ⟨[a, b], []⟩) [(p1, a), (p2, b), (kn, z)]) :
    KBn K fd ([p1, p2] ++ [kn]) 2 [kn] (fun us ws => us ++ ws) (fun vs zs => vs ++ zs) ∧ ∃ ds, Vals [dv] ds ∧ Binds K fd ([p1, p2] ++ [kn]) ds := by
  obtain ⟨oc, od, dV, kV, doc, pm, an, cdv, ct, osl, rfl, lk, hcd, hD, hK⟩ := F.ex
  rcases hD with ⟨_, rfl⟩ | ⟨h, _⟩
  · rcases hK with e | ⟨D, rfl, hq⟩
    · cases e
    · obtain ⟨u, n, r⟩ := hq _ (List.mem_singleton_self _)
      refine ⟨⟨fun s us ws X l1 l2 => ?_, fun r1 r2 => r1.append r2⟩, [u], .cons r .nil, fun s us X hl => ?_⟩
      · match us, ws, l1, l2 with
        | [a, b], [z], _, _ => exact .of_eq (hb D doc pm an cdv ct a b z)
      · have two : us.length = 2 := by
          rw [List.length_append] at hl
          simp only [List.length_cons, List.length_nil, List.length_append] at hl
          omega
        match us, two with
        | [a, b], _ =>
          refine BindsTo.of_looks fun M => KwChain.looks X (fun q hq => ?_) (hd D doc pm an cdv ct a b u)
          rw [List.mem_singleton.mp hq]
          exact n
  · exact absurd rfl h
theorem mdfk_mk {C f : Addr} {m q kn p1 p2 : Str} {st : Stmt} {dv : V} (M : Meth K C m f) (F : ∃ fd, FunD K m q (defArgs st) (defBody st) (defScope st) [] [(kn, dv)] f fd)
    (hb : ∀ (D : Addr) (doc pm : Value) (an : Option Addr) (cdv ct a b z : Value), bindArgs (PySem.W.fnOf m q (defArgs st) (defBody st) (defScope st) .none (.ref D) doc pm an cdv ct) ⟨[a, b], [(kn, z)]⟩ = pure [(p1, a), (p2, b), (kn, z)])
    (hd : ∀ (D : Addr) (doc pm : Value) (an : Option Addr) (cdv ct a b z : Value), KwChain D [(kn, z)] (bindArgs (PySem.W.fnOf m q (defArgs st) (defBody st) (defScope st) .none (.ref D) doc pm an cdv ct) ⟨[a, b], []⟩) [(p1, a), (p2, b), (kn, z)]) : MDfK K C m q st [p1, p2] kn dv := by
  obtain ⟨fd, F⟩ := F
  obtain ⟨h1, h2⟩ := kw_mk F hb hd
  exact ⟨f, fd, M, F, h1, h2⟩
/-- one default, of the second of two parameters -/
theorem mdfp_mk {C f : Addr} {m q p1 p2 : Str} {st : Stmt} {dv : V} (M : Meth K C m f) (F : ∃ fd, FunD K m q (defArgs st) (defBody st) (defScope st) [dv] [] f fd)
    (h2 : ∀ (T : Addr) (kV doc pm : Value) (an : Option Addr) (cdv ct a b z : Value), ∃ k, bindArgs (PySem.W.fnOf m q (defArgs st) (defBody st) (defScope st) (.ref T) kV doc pm an cdv ct) ⟨[a, b], []⟩ = seqItems? (.ref T) >>= k ∧ k (some [z].toArray) = pure [(p1, a), (p2, b)])
    (h1 : ∀ (T : Addr) (kV doc pm : Value) (an : Option Addr) (cdv ct a z : Value), ∃ k, bindArgs (PySem.W.fnOf m q (defArgs st) (defBody st) (defScope st) (.ref T) kV doc pm an cdv ct) ⟨[a], []⟩ = seqItems? (.ref T) >>= k ∧ k (some [z].toArray) = pure [(p1, a), (p2, z)]) : MDfP K C m q st [p1, p2] dv := by
  obtain ⟨fd, F⟩ := F
  refine ⟨f, fd, M, F, ?_, ?_⟩
  · obtain ⟨ds, v, b⟩ := F.binds1 (ps := [p1, p2]) 2 1 (by simp) rfl fun T kV doc pm an cdv ct us its l1 l2 => by
      match us, its, l1, l2 with
      | [a, b], [z], _, _ => exact h2 T kV doc pm an cdv ct a b z
    cases v
    exact b
  · obtain ⟨ds, v, b⟩ := F.binds1 (ps := [p1, p2]) 1 0 (by simp) rfl fun T kV doc pm an cdv ct us its l1 l2 => by
      match us, its, l1, l2 with
      | [a], [z], _, _ => exact h1 T kV doc pm an cdv ct a z
    exact ⟨ds, v, b⟩
end
end Vk
set_option maxHeartbeats 4000000
/-! the law's line and the board, as mathematics -/
namespace Vk
open PySem PySem.Spec PyProof.Rows L2
theorem getS_cons {p : Str × Int} {l : List (Str × Int)} {y : Str} : getS (p :: l) y = if y = p.1 then p.2 else getS l y := by
  unfold getS
  obtain ⟨a, b⟩ := p
  rw [List.lookup_cons]
  by_cases e : y = a
  · rw [if_pos e, show (y == a) = true from beq_iff_eq.mpr e]
    rfl
  · rw [if_neg e, show (y == a) = false from beq_eq_false_iff_ne.mpr e]
theorem getS_addS {x y : Str} {d : Int} : ∀ {l : List (Str × Int)}, y ∈ l.map (·.1) → getS (addS l x d) y = getS l y + if y = x then d else 0
  | [], h => by simp at h
  | p :: l, h => by
    have e0 : addS (p :: l) x d = (if p.1 = x then (p.1, p.2 + d) else p) :: addS l x d := rfl
    rw [e0, getS_cons, getS_cons]
    have e1 : (if p.1 = x then (p.1, p.2 + d) else p).1 = p.1 := by split <;> rfl
    rw [e1]
    by_cases e : y = p.1
    · rw [if_pos e, if_pos e]
      by_cases z : p.1 = x
      · rw [if_pos z, if_pos (e.trans z)]
      · rw [if_neg z, if_neg (fun w => z (e ▸ w)), Int.add_zero]
    · rw [if_neg e, if_neg e]
      rw [List.map_cons] at h
      exact getS_addS ((List.mem_cons.mp h).resolve_left e)
theorem getS_putS {x y : Str} {v : Int} : ∀ {l : List (Str × Int)}, y ∈ l.map (·.1) → getS (putS l x v) y = if y = x then v else getS l y
  | [], h => by simp at h
  | p :: l, h => by
    have e0 : putS (p :: l) x v = (if p.1 = x then (p.1, v) else p) :: putS l x v := rfl
    rw [e0, getS_cons, getS_cons]
    have e1 : (if p.1 = x then (p.1, v) else p).1 = p.1 := by split <;> rfl
    rw [e1]
    by_cases e : y = p.1
    · rw [if_pos e, if_pos e]
      by_cases z : p.1 = x
      · rw [if_pos z, if_pos (e.trans z)]
      · rw [if_neg z, if_neg (fun w => z (e ▸ w))]
    · rw [if_neg e, if_neg e]
      rw [List.map_cons] at h
      exact getS_putS ((List.mem_cons.mp h).resolve_left e)
theorem getS_dropS {x y : Str} (h : y ≠ x) : ∀ {l : List (Str × Int)}, getS (dropS l x) y = getS l y
  | [] => rfl
  | p :: l => by
    have ih := getS_dropS h (l := l)
    unfold dropS at ih ⊢
    by_cases z : p.1 = x
    · rw [List.filter_cons_of_neg (by simpa using z), ih, getS_cons, if_neg (fun e => h (e.trans z))]
    · rw [List.filter_cons_of_pos (by simpa using z), getS_cons, getS_cons, ih]
theorem getS_zero {y : Str} : ∀ {l : List (Str × Int)}, getS (l.map fun p => (p.1, (0 : Int))) y = 0
  | [] => rfl
  | p :: l => by
    rw [List.map_cons, getS_cons, getS_zero]
    split <;> rfl
theorem getS_app {x y : Str} {v : Int} : ∀ {l : List (Str × Int)}, y ∈ l.map (·.1) → getS (l ++ [(x, v)]) y = getS l y
  | [], h => by simp at h
  | p :: l, h => by
    rw [List.cons_append, getS_cons, getS_cons]
    by_cases e : y = p.1
    · rw [if_pos e, if_pos e]
    · rw [if_neg e, if_neg e]
      rw [List.map_cons] at h
      exact getS_app ((List.mem_cons.mp h).resolve_left e)
theorem getS_app_new {x : Str} {v : Int} : ∀ {l : List (Str × Int)}, x ∉ l.map (·.1) → getS (l ++ [(x, v)]) x = v
  | [], _ => by
    rw [List.nil_append, getS_cons, if_pos rfl]
  | p :: l, h => by
    rw [List.map_cons] at h
    rw [List.cons_append, getS_cons, if_neg (fun e => h (List.mem_cons.mpr (.inl e)))]
    exact getS_app_new fun m => h (List.mem_cons_of_mem _ m)
/-- the units of a step -/
theorem ticks_vals {d : Int} : ∀ {xs : List Str} {s : Bd}, xs.Nodup → (∀ y ∈ s.ran.map (·.1), getS (xs.foldl (fun t x => t.tick1 d x) s).ran y = getS s.ran y + if y ∈ xs then d else 0) ∧ (∀ y ∈ s.used.map (·.1), getS (xs.foldl (fun t x => t.tick1 d x) s).used y = getS s.used y + if y ∈ xs then d else 0)
  | [], s, _ => ⟨fun y _ => by simp, fun y _ => by simp⟩
  | x :: xs, s, nd => by
    obtain ⟨n1, n2⟩ := List.nodup_cons.mp nd
    obtain ⟨a, b⟩ := ticks_vals (d := d) (xs := xs) (s := s.tick1 d x) n2
    have k1 : (s.tick1 d x).ran.map (·.1) = s.ran.map (·.1) := addS_keys _ _ _
    have k2 : (s.tick1 d x).used.map (·.1) = s.used.map (·.1) := addS_keys _ _ _
    have fin : ∀ (g : Int) (y : Str), g + (if y = x then d else 0) + (if y ∈ xs then d else 0) = g + if y ∈ x :: xs then d else 0 := fun g y => by
      by_cases e : y = x
      · subst e
        rw [if_pos rfl, if_neg n1, if_pos (List.mem_cons_self ..), Int.add_zero]
      · rw [if_neg e, Int.add_zero]
        by_cases m : y ∈ xs
        · rw [if_pos m, if_pos (List.mem_cons_of_mem _ m)]
        · rw [if_neg m, if_neg (fun z => (List.mem_cons.mp z).elim e m)]
    refine ⟨fun y hy => ?_, fun y hy => ?_⟩
    · show getS (xs.foldl (fun t x => t.tick1 d x) (s.tick1 d x)).ran y = _
      rw [a y (by rw [k1]; exact hy), show (s.tick1 d x).ran = addS s.ran x d from rfl, getS_addS hy, fin]
    · show getS (xs.foldl (fun t x => t.tick1 d x) (s.tick1 d x)).used y = _
      rw [b y (by rw [k2]; exact hy), show (s.tick1 d x).used = addS s.used x d from rfl, getS_addS hy, fin]
theorem mid_vals {s : Bd} (ok : s.Ok0) {c d : Int} {fin : List Str} : (∀ y ∈ s.ran.map (·.1), getS (s.mid c d fin).ran y = getS s.ran y + if y ∈ s.run c then d else 0) ∧ (∀ y ∈ s.used.map (·.1), getS (s.mid c d fin).used y = getS s.used y + if y ∈ s.run c then d else 0) ∧ (s.mid c d fin).used.map (·.1) = s.used.map (·.1) := by
  obtain ⟨a, b⟩ := ticks_vals (d := d) (xs := s.run c) (s := { s with now := s.now + d }) (Bd.run_nd ok)
  obtain ⟨_, _, _, _, t5⟩ := Bd.ticks d (s.run c) { s with now := s.now + d }
  unfold Bd.mid
  generalize (s.run c).foldl (fun t x => t.tick1 d x) ({ s with now := s.now + d } : Bd) = sT at a b t5 ⊢
  by_cases e : (s.run c).filter (fun x => decide (x ∈ fin)) = []
  · rw [if_pos e]
    exact ⟨a, b, t5⟩
  · rw [if_neg e]
    exact ⟨a, b, t5⟩
theorem units_ran {r : Rl} {s : Bd} {c d : Int} {fin : List Str} : (s.endUnits r c d fin).ran = (s.mid c d fin).ran := by
  obtain ⟨_, _, n1⟩ := Bd.leaves_same (s.lv c fin) (s.mid c d fin)
  obtain ⟨_, _, n2⟩ := Bd.quantas_same (r := r) ((s.run c).filter fun x => decide (x ∉ s.lv c fin)) ((s.lv c fin).foldl Bd.leave (s.mid c d fin))
  show Bd.ran (match r.boost with
    | some q' => if (((s.run c).filter fun x => decide (x ∉ s.lv c fin)).foldl (Bd.quanta1 r) ((s.lv c fin).foldl Bd.leave (s.mid c d fin))).now.fmod q' = 0 then Bd.lift (((s.run c).filter fun x => decide (x ∉ s.lv c fin)).foldl (Bd.quanta1 r) ((s.lv c fin).foldl Bd.leave (s.mid c d fin))) else ((s.run c).filter fun x => decide (x ∉ s.lv c fin)).foldl (Bd.quanta1 r) ((s.lv c fin).foldl Bd.leave (s.mid c d fin))
    | none => ((s.run c).filter fun x => decide (x ∉ s.lv c fin)).foldl (Bd.quanta1 r) ((s.lv c fin).foldl Bd.leave (s.mid c d fin))) = _
  have e := n2.trans n1
  generalize ((s.run c).filter fun x => decide (x ∉ s.lv c fin)).foldl (Bd.quanta1 r) ((s.lv c fin).foldl Bd.leave (s.mid c d fin)) = T at e ⊢
  cases r.boost with
  | none => exact e
  | some q =>
    show Bd.ran (if T.now.fmod q = 0 then T.lift else T) = _
    split
    · exact e
    · exact e
theorem flat_units {r : Rl} {s : Bd} (ok : s.Ok0) {c d : Int} {fin : List Str} : (s.endUnits r c d fin).fins.flatMap (fun f => f.2.2) = s.fins.flatMap (fun f => f.2.2) ++ s.lv c fin := by
  have a := (Bd.units_after (r := r) ok c d fin).fins
  by_cases e : s.lv c fin = []
  · rw [if_pos e] at a
    rw [a, e, List.append_nil]
  · rw [if_neg e] at a
    rw [a, List.flatMap_append]
    simp
end Vk
set_option maxHeartbeats 4000000
/-! levels, as mathematics: where a job stands, what its quantum leaves, the law's levels and the board's -/
namespace Vk
open PySem PySem.Spec PyProof.Rows L2
def Bd.At (s : Bd) (y : Str) (i : Nat) : Prop := ∃ l, s.lines[i]? = some l ∧ y ∈ l
theorem flat_nd_at : ∀ {L : List (List Str)} {i j : Nat} {l m : List Str} {y : Str}, L.flatten.Nodup → L[i]? = some l → y ∈ l → L[j]? = some m → y ∈ m → i = j
  | [], _, _, _, _, _, _, h, _, _, _ => by simp at h
  | a :: L, 0, 0, _, _, _, _, _, _, _, _ => rfl
  | a :: L, 0, j + 1, l, m, y, nd, h1, y1, h2, y2 => by
    cases Option.some.inj h1
    exact absurd rfl ((List.nodup_append.mp nd).2.2 y y1 y (List.mem_flatten.mpr ⟨m, List.mem_of_getElem? h2, y2⟩))
  | a :: L, i + 1, 0, l, m, y, nd, h1, y1, h2, y2 => by
    cases Option.some.inj h2
    exact absurd rfl ((List.nodup_append.mp nd).2.2 y y2 y (List.mem_flatten.mpr ⟨l, List.mem_of_getElem? h1, y1⟩))
  | a :: L, i + 1, j + 1, l, m, y, nd, h1, y1, h2, y2 => congrArg (· + 1) (flat_nd_at (L := L) (List.nodup_append.mp nd).2.1 h1 y1 h2 y2)
section
variable {s t : Bd} {x y : Str} {i k : Nat} {r : Rl}
theorem Bd.At.mem (h : s.At y i) : y ∈ s.order := by
  obtain ⟨l, h1, h2⟩ := h
  exact List.mem_flatten.mpr ⟨l, List.mem_of_getElem? h1, h2⟩
theorem Bd.at_level (h : y ∈ s.order) : s.At y (s.level y) := Bd.level_at h
theorem Bd.At.uniq (nd : s.order.Nodup) (h1 : s.At y i) (h2 : s.At y k) : i = k := by
  obtain ⟨l, a, b⟩ := h1
  obtain ⟨m, c, d⟩ := h2
  exact flat_nd_at nd a b c d
theorem Bd.At.level (nd : s.order.Nodup) (h : s.At y i) : s.level y = i := (Bd.at_level h.mem).uniq nd h
theorem Bd.At.lt (h : s.At y i) : i < s.lines.length := by
  obtain ⟨l, a, _⟩ := h
  exact (List.getElem?_eq_some_iff.mp a).1
theorem Bd.at_set {l : List Str} (ht : t.lines = s.lines.set i l) (hi : i < s.lines.length) : t.At y k ↔ if k = i then y ∈ l else s.At y k := by
  unfold Bd.At
  rw [ht]
  by_cases e : k = i
  · rw [if_pos e, e, List.getElem?_set_self hi]
    constructor
    · rintro ⟨m, h, hy⟩
      cases h
      exact hy
    · intro h
      exact ⟨l, rfl, h⟩
  · rw [if_neg e, List.getElem?_set_ne (Ne.symm e)]
theorem Bd.out_at (nd : s.order.Nodup) (hx : x ∈ s.order) : (s.out x).At y k ↔ s.At y k ∧ y ≠ x := by
  obtain ⟨l, h1, h2⟩ := Bd.at_level hx
  have lt := (Bd.at_level hx).lt
  have hl : (s.out x).lines = s.lines.set (s.level x) (l.erase x) := by
    show s.lines.set (s.level x) ((s.lines.getD (s.level x) []).erase x) = _
    rw [getD_at h1]
  have ndl : l.Nodup := nd.sublist (List.sublist_flatten_of_mem (List.mem_of_getElem? h1))
  rw [Bd.at_set hl lt]
  by_cases e : k = s.level x
  · rw [if_pos e]
    constructor
    · intro h
      exact ⟨⟨l, by rw [e]; exact h1, List.mem_of_mem_erase h⟩, fun z => by rw [z] at h; exact (List.Nodup.not_mem_erase ndl) h⟩
    · rintro ⟨⟨m, h3, h4⟩, ne⟩
      rw [e, h1] at h3
      cases h3
      exact (List.mem_erase_of_ne ne).mpr h4
  · rw [if_neg e]
    exact ⟨fun h => ⟨h, fun z => e (h.uniq nd (by rw [z]; exact Bd.at_level hx))⟩, fun h => h.1⟩
theorem Bd.leave_at (nd : s.order.Nodup) (hx : x ∈ s.order) : (s.leave x).At y k ↔ s.At y k ∧ y ≠ x := Bd.out_at (s := s) nd hx
theorem Bd.quanta_if : s.quanta1 r x = if r.quantAt (s.level x) = some (getS s.used x) then
    { s with lines := (s.out x).lines.set (min (s.level x + 1) (s.lines.length - 1)) ((s.out x).lines.getD (min (s.level x + 1) (s.lines.length - 1)) [] ++ [x]), used := putS s.used x 0 } else s := rfl
theorem Bd.quanta_at (ok : s.Ok0) (hx : x ∈ s.order) (hq : r.quantAt (s.level x) = some (getS s.used x)) : (s.quanta1 r x).At y k ↔ (s.At y k ∧ y ≠ x) ∨ (y = x ∧ k = min (s.level x + 1) (s.lines.length - 1)) := by
  have l1 := ok.lines1
  have lt : min (s.level x + 1) (s.lines.length - 1) < (s.out x).lines.length := by
    show _ < (s.lines.set _ _).length
    rw [List.length_set]
    omega
  have e := List.getElem?_eq_getElem lt
  have hl : (s.quanta1 r x).lines = (s.out x).lines.set (min (s.level x + 1) (s.lines.length - 1)) ((s.out x).lines[min (s.level x + 1) (s.lines.length - 1)] ++ [x]) := by
    rw [Bd.quanta_if, if_pos hq]
    show (s.out x).lines.set _ _ = _
    rw [getD_at e]
  rw [Bd.at_set hl lt]
  by_cases z : k = min (s.level x + 1) (s.lines.length - 1)
  · rw [if_pos z, List.mem_append, List.mem_singleton, ← Bd.out_at ok.ndo hx]
    constructor
    · rintro (h | h)
      · exact .inl ⟨_, by rw [z]; exact e, h⟩
      · exact .inr ⟨h, z⟩
    · rintro (⟨m, h1, h2⟩ | ⟨h, _⟩)
      · rw [z, e] at h1
        cases h1
        exact .inl h2
      · exact .inr h
  · rw [if_neg z, Bd.out_at ok.ndo hx]
    exact ⟨fun h => .inl h, fun h => h.elim id fun w => absurd w.2 z⟩
/-! ### quanta -/
def Bd.UQ (r : Rl) (s : Bd) : Prop := ∀ y k q, s.At y k → r.quantAt k = some q → getS s.used y < q
def Bd.UQ1 (r : Rl) (s : Bd) (xs : List Str) : Prop := ∀ y k q, s.At y k → r.quantAt k = some q → getS s.used y ≤ q ∧ (y ∉ xs → getS s.used y < q)
theorem Rl.Ok.quant (ok : r.Ok) {k : Nat} {q : Int} (h : r.quantAt k = some q) : 1 ≤ q := by
  unfold Rl.quantAt at h
  by_cases lt : k < r.levels.length
  · rw [List.getD_eq_getElem?_getD, List.getElem?_eq_getElem lt] at h
    exact ok.quanta _ (List.getElem_mem lt) q h
  · rw [List.getD_eq_getElem?_getD, List.getElem?_eq_none (by omega)] at h
    cases h
theorem Bd.UQ1.quanta (rok : r.Ok) (ok : s.Ok0) {xs : List Str} (hx : x ∈ s.order) (u : s.UQ1 r (x :: xs)) : (s.quanta1 r x).UQ1 r xs := by
  by_cases hq : r.quantAt (s.level x) = some (getS s.used x)
  · intro y k q h1 h2
    have eu : (s.quanta1 r x).used = putS s.used x 0 := by
      rw [Bd.quanta_if, if_pos hq]
    rw [eu]
    rcases (Bd.quanta_at ok hx hq).mp h1 with ⟨a, ne⟩ | ⟨rfl, _⟩
    · rw [getS_putS ((ok.here _).mpr a.mem), if_neg ne]
      obtain ⟨u1, u2⟩ := u y k q a h2
      exact ⟨u1, fun m => u2 fun w => (List.mem_cons.mp w).elim ne m⟩
    · rw [getS_putS ((ok.here _).mpr hx), if_pos rfl]
      have := rok.quant h2
      exact ⟨by omega, fun _ => by omega⟩
  · have e : s.quanta1 r x = s := by rw [Bd.quanta_if, if_neg hq]
    rw [e]
    intro y k q h1 h2
    obtain ⟨u1, u2⟩ := u y k q h1 h2
    refine ⟨u1, fun m => ?_⟩
    by_cases z : y = x
    · subst z
      rw [h1.level ok.ndo] at hq
      have : q ≠ getS s.used y := fun w => hq (by rw [h2, w])
      omega
    · exact u2 fun w => (List.mem_cons.mp w).elim z m
theorem Bd.UQ1.quantas (rok : r.Ok) : ∀ {xs : List Str} {s : Bd}, s.Ok0 → (∀ x ∈ xs, x ∈ s.order) → s.UQ1 r xs → (xs.foldl (Bd.quanta1 r) s).UQ r
  | [], s, _, _, u => fun y k q h1 h2 => (u y k q h1 h2).2 (by simp)
  | x :: xs, s, ok, hx, u => by
    have h0 := hx x (List.mem_cons_self ..)
    exact Bd.UQ1.quantas rok (xs := xs) (ok.quanta1 h0) (fun y hy => (Bd.quanta_order ok.lines1 h0).mem_iff.mpr (hx y (List.mem_cons_of_mem _ hy))) (u.quanta rok ok h0)
theorem Bd.leaves_at : ∀ {xs : List Str} {s : Bd}, s.Ok0 → xs.Nodup → (∀ x ∈ xs, x ∈ s.order) → ∀ y k, (xs.foldl Bd.leave s).At y k ↔ s.At y k ∧ y ∉ xs
  | [], s, _, _, _, y, k => by simp
  | x :: xs, s, ok, nd, hx, y, k => by
    obtain ⟨n1, n2⟩ := List.nodup_cons.mp nd
    have h0 := hx x (List.mem_cons_self ..)
    have lm := Bd.leave_mem ok h0
    show (xs.foldl Bd.leave (s.leave x)).At y k ↔ _
    rw [Bd.leaves_at (ok.leave h0) n2 (fun z hz => (lm z).mpr ⟨hx z (List.mem_cons_of_mem _ hz), fun e => n1 (by rw [← e]; exact hz)⟩) y k, Bd.leave_at ok.ndo h0, List.mem_cons, not_or, and_assoc]
theorem Bd.leaves_used : ∀ {xs : List Str} {s : Bd} {y : Str}, y ∉ xs → getS (xs.foldl Bd.leave s).used y = getS s.used y
  | [], s, y, _ => rfl
  | x :: xs, s, y, h => by
    show getS (xs.foldl Bd.leave (s.leave x)).used y = _
    rw [Bd.leaves_used (fun m => h (List.mem_cons_of_mem _ m)), show (s.leave x).used = dropS s.used x from rfl, getS_dropS (fun e => h (by rw [e]; exact List.mem_cons_self ..))]
/-- the quanta hold behind units that end none of them in between -/
theorem Bd.UQ.units (rok : r.Ok) (ok : s.Ok0) {c d : Int} {fin : List Str} (d0 : 0 < d) (u : s.UQ r) (room : ∀ y ∈ s.run c, ∀ k q, s.At y k → r.quantAt k = some q → getS s.used y + d ≤ q) : (s.endUnits r c d fin).UQ r := by
  obtain ⟨m1, m2, m3, m4, m5⟩ := Bd.mid_after ok c d fin
  obtain ⟨_, v2, _⟩ := mid_vals ok (c := c) (d := d) (fin := fin)
  have atM : ∀ y k, (s.mid c d fin).At y k ↔ s.At y k := fun y k => by unfold Bd.At; rw [m5]
  have om : (s.mid c d fin).order = s.order := by unfold Bd.order; rw [m5]
  have lvs : (s.lv c fin).Sublist (s.run c) := List.filter_sublist
  have subL : ∀ x ∈ s.lv c fin, x ∈ (s.mid c d fin).order := fun x hx => by rw [om]; exact Bd.run_sub x (lvs.subset hx)
  obtain ⟨l1, l2, l3⟩ := m1.leaves ((Bd.run_nd ok).sublist lvs) subL
  have atL := Bd.leaves_at m1 ((Bd.run_nd ok).sublist lvs) subL
  have sub9 : ∀ x ∈ (s.run c).filter (fun x => decide (x ∉ s.lv c fin)), x ∈ ((s.lv c fin).foldl Bd.leave (s.mid c d fin)).order := fun x hx => by
    obtain ⟨x1, x2⟩ := List.mem_filter.mp hx
    exact (l2 x).mpr ⟨by rw [om]; exact Bd.run_sub x x1, of_decide_eq_true x2⟩
  have u1 : ((s.lv c fin).foldl Bd.leave (s.mid c d fin)).UQ1 r ((s.run c).filter fun x => decide (x ∉ s.lv c fin)) := fun y k q h1 h2 => by
    obtain ⟨a1, a2⟩ := (atL y k).mp h1
    have a3 := (atM y k).mp a1
    rw [Bd.leaves_used a2, v2 y ((ok.here _).mpr a3.mem)]
    have z := u y k q a3 h2
    by_cases m : y ∈ s.run c
    · rw [if_pos m]
      exact ⟨room y m k q a3 h2, fun w => absurd (List.mem_filter.mpr ⟨m, decide_eq_true a2⟩) w⟩
    · rw [if_neg m]
      exact ⟨by omega, fun _ => by omega⟩
  have uF := Bd.UQ1.quantas rok l1 sub9 u1
  have okF := (l1.quantas (r := r) sub9).1
  show Bd.UQ r (match r.boost with
    | some q => if (((s.run c).filter fun x => decide (x ∉ s.lv c fin)).foldl (Bd.quanta1 r) ((s.lv c fin).foldl Bd.leave (s.mid c d fin))).now.fmod q = 0 then Bd.lift (((s.run c).filter fun x => decide (x ∉ s.lv c fin)).foldl (Bd.quanta1 r) ((s.lv c fin).foldl Bd.leave (s.mid c d fin))) else ((s.run c).filter fun x => decide (x ∉ s.lv c fin)).foldl (Bd.quanta1 r) ((s.lv c fin).foldl Bd.leave (s.mid c d fin))
    | none => ((s.run c).filter fun x => decide (x ∉ s.lv c fin)).foldl (Bd.quanta1 r) ((s.lv c fin).foldl Bd.leave (s.mid c d fin)))
  generalize ((s.run c).filter fun x => decide (x ∉ s.lv c fin)).foldl (Bd.quanta1 r) ((s.lv c fin).foldl Bd.leave (s.mid c d fin)) = T at uF okF ⊢
  cases r.boost with
  | none => exact uF
  | some b =>
    show Bd.UQ r (if T.now.fmod b = 0 then T.lift else T)
    split
    · intro y k q _ h2
      have := rok.quant h2
      rw [show (T.lift).used = T.used.map fun p => (p.1, (0 : Int)) from rfl, getS_zero]
      omega
    · exact uF
theorem Bd.UQ.one (rok : r.Ok) (ok : s.Ok0) {c : Int} {fin : List Str} (u : s.UQ r) : (s.endUnits r c 1 fin).UQ r :=
  u.units rok ok (by decide) fun y _ k q h1 h2 => by have := u y k q h1 h2; omega
theorem Bd.UQ.enter (rok : r.Ok) (ok : s.Ok0) {e : Nat} (nx : x ∉ s.ran.map (·.1)) (u : s.UQ r) : (s.enter r x e).UQ r := by
  have l1 := ok.lines1
  have lt : min e (s.lines.length - 1) < s.lines.length := by omega
  have hh := List.getElem?_eq_getElem lt
  have nu : x ∉ s.used.map (·.1) := fun m => nx (ok.sub x ((ok.here x).mp m))
  intro y k q h1 h2
  show getS (s.used ++ [(x, 0)]) y < q
  by_cases z : y = x
  · rw [z, getS_app_new nu]
    have := rok.quant h2
    omega
  · have a : s.At y k := by
      rw [Bd.at_set (s := s) (t := s.enter r x e) rfl lt] at h1
      by_cases w : k = min e (s.lines.length - 1)
      · rw [if_pos w, getD_at hh] at h1
        refine ⟨_, by rw [w]; exact hh, ?_⟩
        split at h1
        · exact (List.mem_cons.mp h1).resolve_left z
        · exact (List.mem_append.mp h1).resolve_right fun m => z (List.mem_singleton.mp m)
      · rw [if_neg w] at h1
        exact h1
    rw [getS_app ((ok.here _).mpr a.mem)]
    exact u y k q a h2
theorem Bd.UQ.new : (Bd.new r).UQ r := fun y k q h1 _ => by
  obtain ⟨l, a, b⟩ := h1
  have : l = [] := List.eq_of_mem_replicate (List.mem_of_getElem? a)
  rw [this] at b
  cases b
end
end Vk
set_option maxHeartbeats 4000000
/-! the law's levels say what the board says -/
namespace Vk
open PySem PySem.Spec PyProof.Rows L2
abbrev Jb := Str × Int × Int
def jv (j : Jb) : HO := .lst [.str j.1, .int j.2.1, .int j.2.2]
def bumpJ (j : Jb) : Jb := (j.1, j.2.1 + 1, j.2.2 + 1)
def zeroJ (j : Jb) : Jb := (j.1, 0, j.2.2)
structure RelL (s : Bd) (J : List (List Jb)) : Prop where
  names : s.lines = J.map fun l => l.map (·.1)
  vals : ∀ l ∈ J, ∀ j ∈ l, getS s.used j.1 = j.2.1 ∧ getS s.ran j.1 = j.2.2
section
variable {s : Bd} {J : List (List Jb)} {x : Str} {r : Rl}
theorem RelL.len (R : RelL s J) : s.lines.length = J.length := by rw [R.names, List.length_map]
theorem RelL.order (R : RelL s J) : s.order = J.flatten.map (·.1) := by
  unfold Bd.order
  rw [R.names, List.map_flatten]
theorem RelL.at_ (R : RelL s J) {i : Nat} {l : List Jb} {j : Jb} (h : J[i]? = some l) (hj : j ∈ l) : s.At j.1 i :=
  ⟨l.map (·.1), by rw [R.names, List.getElem?_map, h]; rfl, List.mem_map.mpr ⟨j, hj, rfl⟩⟩
theorem RelL.line (R : RelL s J) {i : Nat} {l : List Jb} (h : J[i]? = some l) : s.lines[i]? = some (l.map (·.1)) := by rw [R.names, List.getElem?_map, h]; rfl
theorem RelL.inO (R : RelL s J) {l : List Jb} {j : Jb} (h : l ∈ J) (hj : j ∈ l) : j.1 ∈ s.order := by
  rw [R.order]
  exact List.mem_map.mpr ⟨j, List.mem_flatten.mpr ⟨l, h, hj⟩, rfl⟩
theorem getDJ {J : List (List Jb)} {i : Nat} {l : List Jb} (h : J[i]? = some l) : J.getD i [] = l := by
  rw [List.getD_eq_getElem?_getD, h]
  rfl
theorem mem_set_or {α : Type} {J : List α} {i : Nat} {a b : α} (h : a ∈ J.set i b) : (∃ k, k ≠ i ∧ J[k]? = some a) ∨ a = b := by
  obtain ⟨k, hk, e⟩ := List.mem_iff_getElem.mp h
  by_cases z : k = i
  · subst z
    right
    rw [List.getElem_set_self] at e
    exact e.symm
  · left
    rw [List.getElem_set_ne (Ne.symm z)] at e
    rw [List.length_set] at hk
    exact ⟨k, z, by rw [List.getElem?_eq_getElem hk, e]⟩
/-- without x -/
def noX (x : Str) (l : List Jb) : List Jb := l.filter fun j => decide (j.1 ≠ x)
theorem noX_names {l : List Jb} {x : Str} (nd : (l.map (·.1)).Nodup) : (noX x l).map (·.1) = (l.map (·.1)).erase x := by
  rw [List.Nodup.erase_eq_filter nd, List.filter_map]
  unfold noX
  congr 1
  refine List.filter_congr fun j _ => ?_
  by_cases z : j.1 = x <;> simp [z, bne]
theorem RelL.out_vals (R : RelL s J) (nd : s.order.Nodup) {i : Nat} {l : List Jb} (h : J[i]? = some l) (hx : s.At x i) : ∀ m ∈ J.set i (noX x l), ∀ j ∈ m, j.1 ≠ x ∧ ∃ m' ∈ J, j ∈ m' := fun m hm j hj => by
  rcases mem_set_or hm with ⟨k, ne, hk⟩ | rfl
  · exact ⟨fun e => ne ((R.at_ hk hj).uniq nd (by rw [e]; exact hx)), m, List.mem_of_getElem? hk, hj⟩
  · obtain ⟨a, b⟩ := List.mem_filter.mp hj
    exact ⟨of_decide_eq_true b, l, List.mem_of_getElem? h, a⟩
theorem RelL.out_lines (R : RelL s J) (nd : s.order.Nodup) {i : Nat} {l : List Jb} (h : J[i]? = some l) (hx : s.At x i) : (s.out x).lines = (J.set i (noX x l)).map fun l => l.map (·.1) := by
  have e := hx.level nd
  have hl := R.line h
  have ndl : (l.map (·.1)).Nodup := nd.sublist (List.sublist_flatten_of_mem (List.mem_of_getElem? hl))
  show s.lines.set (s.level x) ((s.lines.getD (s.level x) []).erase x) = _
  rw [e, getD_at hl, List.map_set, noX_names ndl, ← R.names]
theorem RelL.leave (R : RelL s J) (nd : s.order.Nodup) {i : Nat} {l : List Jb} (h : J[i]? = some l) (hx : s.At x i) : RelL (s.leave x) (J.set i (noX x l)) := by
  refine ⟨R.out_lines nd h hx, fun m hm j hj => ?_⟩
  obtain ⟨ne, m', h1, h2⟩ := R.out_vals nd h hx m hm j hj
  obtain ⟨a, b⟩ := R.vals m' h1 j h2
  exact ⟨by rw [show (s.leave x).used = dropS s.used x from rfl, getS_dropS ne]; exact a, b⟩
/-- a quantum ends -/
theorem RelL.quanta (R : RelL s J) (ok : s.Ok0) {i : Nat} {l lb : List Jb} (h : J[i]? = some l) (hx : s.At x i) (hq : r.quantAt i = some (getS s.used x)) (hb : (J.set i (noX x l))[min (i + 1) (J.length - 1)]? = some lb) :
    RelL (s.quanta1 r x) ((J.set i (noX x l)).set (min (i + 1) (J.length - 1)) (lb ++ [(x, 0, getS s.ran x)])) := by
  have e := hx.level ok.ndo
  have q1 : s.quanta1 r x = { s with lines := (s.out x).lines.set (min (s.level x + 1) (s.lines.length - 1)) ((s.out x).lines.getD (min (s.level x + 1) (s.lines.length - 1)) [] ++ [x]), used := putS s.used x 0 } := by
    rw [Bd.quanta_if, if_pos (by rw [e]; exact hq)]
  have ol := R.out_lines ok.ndo h hx
  have ku : x ∈ s.used.map (·.1) := (ok.here _).mpr hx.mem
  have eu : (s.quanta1 r x).used = putS s.used x 0 := by rw [q1]
  have er : (s.quanta1 r x).ran = s.ran := by rw [q1]
  refine ⟨?_, fun m hm j hj => ?_⟩
  · rw [q1]
    show (s.out x).lines.set _ _ = _
    have hb' : ((J.set i (noX x l)).map fun l => l.map (·.1))[min (i + 1) (J.length - 1)]? = some (lb.map (·.1)) := by rw [List.getElem?_map, hb]; rfl
    rw [e, R.len, ol, getD_at hb']
    symm
    rw [List.map_set, List.map_append]
    rfl
  · rw [eu, er]
    have old : ∀ m ∈ J.set i (noX x l), ∀ j ∈ m, getS (putS s.used x 0) j.1 = j.2.1 ∧ getS s.ran j.1 = j.2.2 := fun m hm j hj => by
      obtain ⟨ne, m', h1, h2⟩ := R.out_vals ok.ndo h hx m hm j hj
      obtain ⟨a, b⟩ := R.vals m' h1 j h2
      rw [getS_putS ((ok.here _).mpr (R.inO h1 h2)), if_neg ne]
      exact ⟨a, b⟩
    rcases mem_set_or hm with ⟨k, _, hk⟩ | rfl
    · exact old m (List.mem_of_getElem? hk) j hj
    · rcases List.mem_append.mp hj with hj | hj
      · exact old lb (List.mem_of_getElem? hb) j hj
      · rw [List.mem_singleton.mp hj]
        show getS (putS s.used x 0) x = 0 ∧ getS s.ran x = getS s.ran x
        rw [getS_putS ku, if_pos rfl]
        exact ⟨rfl, rfl⟩
theorem RelL.lift (R : RelL s J) : RelL s.lift (J.flatten.map zeroJ :: List.replicate (J.length - 1) []) := by
  refine ⟨?_, fun m hm j hj => ?_⟩
  · show s.order :: List.replicate (s.lines.length - 1) [] = _
    rw [R.order, R.len, List.map_cons, List.map_map, List.map_replicate]
    rfl
  · rcases List.mem_cons.mp hm with rfl | hm
    · obtain ⟨i, hi, rfl⟩ := List.mem_map.mp hj
      obtain ⟨l, hl, hi⟩ := List.mem_flatten.mp hi
      exact ⟨getS_zero, (R.vals l hl i hi).2⟩
    · rw [List.eq_of_mem_replicate hm] at hj
      cases hj
theorem RelL.enter (R : RelL s J) (ok : s.Ok0) {e : Nat} {l : List Jb} (h : J[min e (J.length - 1)]? = some l) (nx : x ∉ s.ran.map (·.1)) :
    RelL (s.enter r x e) (J.set (min e (J.length - 1)) (if r.stackAt (min e (J.length - 1)) = true then (x, 0, 0) :: l else l ++ [(x, 0, 0)])) := by
  have nu : x ∉ s.used.map (·.1) := fun m => nx (ok.sub x ((ok.here x).mp m))
  have hl := R.line h
  refine ⟨?_, fun m hm j hj => ?_⟩
  · show s.lines.set (min e (s.lines.length - 1)) (if r.stackAt (min e (s.lines.length - 1)) = true then x :: s.lines.getD (min e (s.lines.length - 1)) [] else s.lines.getD (min e (s.lines.length - 1)) [] ++ [x]) = _
    rw [R.len, getD_at hl, List.map_set, ← R.names]
    congr 1
    split
    · rfl
    · rw [List.map_append]
      rfl
  · have old : ∀ m ∈ J, ∀ j ∈ m, getS (s.used ++ [(x, 0)]) j.1 = j.2.1 ∧ getS (s.ran ++ [(x, 0)]) j.1 = j.2.2 := fun m hm j hj => by
      have jo := R.inO hm hj
      rw [getS_app ((ok.here _).mpr jo), getS_app (ok.sub _ jo)]
      exact R.vals m hm j hj
    have new : getS (s.used ++ [(x, 0)]) x = 0 ∧ getS (s.ran ++ [(x, 0)]) x = 0 := ⟨getS_app_new nu, getS_app_new nx⟩
    rcases mem_set_or hm with ⟨k, _, hk⟩ | rfl
    · exact old m (List.mem_of_getElem? hk) j hj
    · split at hj
      · rcases List.mem_cons.mp hj with rfl | hj
        · exact new
        · exact old l (List.mem_of_getElem? h) j hj
      · rcases List.mem_append.mp hj with hj | hj
        · exact old l (List.mem_of_getElem? h) j hj
        · rw [List.mem_singleton.mp hj]
          exact new
/-- the units of the running ones -/
def bumpIf (xs : List Str) (j : Jb) : Jb := if j.1 ∈ xs then bumpJ j else j
theorem bumpIf_fst {xs : List Str} {j : Jb} : (bumpIf xs j).1 = j.1 := by
  unfold bumpIf
  split <;> rfl
theorem RelL.mid (R : RelL s J) (ok : s.Ok0) {c : Int} {fin : List Str} : RelL (s.mid c 1 fin) (J.map fun l => l.map (bumpIf (s.run c))) := by
  obtain ⟨_, _, _, _, m5⟩ := Bd.mid_after ok c 1 fin
  obtain ⟨v1, v2, _⟩ := mid_vals ok (c := c) (d := 1) (fin := fin)
  refine ⟨?_, fun m hm j hj => ?_⟩
  · rw [m5, R.names, List.map_map]
    refine List.map_congr_left fun l _ => ?_
    show _ = (l.map (bumpIf (s.run c))).map (·.1)
    rw [List.map_map]
    exact List.map_congr_left fun j _ => bumpIf_fst.symm
  · obtain ⟨l, hl, rfl⟩ := List.mem_map.mp hm
    obtain ⟨i, hi, rfl⟩ := List.mem_map.mp hj
    have io := R.inO hl hi
    obtain ⟨w1, w2⟩ := R.vals l hl i hi
    rw [bumpIf_fst, v2 _ ((ok.here _).mpr io), v1 _ (ok.sub _ io), w1, w2]
    unfold bumpIf
    split
    · exact ⟨rfl, rfl⟩
    · exact ⟨Int.add_zero _, Int.add_zero _⟩
theorem RelL.new : RelL (Bd.new r) (List.replicate r.levels.length []) := by
  refine ⟨?_, fun m hm j hj => ?_⟩
  · show List.replicate r.levels.length [] = _
    rw [List.map_replicate]
    rfl
  · rw [List.eq_of_mem_replicate hm] at hj
    cases hj
end
/-! ### a rule by its data -/
theorem opt_of {d : PyData} (h : countD d = true) : ∃ q : Option Int, d = bOptD q ∧ ∀ i, q = some i → 1 ≤ i := by
  cases d with
  | none => exact ⟨none, rfl, fun i e => nomatch e⟩
  | int i => exact ⟨some i, rfl, fun j e => by cases e; exact of_decide_eq_true h⟩
  | _ => cases h
theorem kind_of {d : PyData} (h : kindD d = true) : ∃ b : Bool, d = .str (bKindS b) := by
  cases d with
  | str x =>
    have z : (x == ("queue" : Str) || x == ("stack" : Str)) = true := h
    rcases Bool.or_eq_true_iff.mp z with e | e
    · exact ⟨false, by rw [beq_iff_eq.mp e]; rfl⟩
    · exact ⟨true, by rw [beq_iff_eq.mp e]; rfl⟩
  | _ => cases h
theorem level_of {d : PyData} (h : levelD d = true) : ∃ l : Bool × Option Int, d = bLevD l ∧ ∀ i, l.2 = some i → 1 ≤ i := by
  unfold levelD at h
  split at h
  · obtain ⟨h1, h2⟩ := Bool.and_eq_true_iff.mp h
    obtain ⟨b, rfl⟩ := kind_of h1
    obtain ⟨q, rfl, qok⟩ := opt_of h2
    exact ⟨(b, q), rfl, qok⟩
  · cases h
theorem rule_of {ls : List PyData} {b : PyData} (h1 : 1 ≤ ls.length) (h6 : ls.length ≤ 6) (h : ls.all levelD = true) (hb : countD b = true) : ∃ r : Rl, .tuple [.tuple ls, b] = bRulD r ∧ r.Ok := by
  obtain ⟨q, rfl, qok⟩ := opt_of hb
  have ex : ∃ L : List (Bool × Option Int), ls = L.map bLevD ∧ ∀ l ∈ L, ∀ i, l.2 = some i → 1 ≤ i := by
    clear h1 h6
    induction ls with
    | nil => exact ⟨[], rfl, fun l hl => nomatch hl⟩
    | cons d ls ih =>
      rw [List.all_cons, Bool.and_eq_true_iff] at h
      obtain ⟨l, rfl, lok⟩ := level_of h.1
      obtain ⟨L, rfl, Lok⟩ := ih h.2
      exact ⟨l :: L, rfl, fun m hm => by
        rcases List.mem_cons.mp hm with rfl | hm
        · exact lok
        · exact Lok m hm⟩
  obtain ⟨L, rfl, Lok⟩ := ex
  rw [List.length_map] at h1 h6
  exact ⟨⟨L, q⟩, rfl, ⟨h1, h6, Lok, qok⟩⟩
end Vk
set_option maxHeartbeats 8000000
/-! some of the names -/
namespace Vk
open PySem PySem.Spec PyProof.Rows L2 GxR
theorem perm_eraseIdx {α : Type} : ∀ {l : List α} {n : Nat} (h : n < l.length), (l[n] :: l.eraseIdx n).Perm l
  | a :: l, 0, _ => List.Perm.refl _
  | a :: l, n + 1, h => by
    have ih := perm_eraseIdx (l := l) (n := n) (Nat.lt_of_succ_lt_succ h)
    show (l[n]'(Nat.lt_of_succ_lt_succ h) :: a :: l.eraseIdx n).Perm (a :: l)
    exact (List.Perm.swap a _ _).trans (ih.cons a)
section
variable {P : Program} {w : World} {K : PySem.W.Frag} {mg : Str → Option Value} {base : Heap}
def spSome (K : PySem.W.Frag) : Sp := fun vs H Q _ => ∃ (a sc ta : Addr) (n : Int) (ns : List Str), vs = [.ref a, .ref ta] ∧ Sto sc a n H ∧ n ≤ 900000 ∧ SqT K (Off a H) ta (ns.map V.str) ∧ ns.Nodup ∧ ns.length ≤ 12 ∧
  ∀ (t : Addr) (fs : List Str) (H' : Hp), Sto sc a (n + 20) H' → Kept a H H' → fs.Nodup → (∀ x ∈ fs, x ∈ ns) → H t = none → H' t = some (.tup (fs.map V.str)) → Q (.ref t) H'
theorem scSome : FnScope ["store", "names", "left", "found", "k"] ["store", "names"] (defScope sSome) := ⟨rfl, rfl, rfl, by decide +kernel, rfl, by decide +kernel, by decide +kernel⟩
theorem ok_some (D : Df K mg "_law_some" sSome ["store", "names"]) (B : Blt mg) (ml : mg "list" = none) (mt : mg "tuple" = none) (PK : Cl P w K mg base CX0 2 "_law_pick" ["store", "count"] spPick) : Cl P w K mg base CX0 3 "_law_some" ["store", "names"] (spSome K) := by
  refine cl0 D scSome (fun vs H Q E h => ?_) (fun f cdv A outer s0 H vs Q E hr h => ?_)
  · obtain ⟨a, sc, ta, n, ns, rfl, _⟩ := h
    rfl
  · obtain ⟨a, sc, ta, n, ns, rfl, S, n9, hta, nd, len, k⟩ := h
    refine ⟨_, pss_cons (ps_if (PW.pt (pw_or (pt_cmpR (op_eqNilT (Nat.lt_of_succ_lt (hu_of hr))) (pv 1) (pe_tup pa_nil) (nomark _)) (pw_or1 (pt_cmpR op_eq (pc PK hr (by decide) (pa_cons (pv 0) (pa_cons pe_int pa_nil))) pe_int (nomark _))))) (pss_one (ps_ret (pe_tup pa_nil))) pss_nil)
      (pss_cons (ps_set (i := 2) scSome.nd rfl (Or.inl rfl) (pe_callTy call_list_of (by rfl) ml (by decide +kernel) (pa_cons (pv 1) pa_nil)))
      (pss_cons (ps_set (i := 3) scSome.nd rfl (Or.inl rfl) (pe_lst pa_nil))
      (pss_cons (ps_for PassesOwn.never rfl (pi_range1 rfl B.range (pa_cons (pe_op op_add pe_int (pc PK hr (by decide) (pa_cons (pv 0) (pa_cons (pe_callB call_len_seq (by rfl) B.len PySem.boot_len (pa_cons (pv 2) pa_nil)) pa_nil)))) pa_nil)) (pg_name (i := 4) scSome.nd rfl (Or.inl rfl))
        (pss_one (ps_expr (pe_bm PySem.F.plainAttrs_list PySem.F.slot_list_append PySem.F.type_list_append mt_append (pv 3) (pa_cons (pe_bm PySem.F.plainAttrs_list PySem.F.slot_list_pop PySem.F.type_list_pop mt_popAt (pv 2) (pa_cons (pc PK hr (by decide) (pa_cons (pv 0) (pa_cons (pe_callB call_len_seq (by rfl) B.len PySem.boot_len (pa_cons (pv 2) pa_nil)) pa_nil))) pa_nil)) pa_nil)))))
      (pss_one (ps_ret (pe_callTy call_tuple_of (by rfl) mt (by decide +kernel) (pa_cons (pv 3) pa_nil))))))), ?_⟩
    have nil_ : ∀ {G : Hp}, Sto sc a (n + 1) G → Kept a H G → ∀ p, G p = none → Q (.ref p) (upd G p (.tup (([] : List Str).map V.str))) := fun {G} SG KG p np => by
      have pa := SG.ne np
      have ps := SG.ne2 np
      have hp : H p = none := by
        have z : Off a G p = none := by rw [off_ne pa]; exact np
        have y := KG.free z
        rw [off_ne pa] at y
        exact y
      exact k p [] _ ((SG.other pa ps).more (by omega)) (kept_new_put KG hp pa) List.nodup_nil (fun x hx => nomatch hx) hp upd_same
    refine ⟨_, rfl, Nat.zero_le _, fun e0 ne0 => ?_⟩
    have a0 := S.ne ne0
    have s0' := same_new (o := .tup ([] : List V)) ne0
    have K0 : Kept a H (upd H e0 (.tup [])) := kept_new_put (Kept.refl a H) ne0 a0
    have S0 := S.other (o := .tup []) a0 (S.ne2 ne0)
    refine ⟨ta, e0, _, rfl, rfl, same_seqT ((off_sub a H).trans s0') hta, SqT.of upd_same, ?_⟩
    have emp : (ns.map V.str).isEmpty = ns.isEmpty := by cases ns <;> rfl
    refine ⟨_, rfl, ?_⟩
    rw [emp]
    by_cases he : ns = []
    · rw [he]
      refine iteT ?_
      refine iteT ?_
      exact ⟨Nat.zero_le _, fun p np => nil_ (S0.more (by omega)) K0 p np⟩
    have hz : ns.isEmpty = false := by cases ns with
      | nil => exact absurd rfl he
      | cons _ _ => rfl
    have pos : 0 < ns.length := List.length_pos_iff.mpr he
    rw [hz]
    refine iteF ?_
    generalize upd H e0 (.tup ([] : List V)) = H0 at S0 K0 ⊢
    refine ⟨_, rfl, a, sc, 2, n, rfl, by decide, by decide, S0, by omega, fun r H1 r0 r2 S1 K1 => ?_⟩
    have K01 := K0.trans K1
    refine ⟨rfl, _, rfl, ite2 (fun hq => ?_) (fun hq => ?_)⟩
    · exact ⟨Nat.zero_le _, fun p np => nil_ S1 K01 p np⟩
    · refine ⟨_, rfl, ta, _, rfl, .inr (same_seqT ((show Same (Off a H) (Off a H1) from K01).trans (off_sub a H1)) hta), fun l1 nl1 => ?_⟩
      have l1a := S1.ne nl1
      have Sa := S1.other (o := .lst (ns.map V.str)) l1a (S1.ne2 nl1)
      refine ⟨Nat.zero_le _, fun l2 nl2 => ?_⟩
      have l2a := Sa.ne nl2
      have l21 : l2 ≠ l1 := fun e => by rw [e, upd_same] at nl2; cases nl2
      have Sb := Sa.other (o := .lst []) l2a (Sa.ne2 nl2)
      have h1b : upd (upd H1 l1 (.lst (ns.map V.str))) l2 (.lst []) l1 = some (.lst (ns.map V.str)) := by rw [upd_ne (Ne.symm l21), upd_same]
      have n2 : H1 l2 = none := by rw [upd_ne l21] at nl2; exact nl2
      have hl1 : H l1 = none := by
        have z : Off a H1 l1 = none := by rw [off_ne l1a]; exact nl1
        have y := K01.free z
        rw [off_ne l1a] at y
        exact y
      have hl2 : H l2 = none := by
        have z : Off a H1 l2 = none := by rw [off_ne l2a]; exact n2
        have y := K01.free z
        rw [off_ne l2a] at y
        exact y
      have Kb : Same (Off a H) (Off l1 (Off l2 (Off a (upd (upd H1 l1 (.lst (ns.map V.str))) l2 (.lst []))))) := by
        have e : Off l1 (Off l2 (Off a (upd (upd H1 l1 (.lst (ns.map V.str))) l2 (.lst [])))) = Off a H1 := by
          funext x
          by_cases x1 : x = l1
          · rw [x1, off_same, off_ne l1a, nl1]
          · rw [off_ne x1]
            by_cases x2 : x = l2
            · rw [x2, off_same, off_ne l2a, n2]
            · rw [off_ne x2]
              by_cases x3 : x = a
              · rw [x3, off_same, off_same]
              · rw [off_ne x3, off_ne x3, upd_ne x2, upd_ne x1]
        rw [e]
        exact K01
      generalize hG : upd (upd H1 l1 (.lst (ns.map V.str))) l2 (.lst []) = G at Sb h1b Kb ⊢
      have h2b : G l2 = some (.lst []) := by rw [← hG, upd_same]
      -- a draw keeps both lists
      have draw : ∀ {X Y : Hp} {o1 o2 : List V}, Kept a X Y → X l1 = some (.lst o1) → X l2 = some (.lst o2) → Y l1 = some (.lst o1) ∧ Y l2 = some (.lst o2) := fun {X Y o1 o2} kk e1 e2 => by
        have kk : Same (Off a X) (Off a Y) := kk
        have y1 := kk.at (o := .lst o1) (by rw [off_ne l1a]; exact e1)
        have y2 := kk.at (o := .lst o2) (by rw [off_ne l2a]; exact e2)
        rw [off_ne l1a] at y1
        rw [off_ne l2a] at y2
        exact ⟨y1, y2⟩
      refine ⟨_, rfl, _, rfl, l1, _, rfl, .inl (SqL.of h1b), a, sc, ((ns.map V.str).length : Nat), n + 1, rfl, by rw [List.length_map]; omega, by rw [List.length_map]; omega, Sb, by omega, fun rk G1 rk0 rk1 Sc Kc => ?_⟩
      rw [List.length_map] at rk1
      obtain ⟨h1c, h2c⟩ := draw Kc h1b h2b
      have offs : ∀ {X : Hp} {o1 o2 : HO}, Off l1 (Off l2 (Off a (upd (upd X l1 o1) l2 o2))) = Off l1 (Off l2 (Off a X)) := fun {X o1 o2} => by
        funext x
        by_cases x1 : x = l1
        · rw [x1, off_same, off_same]
        · rw [off_ne x1, off_ne x1]
          by_cases x2 : x = l2
          · rw [x2, off_same, off_same]
          · rw [off_ne x2, off_ne x2]
            by_cases x3 : x = a
            · rw [x3, off_same, off_same]
            · rw [off_ne x3, off_ne x3, upd_ne x2, upd_ne x1]
      refine ⟨_, _, rfl, rfl, _, rfl, by omega, by omega, ?_⟩
      refine for_it (D := { nx := _, rt := _ }) (walk_range (lo := 0) (n := (1 + rk).toNat)) (fun i σ X => ∃ (lf fo : List Str) (u4 : Option V), σ = [some (.ref a), some (.ref ta), some (.ref l1), some (.ref l2), u4] ∧ Sto sc a (n + 2 + (i : Nat)) X ∧ X l1 = some (.lst (lf.map V.str)) ∧ X l2 = some (.lst (fo.map V.str)) ∧ fo.length = i ∧ (lf ++ fo).Perm ns ∧ Same (Off a H) (Off l1 (Off l2 (Off a X))))
        ⟨ns, [], none, rfl, Sc.more (by omega), h1c, h2c, rfl, by rw [List.append_nil], Kb.trans (off_mono (a := l1) (off_mono (a := l2) Kc))⟩ (fun i σ X _ _ => trivial) ?_ ?_
      · rintro i y σ G0 X hi ⟨lf, fo, u4, rfl, SX, x1, x2, lfo, pm, sX⟩ ⟨rfl, rfl⟩
        have ll := pm.length_eq
        rw [List.length_append, lfo] at ll
        refine ⟨_, rfl, .inl ⟨rfl, _, SqL.of x2⟩, _, rfl, .inl ⟨rfl, _, SqL.of x1⟩, _, rfl, _, rfl, l1, _, rfl, .inl (SqL.of x1), a, sc, ((lf.map V.str).length : Nat), n + 2 + (i : Nat), rfl, by rw [List.length_map]; omega, by rw [List.length_map]; omega, SX, by omega, fun rp X2 p0 p1 SX2 KX => ?_⟩
        rw [List.length_map] at p1
        obtain ⟨x1', x2'⟩ := draw KX x1 x2
        have kl : rp.toNat < lf.length := by omega
        refine ⟨l1, _, rp, rp.toNat, .str lf[rp.toNat], rfl, rfl, x1', by omega, by omega, ?_, ?_, ?_⟩
        · rw [List.length_map]
          exact sq_at p0 p1
        · rw [List.getElem?_map, List.getElem?_eq_getElem kl]
          rfl
        rw [map_erase]
        refine ⟨l2, _, _, rfl, rfl, by rw [upd_ne l21]; exact x2', ?_, ?_⟩
        · rw [List.length_map, lfo]
          exact Nat.lt_of_lt_of_le (show i < 1000 by omega) (by decide)
        · refine ⟨lf.eraseIdx rp.toNat, fo ++ [lf[rp.toNat]], _, rfl, ?_, by rw [upd_ne (Ne.symm l21), upd_same], by rw [upd_same, List.map_append]; rfl, by rw [List.length_append, lfo]; rfl, ?_, ?_⟩
          · have z := (SX2.other (o := .lst ((lf.eraseIdx rp.toNat).map V.str)) l1a (S1.ne2 nl1))
            exact (z.other l2a (Sa.ne2 nl2)).more (by omega)
          · have e : (lf[rp.toNat] :: lf.eraseIdx rp.toNat).Perm lf := perm_eraseIdx kl
            have e2 : (lf.eraseIdx rp.toNat ++ (fo ++ [lf[rp.toNat]])).Perm (lf ++ fo) := by
              rw [← List.append_assoc]
              refine (List.perm_append_singleton _ _).trans ?_
              exact e.append_right fo
            exact e2.trans pm
          · rw [offs]
            exact sX.trans (off_mono (a := l1) (off_mono (a := l2) KX))
      · rintro σ X ⟨lf, fo, u4, rfl, SX, x1, x2, lfo, pm, sX⟩
        refine ⟨_, rfl, l2, _, rfl, .inl ⟨SqL.of x2, fun t nt => ?_⟩⟩
        have ta_ := SX.ne nt
        have ht : H t = none := by
          have nl : t ≠ l1 := fun e => by rw [e, x1] at nt; cases nt
          have n2' : t ≠ l2 := fun e => by rw [e, x2] at nt; cases nt
          have y := sX.free (l := t) (by rw [off_ne nl, off_ne n2', off_ne ta_]; exact nt)
          rw [off_ne ta_] at y
          exact y
        refine k t fo _ ((SX.other ta_ (SX.ne2 nt)).more (by omega)) ?_ ?_ (fun x hx => pm.mem_iff.mp (List.mem_append_right _ hx)) ht upd_same
        · refine kept_new_put (show Kept a H X from ?_) ht ta_
          exact sX.trans ((off_sub l1 _).trans (off_sub l2 _))
        · exact (List.nodup_append.mp (pm.nodup_iff.mpr nd)).2.1
end
end Vk
set_option maxHeartbeats 4000000
/-! the law's levels in the heap -/
namespace Vk
open PySem PySem.Spec PyProof.Rows L2 GxR
def refs (A : List (Addr × Jb)) : List V := A.map fun p => V.ref p.1
def JsAt (H : Hp) (A : List (Addr × Jb)) : Prop := ∀ p ∈ A, H p.1 = some (jv p.2)
abbrev Lv := List (Addr × List (Addr × Jb))
def tops (L : Lv) : List V := L.map fun p => V.ref p.1
def jbs (L : Lv) : List (List Jb) := L.map fun p => p.2.map (·.2)
def jl (L : Lv) : List (Addr × Jb) := L.flatMap (·.2)
def jas (L : Lv) : List Addr := (jl L).map (·.1)
structure LnAt (X : Hp) (ls : Addr) (L : Lv) : Prop where
  top : X ls = some (.lst (tops L))
  line : ∀ p ∈ L, X p.1 = some (.lst (refs p.2))
  jobs : JsAt X (jl L)
  nd : (jas L).Nodup
theorem JsAt.same {H H' : Hp} {A : List (Addr × Jb)} (h : JsAt H A) (s : Same H H') : JsAt H' A := fun p hp => s.at (h p hp)
theorem LnAt.same {X X' : Hp} {ls : Addr} {L : Lv} (h : LnAt X ls L) (s : Same X X') : LnAt X' ls L := ⟨s.at h.top, fun p hp => s.at (h.line p hp), h.jobs.same s, h.nd⟩
theorem refs_noInt {A : List (Addr × Jb)} {v : V} {i : Int} {tl : List V} (e : refs A = v :: .int i :: tl) : False := by
  unfold refs at e
  cases A with
  | nil => cases e
  | cons w r =>
    cases r with
    | nil => cases e
    | cons u r => cases e
theorem refs_noStr {A : List (Addr × Jb)} {x : Str} {tl : List V} (e : refs A = .str x :: tl) : False := by
  unfold refs at e
  cases A with
  | nil => cases e
  | cons w r => cases e
theorem tops_noInt {L : Lv} {v : V} {i : Int} {tl : List V} (e : tops L = v :: .int i :: tl) : False := by
  unfold tops at e
  cases L with
  | nil => cases e
  | cons w r =>
    cases r with
    | nil => cases e
    | cons u r => cases e
theorem tops_noStr {L : Lv} {x : Str} {tl : List V} (e : tops L = .str x :: tl) : False := by
  unfold tops at e
  cases L with
  | nil => cases e
  | cons w r => cases e
theorem jl_mem {L : Lv} {p : Addr × List (Addr × Jb)} {a : Addr × Jb} (hp : p ∈ L) (ha : a ∈ p.2) : a ∈ jl L := List.mem_flatMap.mpr ⟨p, hp, ha⟩
theorem jl_ex {L : Lv} {a : Addr × Jb} (h : a ∈ jl L) : ∃ p ∈ L, a ∈ p.2 := List.mem_flatMap.mp h
theorem jbs_len {L : Lv} : (jbs L).length = L.length := List.length_map ..
theorem jbs_get {L : Lv} {i : Nat} {p : Addr × List (Addr × Jb)} (h : L[i]? = some p) : (jbs L)[i]? = some (p.2.map (·.2)) := by
  unfold jbs
  rw [List.getElem?_map, h]
  rfl
theorem jbs_flat {L : Lv} : (jbs L).flatten = (jl L).map (·.2) := by
  unfold jbs jl
  induction L with
  | nil => rfl
  | cons p L ih => rw [List.map_cons, List.flatten_cons, List.flatMap_cons, List.map_append, ih]
theorem nd_inj {α β : Type} {f : α → β} : ∀ {l : List α} {a b : α}, (l.map f).Nodup → a ∈ l → b ∈ l → f a = f b → a = b
  | [], _, _, _, h, _, _ => by cases h
  | x :: l, a, b, nd, ha, hb, e => by
    obtain ⟨n1, n2⟩ := List.nodup_cons.mp nd
    rcases List.mem_cons.mp ha with ha | ha
    · rcases List.mem_cons.mp hb with hb | hb
      · rw [ha, hb]
      · exact absurd (List.mem_map.mpr ⟨b, hb, by rw [← e, ha]⟩) n1
    · rcases List.mem_cons.mp hb with hb | hb
      · exact absurd (List.mem_map.mpr ⟨a, ha, by rw [e, hb]⟩) n1
      · exact nd_inj n2 ha hb e
theorem jl_names {L : Lv} {s : Bd} (R : RelL s (jbs L)) : (jl L).map (fun a => a.2.1) = s.order := by
  rw [R.order, jbs_flat, List.map_map]
  rfl
/-- ls is no job, no line -/
theorem LnAt.ls_job {X : Hp} {ls : Addr} {L : Lv} (h : LnAt X ls L) : ls ∉ jas L := fun m => by
  obtain ⟨a, ha, e⟩ := List.mem_map.mp m
  have z := h.jobs a ha
  rw [e, h.top] at z
  exact tops_noStr (HO.lst.inj (Option.some.inj z))
theorem LnAt.ls_line {X : Hp} {ls : Addr} {L : Lv} (h : LnAt X ls L) : ∀ p ∈ L, p.1 ≠ ls := fun p hp e => by
  have z := h.line p hp
  rw [e, h.top] at z
  have w := HO.lst.inj (Option.some.inj z)
  unfold tops refs at w
  have m : V.ref p.1 ∈ L.map fun p => V.ref p.1 := List.mem_map.mpr ⟨p, hp, rfl⟩
  rw [w] at m
  obtain ⟨a, ha, e2⟩ := List.mem_map.mp m
  have y := h.jobs a (jl_mem hp ha)
  rw [V.ref.inj e2, h.line p hp] at y
  exact refs_noStr (HO.lst.inj (Option.some.inj y))
theorem LnAt.line_job {X : Hp} {ls : Addr} {L : Lv} (h : LnAt X ls L) : ∀ p ∈ L, p.1 ∉ jas L := fun p hp m => by
  obtain ⟨a, ha, e⟩ := List.mem_map.mp m
  have z := h.jobs a ha
  rw [e, h.line p hp] at z
  exact refs_noStr (HO.lst.inj (Option.some.inj z))
/-- one level becomes another line -/
theorem LnAt.setLv {X X' : Hp} {ls : Addr} {L : Lv} (h : LnAt X ls L) (k : Same (Off ls X) (Off ls X')) {i : Nat} {d : Addr} {A : List (Addr × Jb)} (dn : d ≠ ls) (hd : X' d = some (.lst (refs A))) (hA : JsAt X' A) (nd : (jas (L.set i (d, A))).Nodup) (hl : X' ls = some (.lst (tops (L.set i (d, A))))) : LnAt X' ls (L.set i (d, A)) := by
  have old : ∀ {z : Addr} {o : HO}, z ≠ ls → X z = some o → NoTbl o → X' z = some o := fun {z o} zn e nt => by
    have y := k.at_ z o (by rw [off_ne zn]; exact e) nt
    rw [off_ne zn] at y
    exact y
  have mem : ∀ p ∈ L.set i (d, A), (∃ p' ∈ L, p' = p) ∨ p = (d, A) := fun p hp => by
    rcases mem_set_or hp with ⟨k, _, e⟩ | e
    · exact .inl ⟨p, List.mem_of_getElem? e, rfl⟩
    · exact .inr e
  refine ⟨hl, fun p hp => ?_, fun a ha => ?_, nd⟩
  · rcases mem p hp with ⟨p', h1, rfl⟩ | rfl
    · exact old (h.ls_line _ h1) (h.line _ h1) trivial
    · exact hd
  · obtain ⟨p, hp, ha⟩ := jl_ex ha
    rcases mem p hp with ⟨p', h1, rfl⟩ | rfl
    · have m := jl_mem h1 ha
      exact old (fun e => h.ls_job (by rw [← e]; exact List.mem_map.mpr ⟨a, m, rfl⟩)) (h.jobs a m) trivial
    · exact hA a ha
theorem tops_set {L : Lv} {i : Nat} {d : Addr} {A : List (Addr × Jb)} : tops (L.set i (d, A)) = (tops L).set i (V.ref d) := by
  unfold tops
  rw [List.map_set]
theorem jbs_set {L : Lv} {i : Nat} {d : Addr} {A : List (Addr × Jb)} : jbs (L.set i (d, A)) = (jbs L).set i (A.map (·.2)) := by
  unfold jbs
  rw [List.map_set]
/-- the addresses behind a change of one level -/
theorem jas_set_sub {L : Lv} {i : Nat} {d : Addr} {A : List (Addr × Jb)} {z : Addr} (h : z ∈ jas (L.set i (d, A))) : z ∈ jas L ∨ z ∈ A.map (·.1) := by
  obtain ⟨a, ha, rfl⟩ := List.mem_map.mp h
  obtain ⟨p, hp, ha⟩ := jl_ex ha
  rcases mem_set_or hp with ⟨k, _, e⟩ | rfl
  · exact .inl (List.mem_map.mpr ⟨a, jl_mem (List.mem_of_getElem? e) ha, rfl⟩)
  · exact .inr (List.mem_map.mpr ⟨a, ha, rfl⟩)
theorem jas_set_nd : ∀ {L : Lv} {i : Nat} {p : Addr × List (Addr × Jb)} {d : Addr} {A : List (Addr × Jb)}, (jas L).Nodup → L[i]? = some p → (A.map (·.1)).Nodup → (∀ z ∈ A.map (·.1), z ∈ p.2.map (·.1) ∨ z ∉ jas L) → (jas (L.set i (d, A))).Nodup
  | [], _, _, _, _, _, h, _, _ => by simp at h
  | q :: L, 0, p, d, A, nd, h, ndA, hz => by
    cases Option.some.inj h
    have e1 : jas (q :: L) = q.2.map (·.1) ++ jas L := by unfold jas jl; rw [List.flatMap_cons, List.map_append]
    have e2 : jas ((q :: L).set 0 (d, A)) = A.map (·.1) ++ jas L := by unfold jas jl; rw [List.set_cons_zero, List.flatMap_cons, List.map_append]
    rw [e1] at nd hz
    rw [e2]
    obtain ⟨n1, n2, n3⟩ := List.nodup_append.mp nd
    refine List.nodup_append.mpr ⟨ndA, n2, fun a ha b hb e => ?_⟩
    rcases hz a ha with h1 | h1
    · exact n3 a h1 b hb e
    · exact h1 (List.mem_append_right _ (by rw [e]; exact hb))
  | q :: L, i + 1, p, d, A, nd, h, ndA, hz => by
    have e1 : jas (q :: L) = q.2.map (·.1) ++ jas L := by unfold jas jl; rw [List.flatMap_cons, List.map_append]
    have e2 : jas ((q :: L).set (i + 1) (d, A)) = q.2.map (·.1) ++ jas (L.set i (d, A)) := by unfold jas jl; rw [List.set_cons_succ, List.flatMap_cons, List.map_append]
    rw [e1] at nd hz
    rw [e2]
    obtain ⟨n1, n2, n3⟩ := List.nodup_append.mp nd
    have h : L[i]? = some p := h
    refine List.nodup_append.mpr ⟨n1, jas_set_nd (L := L) n2 h ndA fun z hz' => (hz z hz').imp id fun w m => w (List.mem_append_right _ m), fun a ha b hb e => ?_⟩
    rcases jas_set_sub hb with h1 | h1
    · exact n3 a ha b h1 e
    · rcases hz b h1 with h2 | h2
      · have : b ∈ jas L := by
          obtain ⟨y, hy, rfl⟩ := List.mem_map.mp h2
          exact List.mem_map.mpr ⟨y, jl_mem (List.mem_of_getElem? h) hy, rfl⟩
        exact n3 a ha b this e
      · exact h2 (List.mem_append_left _ (by rw [← e]; exact ha))
/-- the order: tuples of a level and a job -/
abbrev Or_ := List (Addr × Nat × (Addr × Jb))
def OrdAt (X : Hp) (O : Or_) : Prop := ∀ q ∈ O, X q.1 = some (.tup [.int (q.2.1 : Nat), .ref q.2.2.1])
def ordL (L : Lv) : List (Nat × (Addr × Jb)) := L.zipIdx.flatMap fun q => q.1.2.map fun a => (q.2, a)
theorem OrdAt.same {X X' : Hp} {O : Or_} (h : OrdAt X O) (s : Same X X') : OrdAt X' O := fun q hq => s.at (h q hq)
theorem ordL_jobs {L : Lv} : (ordL L).map (·.2) = jl L := by
  have gen : ∀ (L : Lv) (k : Nat), ((L.zipIdx k).flatMap fun q => q.1.2.map fun a => (q.2, a)).map (·.2) = jl L := fun L => by
    induction L with
    | nil => intro k; rfl
    | cons p L ih =>
      intro k
      rw [List.zipIdx_cons, List.flatMap_cons, List.map_append, ih (k + 1), List.map_map]
      unfold jl
      rw [List.flatMap_cons]
      congr 1
      exact (List.map_congr_left fun a _ => rfl).trans (List.map_id _)
  exact gen L 0
theorem ordL_at {L : Lv} {k : Nat} {a : Addr × Jb} (h : (k, a) ∈ ordL L) : ∃ p, L[k]? = some p ∧ a ∈ p.2 := by
  obtain ⟨q, hq, hm⟩ := List.mem_flatMap.mp h
  obtain ⟨b, hb, e⟩ := List.mem_map.mp hm
  cases e
  obtain ⟨p, i⟩ := q
  have z := List.mem_zipIdx_iff_getElem?.mp hq
  exact ⟨p, z, hb⟩
theorem ordL_snoc {L : Lv} {i : Nat} {p : Addr × List (Addr × Jb)} (h : L[i]? = some p) : ordL (L.take (i + 1)) = ordL (L.take i) ++ p.2.map fun a => (i, a) := by
  have lt : i < L.length := (List.getElem?_eq_some_iff.mp h).1
  unfold ordL
  rw [List.take_add_one, h, List.zipIdx_append, List.flatMap_append]
  congr 1
  rw [List.length_take, Nat.min_eq_left (by omega)]
  simp
theorem plan_level {K : PySem.W.Frag} {H : Hp} {v : V} {r : Rl} (d : Dp K H v (.tuple (r.levels.map bLevD))) : ∃ (pl : Addr) (xs : List V), v = .ref pl ∧ SqT K H pl xs ∧ xs.length = r.levels.length ∧ ∀ i, i < r.levels.length → ∃ pe, xs[i]? = some (.ref pe) ∧ SqT K H pe [.str (bKindS (r.stackAt i)), bOptW (r.quantAt i)] := by
  obtain ⟨pl, xs, rfl, ql, rl⟩ := dp_tuple d
  have ln := dps_len rl
  rw [List.length_map] at ln
  refine ⟨pl, xs, rfl, ql, ln, fun i h => ?_⟩
  have hl : r.levels[i]? = some (r.levels.getD i (false, none)) := by
    rw [List.getD_eq_getElem?_getD, List.getElem?_eq_getElem h]
    rfl
  obtain ⟨v, hv, dv⟩ := dps_get rl (i := i) (d := bLevD (r.levels.getD i (false, none))) (by rw [List.getElem?_map, hl]; rfl)
  obtain ⟨pe, x1, y1, rfl, qe, dx1, dy1⟩ := dp_two dv
  have e1 := dp_str dx1
  subst e1
  have opt : ∀ {o : Option Int} {v : V}, Dp K H v (bOptD o) → v = bOptW o := fun {o v} h => by
    cases o with
    | none => (cases h; rfl)
    | some i => exact dp_int h
  have e2 := opt dy1
  subst e2
  exact ⟨pe, hv, qe⟩
end Vk
set_option maxHeartbeats 8000000
/-! the law: a job enters; the order -/
namespace Vk
open PySem PySem.Spec PyProof.Rows L2 GxR
theorem ixN_k {n j : Nat} (h : j < n) : ixN n ((j : Nat) : Int) = some j := by
  unfold ixN
  rw [if_pos (Int.natCast_nonneg j), if_pos (Int.ofNat_lt.mpr h), Int.toNat_natCast]
section
variable {P : Program} {w : World} {K : PySem.W.Frag} {mg : Str → Option Value} {base : Heap}
def inLv (r : Rl) (i : Nat) (x : Str) (l : List (Addr × Jb)) (a : Addr) : List (Addr × Jb) := if r.stackAt i = true then (a, (x, 0, 0)) :: l else l ++ [(a, (x, 0, 0))]
def spEnterL (K : PySem.W.Frag) : Sp := fun vs H Q _ => ∃ (ls : Addr) (pv : V) (x : Str) (e : Nat) (r : Rl) (L : Lv) (p : Addr × List (Addr × Jb)), vs = [.ref ls, pv, .str x, .int e] ∧ LnAt H ls L ∧ Dp K (Off ls H) pv (.tuple (r.levels.map bLevD)) ∧ r.levels.length = L.length ∧ 1 ≤ L.length ∧ L.length ≤ 6 ∧ L[min e (L.length - 1)]? = some p ∧ p.2.length ≤ 100 ∧
  ∀ (d a : Addr) (H' : Hp), H d = none → H a = none → LnAt H' ls (L.set (min e (L.length - 1)) (d, inLv r (min e (L.length - 1)) x p.2 a)) → Same (Off ls H) (Off ls H') → Q .non H'
theorem scEnterL : FnScope ["lines", "plan", "name", "door", "level"] ["lines", "plan", "name", "door"] (defScope sEnter) := ⟨rfl, rfl, rfl, by decide +kernel, rfl, by decide +kernel, by decide +kernel⟩
theorem ok_enterL (D : Df K mg "_law_enter" sEnter ["lines", "plan", "name", "door"]) (B : Blt mg) (mn : mg "min" = none) : Cl P w K mg base CX0 1 "_law_enter" ["lines", "plan", "name", "door"] (spEnterL K) := by
  refine cl0 D scEnterL (fun vs H Q E h => ?_) (fun f cdv Ar outer s0 H vs Q E hr h => ?_)
  · obtain ⟨ls, pv, x, e, r, L, p, rfl, _⟩ := h
    rfl
  · obtain ⟨ls, plv, x, e, r, L, p, rfl, hL, dp, lev, l1, l6, hp, pl100, k⟩ := h
    refine ⟨_, pss_cons (ps_set (i := 4) scEnterL.nd rfl (Or.inl rfl) (pe_callB (call_min2 rfl) (by rfl) mn (by decide +kernel) (pa_cons (pv 3) (pa_cons (pe_op op_sub (pe_callB call_len_seq (by rfl) B.len PySem.boot_len (pa_cons (pv 1) pa_nil)) pe_int) pa_nil))))
      (pss_one (ps_if (pt_cmpR op_eq (pe_ix ix_tup (pe_ix ix_tup (pv 1) (pv 4) (fun _ _ => rfl)) pe_int (fun _ _ => rfl)) pe_str (nomark _))
        (pss_one (ps_asg (pe_op op_cat (pe_ix ix_list (pv 0) (pv 4) (fun _ _ => rfl)) (pe_lst (pa_cons (pe_lst (pa_cons (pv 2) (pa_cons pe_int (pa_cons pe_int pa_nil)))) pa_nil))) (pg_sub (pv 0) (pv 4) set_list)))
        (pss_one (ps_asg (pe_op op_cat (pe_lst (pa_cons (pe_lst (pa_cons (pv 2) (pa_cons pe_int (pa_cons pe_int pa_nil)))) pa_nil)) (pe_ix ix_list (pv 0) (pv 4) (fun _ _ => rfl))) (pg_sub (pv 0) (pv 4) set_list))))), ?_⟩
    obtain ⟨pl, xs, rfl, ql, lxs, lvl⟩ := plan_level dp
    have ql := same_seqT (off_sub ls H) ql
    have elv : (if ((xs.length : Nat) : Int) - 1 < (e : Int) then ((xs.length : Nat) : Int) - 1 else (e : Int)) = ((min e (L.length - 1) : Nat) : Int) := by
      rw [lxs, lev]
      split <;> omega
    have lt : min e (L.length - 1) < L.length := by omega
    generalize min e (L.length - 1) = i at elv lt hp k
    obtain ⟨pe, hxs, qe⟩ := lvl i (by omega)
    have qe := same_seqT (off_sub ls H) qe
    refine ⟨_, rfl, _, rfl, pl, _, rfl, .inr ql, _, _, rfl, rfl, _, _, rfl, ?_⟩
    rw [elv]
    refine ⟨_, rfl, _, rfl, pl, _, _, _, rfl, rfl, ql, atI_nat hxs, pe, _, _, _, rfl, rfl, qe, rfl, rfl, ?_⟩
    have ht : (tops L)[i]? = some (V.ref p.1) := by unfold tops; rw [List.getElem?_map, hp]; rfl
    have hpl := hL.line p (List.mem_of_getElem? hp)
    have tl : (tops L).length = L.length := List.length_map ..
    have lr : (refs p.2).length = p.2.length := List.length_map ..
    have big : ∀ n, n ≤ 1000 → n ≤ sizeLine := fun n hn => Nat.le_trans hn (by decide)
    have fresh : ∀ {z : Addr}, H z = none → z ∉ jas L := fun {z} h m => by
      obtain ⟨a, ha, rfl⟩ := List.mem_map.mp m
      rw [hL.jobs a ha] at h
      cases h
    -- behind the new line
    have fin : ∀ (j c : Addr) (G : Hp) (A : List (Addr × Jb)), H j = none → H c = none → Same H G → G j = some (jv (x, 0, 0)) → G c = some (.lst (refs A)) → (∀ b ∈ A, b ∈ p.2 ∨ b = (j, (x, 0, 0))) → (A.map (·.1)).Nodup → A = inLv r i x p.2 j → Q .non (upd G ls (.lst ((tops L).set i (.ref c)))) := fun j c G A nj nc sG hj hc hA ndA eA => by
      have lsn : ∀ {z : Addr}, H z = none → z ≠ ls := fun {z} h e => by rw [e, hL.top] at h; cases h
      have kk : Same (Off ls H) (Off ls (upd G ls (.lst ((tops L).set i (.ref c))))) := by
        rw [off_upd]
        exact off_mono sG
      refine k c j _ nc nj ?_ kk
      rw [← eA]
      refine hL.setLv kk (lsn nc) (by rw [upd_ne (lsn nc)]; exact hc) (fun b hb => ?_) (jas_set_nd hL.nd hp ndA fun z hz => ?_) (by rw [upd_same, tops_set])
      · rcases hA b hb with h | rfl
        · have m := jl_mem (List.mem_of_getElem? hp) h
          rw [upd_ne (fun e => hL.ls_job (by rw [← e]; exact List.mem_map.mpr ⟨b, m, rfl⟩))]
          exact sG.at (hL.jobs b m)
        · rw [upd_ne (lsn nj)]
          exact hj
      · obtain ⟨b, hb, rfl⟩ := List.mem_map.mp hz
        rcases hA b hb with h | rfl
        · exact .inl (List.mem_map.mpr ⟨b, h, rfl⟩)
        · exact .inr (fresh nj)
    have ndp : (p.2.map (·.1)).Nodup := by
      have s1 : p.2.Sublist (jl L) := by
        unfold jl
        rw [List.flatMap_def]
        exact List.sublist_flatten_of_mem (List.mem_map.mpr ⟨p, List.mem_of_getElem? hp, rfl⟩)
      have sub : (p.2.map (fun q => q.1)).Sublist (jas L) := s1.map _
      exact hL.nd.sublist sub
    have nin : ∀ {j : Addr}, H j = none → j ∉ p.2.map (·.1) := fun {j} h m => fresh h (by
      obtain ⟨b, hb, rfl⟩ := List.mem_map.mp m
      exact List.mem_map.mpr ⟨b, jl_mem (List.mem_of_getElem? hp) hb, rfl⟩)
    have dst : decide (V.str (bKindS (r.stackAt i)) = V.str "queue") = !r.stackAt i := by cases r.stackAt i <;> decide
    refine ⟨_, rfl, ?_⟩
    rw [dst]
    cases hst : r.stackAt i with
    | false =>
      refine iteT ?_
      refine ⟨_, rfl, _, rfl, ls, _, _, _, rfl, rfl, SqL.of hL.top, atI_nat ht, _, rfl, by show 3 ≤ sizeLine; decide, fun j nj => ?_⟩
      have s1 := same_new (o := .lst [V.str x, .int 0, .int 0]) nj
      refine ⟨by show 1 ≤ sizeLine; decide, fun w1 nw => ?_⟩
      have s2 := same_new (o := .lst [V.ref j]) nw
      refine ⟨p.1, w1, _, _, rfl, rfl, s2.at (s1.at hpl), upd_same, big _ (by show (refs p.2).length + 1 ≤ 1000; omega), fun c nc => ?_⟩
      have s3 := same_new (o := .lst (refs p.2 ++ [V.ref j])) nc
      refine ⟨_, rfl, _, rfl, ls, _, _, i, rfl, rfl, s3.at (s2.at (s1.at hL.top)), ixN_k (by omega), ?_⟩
      refine fin j c _ (p.2 ++ [(j, (x, 0, 0))]) nj ((s1.trans s2).free nc) (s1.trans (s2.trans s3)) ((s2.trans s3).at upd_same) (by rw [upd_same]; unfold refs; rw [List.map_append]; rfl) (fun b hb => (List.mem_append.mp hb).imp id List.mem_singleton.mp) ?_ (by unfold inLv; rw [hst]; rfl)
      rw [List.map_append]
      refine List.nodup_append.mpr ⟨ndp, by simp, fun a ha b hb e => nin nj ?_⟩
      rw [← show b = j from List.mem_singleton.mp hb, ← e]
      exact ha
    | true =>
      refine iteF ?_
      refine ⟨_, rfl, by show 3 ≤ sizeLine; decide, fun j nj => ?_⟩
      have s1 := same_new (o := .lst [V.str x, .int 0, .int 0]) nj
      refine ⟨by show 1 ≤ sizeLine; decide, fun w1 nw => ?_⟩
      have s2 := same_new (o := .lst [V.ref j]) nw
      refine ⟨_, rfl, _, rfl, ls, _, _, _, rfl, rfl, SqL.of (s2.at (s1.at hL.top)), atI_nat ht, w1, p.1, _, _, rfl, rfl, upd_same, s2.at (s1.at hpl), big _ (by show 1 + (refs p.2).length ≤ 1000; omega), fun c nc => ?_⟩
      have s3 := same_new (o := .lst ([V.ref j] ++ refs p.2)) nc
      refine ⟨_, rfl, _, rfl, ls, _, _, i, rfl, rfl, s3.at (s2.at (s1.at hL.top)), ixN_k (by omega), ?_⟩
      refine fin j c _ ((j, (x, 0, 0)) :: p.2) nj ((s1.trans s2).free nc) (s1.trans (s2.trans s3)) ((s2.trans s3).at upd_same) (by rw [upd_same]; rfl) (fun b hb => (List.mem_cons.mp hb).symm) ?_ (by unfold inLv; rw [hst]; rfl)
      exact List.nodup_cons.mpr ⟨nin nj, ndp⟩
/-- the order -/
def spOrderL (K : PySem.W.Frag) : Sp := fun vs H Q _ => ∃ (ls : Addr) (L : Lv), vs = [.ref ls] ∧ LnAt H ls L ∧ L.length ≤ 6 ∧ (jl L).length ≤ 100 ∧
  ∀ (o : Addr) (O : Or_) (H' : Hp), Same H H' → H o = none → H' o = some (.lst (O.map fun q => V.ref q.1)) → (∀ q ∈ O, H q.1 = none) → OrdAt H' O → O.map (·.2) = ordL L → Q (.ref o) H'
theorem scOrderL : FnScope ["lines", "order", "level", "line", "job"] ["lines"] (defScope sOrder) := ⟨rfl, rfl, rfl, by decide +kernel, rfl, by decide +kernel, by decide +kernel⟩
theorem ok_orderL (D : Df K mg "_law_order" sOrder ["lines"]) (B : Blt mg) : Cl P w K mg base CX0 1 "_law_order" ["lines"] (spOrderL K) := by
  refine cl0 D scOrderL (fun vs H Q E h => ?_) (fun f cdv Ar outer s0 H vs Q E hr h => ?_)
  · obtain ⟨ls, L, rfl, _⟩ := h
    rfl
  · obtain ⟨ls, L, rfl, hL, l6, j100, k⟩ := h
    refine ⟨_, pss_cons (ps_set (i := 1) scOrderL.nd rfl (Or.inl rfl) (pe_lst pa_nil))
      (pss_cons (ps_for PassesOwn.never rfl (pi_enum (by rfl) B.enum (pa_cons (pv 0) pa_nil)) (pg_tup rfl (pgs_cons (pg_name (i := 2) scOrderL.nd rfl (.inr rfl)) (pgs_cons (pg_name (i := 3) scOrderL.nd rfl (.inl rfl)) pgs_nil)))
        (pss_one (ps_set (i := 1) scOrderL.nd rfl (Or.inl rfl) (pe_op op_cat (pv 1) (pe_lc (own := [("job", 4)]) (g := gName 4) (tt := tYes) (te := tTup (tCons (tVar 2) (tCons (tVar 4) tNil))) (by rfl) scOrderL.nd (pi_list (pv 3)) (blkOk_by (own := [("job", 4)]) (N := ["lines", "order", "level", "line", "job"]) (sc := defScope sOrder) (by decide +kernel))
          (fun _ _ _ _ _ => pg_name (i := 4) scOrderL.nd rfl (Or.inl rfl)) (fun _ _ _ _ _ => pts_nil) (fun _ _ _ _ _ => pe_tup (pa_cons (pv 2) (pa_cons (pv 4) pa_nil))))))))
      (pss_one (ps_ret (pv 1)))), ?_⟩
    have lr : ∀ B : List (Addr × Jb), (refs B).length = B.length := fun B => List.length_map ..
    have hz : ∀ n : Nat, n ≤ 1000 → n < sizeLine := fun n hn => Nat.lt_of_le_of_lt hn (by decide)
    refine ⟨Nat.zero_le _, fun o0 no0 => ?_⟩
    have s0' := same_new (o := .lst ([] : List V)) no0
    refine ⟨_, rfl, ls, tops L, rfl, SqL.of (s0'.at hL.top), ?_⟩
    refine for_it (D := { nx := _, rt := _ }) (walk_enum (K := K) (a := ls) (xs := tops L)) (fun i σ G => ∃ (o : Addr) (O : Or_) (u2 u3 : Option V), σ = [some (.ref ls), some (.ref o), u2, u3, none] ∧ Same H G ∧ H o = none ∧ G o = some (.lst (O.map fun q => V.ref q.1)) ∧ (∀ q ∈ O, H q.1 = none) ∧ OrdAt G O ∧ O.map (·.2) = ordL (L.take i))
      ⟨o0, [], none, none, rfl, s0', no0, upd_same, fun q hq => (by cases hq), fun q hq => (by cases hq), rfl⟩ (fun i σ G _ ⟨_, _, _, _, _, sG, _⟩ => SqL.of (sG.at hL.top)) ?_ ?_
    · rintro i v1 σ G0 G hi ⟨o, O, u2, u3, rfl, sG, nO, hO, fO, aO, eO⟩ ⟨TT, x1, y1, rfl, nT, rfl, ex, ey⟩
      cases ex
      have lt : (tops L).length = L.length := List.length_map ..
      rw [lt] at hi
      replace ey : (tops L)[i]? = some y1 := ey
      unfold tops at ey
      rw [List.getElem?_map] at ey
      obtain ⟨p, hp, rfl⟩ := Option.map_eq_some_iff.mp ey
      have sT := same_new (o := .tup [V.int (i : Nat), V.ref p.1]) nT
      have pm := List.mem_of_getElem? hp
      have sGT := sG.trans sT
      have p100 : p.2.length ≤ 100 := by
        have s1 : p.2.Sublist (jl L) := by
          unfold jl
          rw [List.flatMap_def]
          exact List.sublist_flatten_of_mem (List.mem_map.mpr ⟨p, pm, rfl⟩)
        exact Nat.le_trans s1.length_le j100
      have O100 : O.length ≤ 100 := by
        have z := congrArg List.length eO
        have y := congrArg List.length (ordL_jobs (L := L.take i))
        rw [List.length_map] at z y
        have s1 : (jl (L.take i)).Sublist (jl L) := by
          have e : jl L = jl (L.take i) ++ jl (L.drop i) := by
            unfold jl
            rw [← List.flatMap_append, List.take_append_drop]
          rw [e]
          exact List.sublist_append_left ..
        have := s1.length_le
        omega
      refine ⟨TT, _, rfl, SqT.of upd_same, rfl, _, _, rfl, _, _, rfl, rfl, ?_⟩
      generalize upd G0 TT (.tup [V.int (i : Nat), V.ref p.1]) = G1 at sT sGT ⊢
      have hpl := sGT.at (hL.line p pm)
      refine ⟨_, rfl, _, rfl, p.1, rfl, ⟨_, SqL.of hpl⟩, fun D nD => ?_⟩
      refine lc_it (walk_list (K := K) (a := p.1) (xs := refs p.2)) (fun k Hc => ∃ O2 : Or_, Hc D = some (.lst (O2.map fun q => V.ref q.1)) ∧ OrdAt (Off D Hc) O2 ∧ O2.map (·.2) = (p.2.take k).map (fun a => (i, a)) ∧ Same G1 (Off D Hc) ∧ ∀ q ∈ O2, G1 q.1 = none)
        ⟨[], upd_same, fun q hq => (by cases hq), rfl, off_newB nD, fun q hq => (by cases hq)⟩ (fun k Hc _ ⟨_, _, _, _, sc, _⟩ => SqL.of ((sc.trans (off_sub D Hc)).at hpl)) ?_ ?_
      · rintro k y Hc0 Hc hk ⟨O2, hD, aD, eD, sc, fD⟩ ⟨rfl, hy⟩
        rw [lr] at hk
        unfold refs at hy
        rw [List.getElem?_map] at hy
        obtain ⟨a, ha, rfl⟩ := Option.map_eq_some_iff.mp hy
        have l2 : O2.length ≤ k := by
          have z := congrArg List.length eD
          rw [List.length_map, List.length_map, List.length_take] at z
          omega
        refine ⟨rfl, _, rfl, _, rfl, by show 2 ≤ sizeLine; decide, fun t nt => ?_⟩
        have st := same_new (o := .tup [V.int (i : Nat), V.ref a.1]) nt
        have tD : t ≠ D := fun e => by rw [e, hD] at nt; cases nt
        have nt1 : G1 t = none := by
          have z : Off D Hc t = none := by rw [off_ne tD]; exact nt
          exact sc.free z
        refine ⟨O2.map (fun q => V.ref q.1), st.at hD, hz _ (by rw [List.length_map]; omega), O2 ++ [(t, i, a)], by rw [upd_same, List.map_append]; rfl, fun q hq => ?_, by rw [List.map_append, eD, List.take_add_one, ha, List.map_append]; rfl, by rw [off_upd]; exact sc.trans (off_mono (a := D) st), fun q hq => ?_⟩
        · rw [off_upd]
          rcases List.mem_append.mp hq with hq | hq
          · exact (off_mono (a := D) st).at (aD q hq)
          · rw [List.mem_singleton.mp hq, off_ne tD, upd_same]
        · rcases List.mem_append.mp hq with hq | hq
          · exact fD q hq
          · rw [List.mem_singleton.mp hq]
            exact nt1
      rintro Hc ⟨O2, hD, aD, eD, sc, fD⟩
      rw [lr, List.take_length] at eD
      have sH := sc.trans (off_sub D Hc)
      refine ⟨o, D, _, _, rfl, rfl, sH.at (sT.at hO), hD, ?_, fun o2 no2 => ?_⟩
      · rw [List.length_map, List.length_map]
        have z := congrArg List.length eD
        rw [List.length_map, List.length_map] at z
        exact Nat.le_of_lt (hz _ (by omega))
      have s2 := same_new (o := .lst ((O.map fun q => V.ref q.1) ++ O2.map fun q => V.ref q.1)) no2
      have sF := sGT.trans (sH.trans s2)
      refine ⟨o2, O ++ O2, _, _, rfl, sF, (sGT.trans sH).free no2, by rw [upd_same, List.map_append], fun q hq => ?_, fun q hq => ?_, by rw [List.map_append, eO, eD, ordL_snoc hp]⟩
      · rcases List.mem_append.mp hq with hq | hq
        · exact fO q hq
        · exact sGT.free (fD q hq)
      · rcases List.mem_append.mp hq with hq | hq
        · exact (sT.trans (sH.trans s2)).at (aO q hq)
        · exact ((off_sub D Hc).trans s2).at (aD q hq)
    · rintro σ G ⟨o, O, u2, u3, rfl, sG, nO, hO, fO, aO, eO⟩
      have lt : (tops L).length = L.length := List.length_map ..
      rw [lt, List.take_length] at eO
      exact ⟨_, rfl, k o O G sG nO hO fO aO eO⟩
end
end Vk
set_option maxHeartbeats 4000000
/-! the units of the active jobs, in the heap -/
namespace Vk
open PySem PySem.Spec PyProof.Rows L2 GxR
/-- the jobs whose names are among xs have run a unit more -/
def bumpT (xs : List Str) (L : Lv) : Lv := L.map fun p => (p.1, p.2.map fun a => (a.1, bumpIf xs a.2))
theorem bumpT_jl {xs : List Str} {L : Lv} : jl (bumpT xs L) = (jl L).map fun a => (a.1, bumpIf xs a.2) := by
  unfold bumpT jl
  induction L with
  | nil => rfl
  | cons p L ih => rw [List.map_cons, List.flatMap_cons, List.flatMap_cons, List.map_append, ih]
theorem bumpT_jas {xs : List Str} {L : Lv} : jas (bumpT xs L) = jas L := by
  unfold jas
  rw [bumpT_jl, List.map_map]
  rfl
theorem bumpT_tops {xs : List Str} {L : Lv} : tops (bumpT xs L) = tops L := by
  unfold tops bumpT
  rw [List.map_map]
  rfl
theorem bumpT_jbs {xs : List Str} {L : Lv} : jbs (bumpT xs L) = (jbs L).map fun l => l.map (bumpIf xs) := by
  unfold jbs bumpT
  rw [List.map_map, List.map_map]
  refine List.map_congr_left fun p _ => ?_
  show (p.2.map fun a => (a.1, bumpIf xs a.2)).map (·.2) = (p.2.map (·.2)).map (bumpIf xs)
  rw [List.map_map, List.map_map]
  rfl
theorem bumpT_nil {L : Lv} : bumpT [] L = L := by
  have e : ∀ j : Jb, bumpIf [] j = j := fun j => if_neg (by simp)
  unfold bumpT
  refine (List.map_congr_left fun p _ => ?_).trans (List.map_id _)
  show (p.1, p.2.map fun a => (a.1, bumpIf [] a.2)) = p
  rw [(List.map_congr_left (g := id) fun a _ => by rw [e]; rfl).trans (List.map_id p.2)]
theorem bumpT_refs {xs : List Str} {p : Addr × List (Addr × Jb)} : refs (p.2.map fun a => (a.1, bumpIf xs a.2)) = refs p.2 := by
  unfold refs
  rw [List.map_map]
  rfl
/-- one more -/
theorem LnAt.bump {G : Hp} {ls : Addr} {L : Lv} {xs : List Str} {a : Addr × Jb} (h : LnAt G ls (bumpT xs L)) (nda : (jas L).Nodup) (ndn : ((jl L).map fun b => b.2.1).Nodup) (ha : a ∈ jl L) (nx : a.2.1 ∉ xs) :
    G a.1 = some (jv a.2) ∧ LnAt (upd G a.1 (jv (bumpJ a.2))) ls (bumpT (xs ++ [a.2.1]) L) := by
  have hj : G a.1 = some (jv a.2) := by
    have z := h.jobs (a.1, bumpIf xs a.2) (by rw [bumpT_jl]; exact List.mem_map.mpr ⟨a, ha, rfl⟩)
    have e : bumpIf xs a.2 = a.2 := if_neg nx
    rw [e] at z
    exact z
  have top := h.top
  rw [bumpT_tops] at top
  refine ⟨hj, ?_, fun p hp => ?_, fun b hb => ?_, by rw [bumpT_jas]; exact nda⟩
  · rw [bumpT_tops, upd_ne (fun e => by rw [e, hj] at top; exact tops_noStr (HO.lst.inj (Option.some.inj top)).symm)]
    exact top
  · obtain ⟨p0, hp0, rfl⟩ := List.mem_map.mp hp
    have z := h.line (p0.1, p0.2.map fun b => (b.1, bumpIf xs b.2)) (List.mem_map.mpr ⟨p0, hp0, rfl⟩)
    rw [bumpT_refs] at z
    show upd G a.1 _ p0.1 = some (.lst (refs (p0.2.map fun b => (b.1, bumpIf (xs ++ [a.2.1]) b.2))))
    rw [bumpT_refs, upd_ne (fun e => by
      have z2 : G a.1 = some (.lst (refs p0.2)) := by rw [← e]; exact z
      rw [hj] at z2
      exact refs_noStr (HO.lst.inj (Option.some.inj z2)).symm)]
    exact z
  · rw [bumpT_jl] at hb
    obtain ⟨b0, hb0, rfl⟩ := List.mem_map.mp hb
    show upd G a.1 _ b0.1 = some (jv (bumpIf (xs ++ [a.2.1]) b0.2))
    by_cases e : b0 = a
    · subst e
      have w : bumpIf (xs ++ [b0.2.1]) b0.2 = bumpJ b0.2 := if_pos (by simp)
      rw [upd_same, w]
    · have ne1 : b0.1 ≠ a.1 := fun z => e (nd_inj nda hb0 ha z)
      have ne2 : b0.2.1 ≠ a.2.1 := fun z => e (nd_inj (f := fun b : Addr × Jb => b.2.1) ndn hb0 ha z)
      have w : bumpIf (xs ++ [a.2.1]) b0.2 = bumpIf xs b0.2 := by
        unfold bumpIf
        by_cases m : b0.2.1 ∈ xs
        · rw [if_pos m, if_pos (List.mem_append_left _ m)]
        · rw [if_neg m, if_neg (fun z => (List.mem_append.mp z).elim m fun y => ne2 (List.mem_singleton.mp y))]
      rw [upd_ne ne1, w]
      exact h.jobs (b0.1, bumpIf xs b0.2) (by rw [bumpT_jl]; exact List.mem_map.mpr ⟨b0, hb0, rfl⟩)
end Vk
set_option maxHeartbeats 4000000
/-! lines of the law's levels change -/
namespace Vk
open PySem PySem.Spec PyProof.Rows L2 GxR
/-- as many new jobs, one behind the other, in the list at D -/
def Zs (H0 : Hp) (D : Addr) (js : List Jb) (H : Hp) : Prop := ∃ A : List (Addr × Jb), A.map (·.2) = js ∧ H D = some (.lst (refs A)) ∧ JsAt H A ∧ (∀ p ∈ A, H0 p.1 = none ∧ p.1 ≠ D) ∧ (A.map (·.1)).Nodup ∧ Same H0 (Off D H)
theorem Zs.zero {H0 : Hp} {D : Addr} (h : H0 D = none) : Zs H0 D [] (upd H0 D (.lst [])) := ⟨[], rfl, upd_same, fun p hp => absurd hp (by simp), fun p hp => absurd hp (by simp), List.nodup_nil, off_newB h⟩
theorem Zs.next {H0 H : Hp} {D L : Addr} {js : List Jb} (f : Zs H0 D js H) (nL : H L = none) (j : Jb) : ∃ acc, upd H L (jv j) D = some (.lst acc) ∧ acc.length = js.length ∧ Zs H0 D (js ++ [j]) (upd (upd H L (jv j)) D (.lst (acc ++ [V.ref L]))) := by
  obtain ⟨A, h1, h2, h3, h4, h5, h6⟩ := f
  have LD : L ≠ D := fun e => by rw [e, h2] at nL; cases nL
  have n0 : H0 L = none := by
    by_cases z : H0 L = none
    · exact z
    · have y := h6.has L z
      rw [off_ne LD, nL] at y
      exact absurd rfl y
  have lL : ∀ p ∈ A, p.1 ≠ L := fun p hp e => by
    have z := h3 p hp
    rw [e, nL] at z
    cases z
  refine ⟨refs A, by rw [upd_ne (Ne.symm LD)]; exact h2, by unfold refs; rw [List.length_map, ← h1, List.length_map], A ++ [(L, j)], by rw [List.map_append, h1]; rfl, by rw [upd_same]; unfold refs; rw [List.map_append]; rfl, fun p hp => ?_, fun p hp => ?_, ?_, ?_⟩
  · rcases List.mem_append.mp hp with hp | hp
    · rw [upd_ne (h4 p hp).2, upd_ne (lL p hp)]
      exact h3 p hp
    · rw [List.mem_singleton.mp hp, upd_ne LD, upd_same]
  · rcases List.mem_append.mp hp with hp | hp
    · exact h4 p hp
    · rw [List.mem_singleton.mp hp]
      exact ⟨n0, LD⟩
  · rw [List.map_append]
    refine List.nodup_append.mpr ⟨h5, by simp, fun a ha b hb e => ?_⟩
    obtain ⟨p, hp, rfl⟩ := List.mem_map.mp ha
    have e2 : b = L := List.mem_singleton.mp hb
    exact lL p hp (e.trans e2)
  · rw [off_upd]
    exact h6.trans (off_mono (a := D) (same_new nL))
def dx (x : Str) (A : List (Addr × Jb)) : List (Addr × Jb) := A.filter fun b => decide (b.2.1 ≠ x)
theorem dx_noX {x : Str} {A : List (Addr × Jb)} : (dx x A).map (·.2) = noX x (A.map (·.2)) := by
  unfold dx noX
  rw [List.filter_map]
  rfl
theorem line_nd {L : Lv} {p : Addr × List (Addr × Jb)} (nd : (jas L).Nodup) (hp : p ∈ L) : (p.2.map (·.1)).Nodup := by
  have s1 : p.2.Sublist (jl L) := by
    unfold jl
    rw [List.flatMap_def]
    exact List.sublist_flatten_of_mem (List.mem_map.mpr ⟨p, hp, rfl⟩)
  have sub : (p.2.map (fun q => q.1)).Sublist (jas L) := s1.map _
  exact nd.sublist sub
theorem line_le {L : Lv} {p : Addr × List (Addr × Jb)} (hp : p ∈ L) : p.2.length ≤ (jl L).length := by
  have s1 : p.2.Sublist (jl L) := by
    unfold jl
    rw [List.flatMap_def]
    exact List.sublist_flatten_of_mem (List.mem_map.mpr ⟨p, hp, rfl⟩)
  exact s1.length_le
section
variable {G : Hp} {ls D : Addr} {L : Lv} {k : Nat} {p : Addr × List (Addr × Jb)} {x : Str}
theorem LnAt.nl (h : LnAt G ls L) (nD : G D = none) : D ≠ ls := fun e => by rw [e, h.top] at nD; cases nD
/-- a line of new jobs or old ones of that level in the place of one -/
theorem LnAt.put (h : LnAt G ls L) (hp : L[k]? = some p) {G' : Hp} (s : Same G G') (dn : D ≠ ls) {A : List (Addr × Jb)} (hD : G' D = some (.lst (refs A))) (hA : ∀ a ∈ A, a ∈ p.2 ∨ (a.1 ∉ jas L ∧ a.1 ≠ ls ∧ G' a.1 = some (jv a.2))) (nd : (A.map (·.1)).Nodup) :
    LnAt (upd G' ls (.lst ((tops L).set k (.ref D)))) ls (L.set k (D, A)) ∧ Same (Off ls G) (Off ls (upd G' ls (.lst ((tops L).set k (.ref D))))) := by
  have pm := List.mem_of_getElem? hp
  have kk : Same (Off ls G) (Off ls (upd G' ls (.lst ((tops L).set k (.ref D))))) := by
    rw [off_upd]
    exact off_mono s
  refine ⟨h.setLv kk dn (by rw [upd_ne dn]; exact hD) (fun a ha => ?_) (jas_set_nd h.nd hp nd fun z hz => ?_) (by rw [upd_same, tops_set]), kk⟩
  · rcases hA a ha with m | ⟨m1, m2, m3⟩
    · have m := jl_mem pm m
      rw [upd_ne (fun e => h.ls_job (by rw [← e]; exact List.mem_map.mpr ⟨a, m, rfl⟩))]
      exact s.at (h.jobs a m)
    · rw [upd_ne m2]
      exact m3
  · obtain ⟨a, ha, rfl⟩ := List.mem_map.mp hz
    rcases hA a ha with m | ⟨m1, _, _⟩
    · exact .inl (List.mem_map.mpr ⟨a, m, rfl⟩)
    · exact .inr m1
theorem LnAt.dropX (h : LnAt G ls L) (hp : L[k]? = some p) (nD : G D = none) :
    LnAt (upd (upd G D (.lst (refs (dx x p.2)))) ls (.lst ((tops L).set k (.ref D)))) ls (L.set k (D, dx x p.2)) ∧ Same (Off ls G) (Off ls (upd (upd G D (.lst (refs (dx x p.2)))) ls (.lst ((tops L).set k (.ref D))))) :=
  h.put hp (same_new nD) (h.nl nD) upd_same (fun a ha => .inl (List.mem_filter.mp ha).1) ((line_nd h.nd (List.mem_of_getElem? hp)).sublist ((List.filter_sublist (l := p.2)).map _))
end
/-- who is not among xs stands where it stood -/
def Pend (L1 L : Lv) (xs : List Str) : Prop := ∀ (k : Nat) (p0 : Addr × List (Addr × Jb)) (a : Addr × Jb), L1[k]? = some p0 → a ∈ p0.2 → a.2.1 ∉ xs → ∃ p, L[k]? = some p ∧ a ∈ p.2
theorem Pend.drop {L1 L : Lv} {xs : List Str} (h : Pend L1 L xs) {k : Nat} {p : Addr × List (Addr × Jb)} {x : Str} {D : Addr} (hp : L[k]? = some p) : Pend L1 (L.set k (D, dx x p.2)) (xs ++ [x]) := fun k' p0 a h1 h2 h3 => by
  have n1 : a.2.1 ∉ xs := fun m => h3 (List.mem_append_left _ m)
  have n2 : a.2.1 ≠ x := fun e => h3 (List.mem_append_right _ (by rw [e]; exact List.mem_singleton_self x))
  obtain ⟨p', h4, h5⟩ := h k' p0 a h1 h2 n1
  by_cases e : k' = k
  · subst e
    rw [hp] at h4
    cases h4
    exact ⟨_, List.getElem?_set_self (List.getElem?_eq_some_iff.mp hp).1, List.mem_filter.mpr ⟨h5, decide_eq_true n2⟩⟩
  · exact ⟨p', by rw [List.getElem?_set_ne (Ne.symm e)]; exact h4, h5⟩
theorem Pend.more {L1 L : Lv} {xs ys : List Str} (h : Pend L1 L xs) (s : ∀ x ∈ xs, x ∈ ys) : Pend L1 L ys := fun k p0 a h1 h2 h3 => h k p0 a h1 h2 fun m => h3 (s _ m)
theorem Pend.add {L1 L : Lv} {xs : List Str} (h : Pend L1 L xs) {k : Nat} {p : Addr × List (Addr × Jb)} {D : Addr} {A : List (Addr × Jb)} (hp : L[k]? = some p) : Pend L1 (L.set k (D, p.2 ++ A)) xs := fun k' p0 a h1 h2 h3 => by
  obtain ⟨p', h4, h5⟩ := h k' p0 a h1 h2 h3
  by_cases e : k' = k
  · subst e
    rw [hp] at h4
    cases h4
    exact ⟨_, List.getElem?_set_self (List.getElem?_eq_some_iff.mp hp).1, List.mem_append_left _ h5⟩
  · exact ⟨p', by rw [List.getElem?_set_ne (Ne.symm e)]; exact h4, h5⟩
theorem jl_small {t s : Bd} {L L0 : Lv} (R : RelL t (jbs L)) (R0 : RelL s (jbs L0)) (nd : t.order.Nodup) (sub : ∀ x ∈ t.order, x ∈ s.order) : (jl L).length ≤ (jl L0).length := by
  have z := nd_len nd sub
  rw [← jl_names R, ← jl_names R0, List.length_map, List.length_map] at z
  exact z
theorem offL_cons {a : Addr} {as : List Addr} {X : Hp} : OffL as (Off a X) = OffL (a :: as) X := by
  rw [← offL_one, offL_comp]
  funext x
  by_cases m : x ∈ as ++ [a]
  · rw [offL_in m, offL_in (by simp at m ⊢; exact m.symm)]
  · rw [offL_out m, offL_out (fun y => m (by simp at y ⊢; exact y.symm))]
theorem set_rep {α : Type} {a : α} {X : List α} (ne : X ≠ []) : ∀ {i : Nat}, (List.replicate i a ++ X).set i a = List.replicate (i + 1) a ++ X.tail
  | 0 => by
    cases X with
    | nil => exact absurd rfl ne
    | cons x r => rfl
  | i + 1 => by
    show a :: (List.replicate i a ++ X).set i a = _
    rw [set_rep ne]
    rfl
/-- the lines are new or stood there -/
def OldL (H : Hp) (L Li : Lv) : Prop := ∀ p ∈ Li, H p.1 = none ∨ ∃ q ∈ L, q.1 = p.1
theorem OldL.set {H : Hp} {L Li : Lv} (h : OldL H L Li) {k : Nat} {D : Addr} {A : List (Addr × Jb)} (nD : H D = none) : OldL H L (Li.set k (D, A)) := fun p hp => by
  rcases mem_set_or hp with ⟨k', _, e⟩ | rfl
  · exact h p (List.mem_of_getElem? e)
  · exact .inl nD
end Vk
set_option maxHeartbeats 4000000
/-! what a law of benches with levels has beside its bench -/
namespace Vk
open PySem PySem.Spec PyProof.Rows L2 GxR
theorem tab_put {G : Hp} {l T : Addr} {xs : List V} {o : HO} (t : TabG G T) (h : G l = some (.lst xs)) : TabG (upd G l o) T := by
  obtain ⟨ps, e, u⟩ := t
  exact ⟨ps, by rw [upd_ne (ne_of h e (fun z => nomatch z)).symm]; exact e, u⟩
/-- strOk of a name -/
theorem name_strOk {x : Str} (h : nameD (.str x) = true) : PyData.strOk x = true := by
  obtain ⟨_, n8, az⟩ := nameD_iff.mp h
  have okS : ∀ s : Str, (∀ c ∈ s.cps.toList, c < 256) → PyData.strOk s = true := fun s hs => by
    unfold PyData.strOk
    first
    | (rw [← Array.all_toList, List.all_eq_true]; intro c hc; have := hs c hc; simp; omega)
    | (simp; intro c hc; have := hs c hc; omega)
  exact okS x fun c hc => by
    have z := az c hc
    rw [between_az] at z
    have := of_decide_eq_true z
    omega
def pairSI (p : Str × Int) : PyData := .tuple [.str p.1, .int p.2]
/-- a tuple of ints and texts -/
def Flat1 (e : PyData) : Prop := (∃ i, e = .int i) ∨ ∃ x, e = .str x
def FlatT (d : PyData) : Prop := ∃ es : List PyData, d = .tuple es ∧ ∀ e ∈ es, Flat1 e
section
variable {K : PySem.W.Frag} {X Y : Hp}
theorem flats_keep (k : ∀ a xs, SqT K X a xs → SqT K Y a xs) : ∀ {vs : List V} {ds : List PyData}, DpAll K X vs ds → (∀ e ∈ ds, Flat1 e) → DpAll K Y vs ds
  | _, [], .nil, _ => .nil
  | _, d :: ds, .cons h t, f => by
    refine .cons ?_ (flats_keep k t fun e he => f e (List.mem_cons_of_mem _ he))
    rcases f d (List.mem_cons_self ..) with ⟨i, rfl⟩ | ⟨x, rfl⟩
    · cases dp_int h; exact .int i
    · cases dp_str h; exact .str x
theorem flatTs_keep (k : ∀ a xs, SqT K X a xs → SqT K Y a xs) : ∀ {vs : List V} {ds : List PyData}, DpAll K X vs ds → (∀ e ∈ ds, FlatT e) → DpAll K Y vs ds
  | _, [], .nil, _ => .nil
  | _, d :: ds, .cons h t, f => by
    refine .cons ?_ (flatTs_keep k t fun e he => f e (List.mem_cons_of_mem _ he))
    obtain ⟨es, rfl, g⟩ := f d (List.mem_cons_self ..)
    obtain ⟨p, xs, rfl, q, r⟩ := dp_tuple h
    exact .tup (k _ _ q) (flats_keep k r g)
theorem flat_str {x : Str} {tl : List V} {ds : List PyData} (h : DpAll K X (.str x :: tl) ds) (f : ∀ e ∈ ds, FlatT e) : False := by
  cases h with
  | cons a t =>
    obtain ⟨es, rfl, _⟩ := f _ (List.mem_cons_self ..)
    cases a
theorem flat_int {i : Int} {tl : List V} {ds : List PyData} (h : DpAll K X (.int i :: tl) ds) (f : ∀ e ∈ ds, FlatT e) : False := by
  cases h with
  | cons a t =>
    obtain ⟨es, rfl, _⟩ := f _ (List.mem_cons_self ..)
    cases a
theorem flat_int2 {v : V} {i : Int} {tl : List V} {ds : List PyData} (h : DpAll K X (v :: .int i :: tl) ds) (f : ∀ e ∈ ds, FlatT e) : False := by
  cases h with
  | cons a t =>
    cases t with
    | cons b u =>
      obtain ⟨es, rfl, _⟩ := f _ (List.mem_cons_of_mem _ (List.mem_cons_self ..))
      cases b
theorem flat_pairs {l : List (Str × Int)} : ∀ e ∈ l.map pairSI, FlatT e := fun e he => by
  obtain ⟨p, _, rfl⟩ := List.mem_map.mp he
  exact ⟨_, rfl, fun d hd => by
    rcases List.mem_cons.mp hd with rfl | hd
    · exact .inr ⟨_, rfl⟩
    · rw [List.mem_singleton.mp hd]; exact .inl ⟨_, rfl⟩⟩
theorem flat_two {i j : Int} : FlatT (.tuple [.int i, .int j]) := ⟨_, rfl, fun d hd => by
    rcases List.mem_cons.mp hd with rfl | hd
    · exact .inl ⟨_, rfl⟩
    · rw [List.mem_singleton.mp hd]; exact .inl ⟨_, rfl⟩⟩
theorem flat_log (s : Bd) : ∀ e ∈ logD s, FlatT e := fun e he => by
  obtain ⟨f, _, rfl⟩ := List.mem_map.mp he
  exact flat_two
end
theorem str_noRef {ws : List Str} {a : Addr} {tl : List V} (e : ws.map V.str = .ref a :: tl) : False := by
  cases ws with
  | nil => cases e
  | cons w r => cases e
theorem str_noInt {ws : List Str} {i : Int} {tl : List V} (e : ws.map V.str = .int i :: tl) : False := by
  cases ws with
  | nil => cases e
  | cons w r => cases e
theorem str_noJv {ws : List Str} {x : Str} {i j : Int} (e : ws.map V.str = [.str x, .int i, .int j]) : False := by
  cases ws with
  | nil => cases e
  | cons w r =>
    cases r with
    | nil => cases e
    | cons u r => cases e
theorem ints_noRef {cs : List Int} {a : Addr} {tl : List V} (e : cs.map V.int = .ref a :: tl) : False := by
  cases cs with
  | nil => cases e
  | cons w r => cases e
theorem ints_noStr {cs : List Int} {x : Str} {tl : List V} (e : cs.map V.int = .str x :: tl) : False := by
  cases cs with
  | nil => cases e
  | cons w r => cases e
theorem ints_noRef2 {cs : List Int} {v : V} {a : Addr} {tl : List V} (e : cs.map V.int = v :: .ref a :: tl) : False := by
  cases cs with
  | nil => cases e
  | cons w r =>
    cases r with
    | nil => cases e
    | cons u r => cases e
section
variable {CN CB : Addr} {K : PySem.W.Frag} {H H' : Hp} {n : Addr} {rv : V} {c : Int} {N : BnA} {s : Bd} {r : Rl} {ps : List Addr}
theorem BnAt.obj (B : BnAt CN CB K H n rv c N s r ps) {x : Addr} (hx : x ∈ ftN n N) : ∃ u, H x = some u ∧ NoTbl u := by
  obtain ⟨xs, f1, _⟩ := B.bd.fins
  simp only [ftN, ftB, List.mem_cons] at hx
  rcases hx with rfl | rfl | rfl | rfl | rfl | rfl | rfl | hx
  · exact ⟨_, B.ob, trivial⟩
  · exact ⟨_, B.past, trivial⟩
  · exact ⟨_, B.bd.ob, trivial⟩
  · exact ⟨_, B.bd.lines, trivial⟩
  · exact ⟨_, B.bd.used, trivial⟩
  · exact ⟨_, B.bd.ran, trivial⟩
  · exact ⟨_, f1, trivial⟩
  · obtain ⟨_, _, _, _, q⟩ := B.bd.at_line hx
    exact ⟨_, q, trivial⟩
theorem BnAt.nin (B : BnAt CN CB K H n rv c N s r ps) {z : Addr} (e : H z = none) : z ∉ ftN n N := fun m => by
  obtain ⟨u, h, _⟩ := B.obj m
  rw [e] at h
  cases h
theorem sqt_keptL {as : List Addr} {X Y : Hp} (k : Same (OffL as X) (OffL as Y)) (h : ∀ z ∈ as, ∀ o, X z = some o → NoTup o) {a : Addr} {xs : List V} (q : SqT K X a xs) : SqT K Y a xs :=
  same_seqT ((k.trans (offL_sub as Y))) (sqt_off h q)
theorem offL_comm {as ft : List Addr} {X : Hp} : OffL as (OffL ft X) = OffL ft (OffL as X) := by
  rw [offL_comp, offL_comp]
  funext x
  by_cases m : x ∈ as ++ ft
  · rw [offL_in m, offL_in (by simpa [or_comm] using m)]
  · rw [offL_out m, offL_out (by simpa [or_comm, and_comm] using m)]
/-- .. as by a call that changes some objects, none of the bench's -/
theorem BnAt.keptL (B : BnAt CN CB K H n rv c N s r ps) {as : List Addr} (nz : ∀ z ∈ as, z ∉ ftN n N) (nt : ∀ z ∈ as, ∀ o, H z = some o → NoTup o) (k : Same (OffL as H) (OffL as H')) : BnAt CN CB K H' n rv c N s r ps := by
  refine B.keepT (fun x hx => ?_) (fun a xs q => sqt_keptL (as := as) ?_ (fun z hz o e => nt z hz o (offL_some e).2) q) (fun a xs q => sqt_keptL (as := as) ?_ (fun z hz o e => nt z hz o (offL_some e).2) q)
  · obtain ⟨u, w1, w2⟩ := B.obj hx
    have xz : x ∉ as := fun m => nz x m hx
    have y := k.at_ x u (by rw [offL_out xz]; exact w1) w2
    rw [offL_out xz] at y
    rw [y, w1]
  · rw [offL_comm, offL_comm (as := as) (ft := ftN n N)]
    exact offL_mono k
  · rw [offL_comm, offL_comm (as := as) (ft := ftB N.b N.A)]
    exact offL_mono k
theorem BdAt.obj {b : Addr} {A : BdA} (B : BdAt CB K H b rv c A s) {x : Addr} (hx : x ∈ ftB b A) : ∃ u, H x = some u ∧ NoTbl u := by
  obtain ⟨xs, f1, _⟩ := B.fins
  simp only [ftB, List.mem_cons] at hx
  rcases hx with rfl | rfl | rfl | rfl | rfl | hx
  · exact ⟨_, B.ob, trivial⟩
  · exact ⟨_, B.lines, trivial⟩
  · exact ⟨_, B.used, trivial⟩
  · exact ⟨_, B.ran, trivial⟩
  · exact ⟨_, f1, trivial⟩
  · obtain ⟨_, _, _, _, q⟩ := B.at_line hx
    exact ⟨_, q, trivial⟩
theorem BdAt.keptL {b : Addr} {A : BdA} (B : BdAt CB K H b rv c A s) {as : List Addr} (nz : ∀ z ∈ as, z ∉ ftB b A) (nt : ∀ z ∈ as, ∀ o, H z = some o → NoTup o) (k : Same (OffL as H) (OffL as H')) : BdAt CB K H' b rv c A s := by
  refine B.keepT (fun x hx => ?_) (fun a xs q => sqt_keptL (as := as) ?_ (fun z hz o e => nt z hz o (offL_some e).2) q)
  · obtain ⟨u, w1, w2⟩ := B.obj hx
    have xz : x ∉ as := fun m => nz x m hx
    have y := k.at_ x u (by rw [offL_out xz]; exact w1) w2
    rw [offL_out xz] at y
    rw [y, w1]
  · rw [offL_comm, offL_comm (as := as) (ft := ftB b A)]
    exact offL_mono k
end
/-- what stands beside the bench, and beside F: es ended, gs the pairs, ws the names -/
structure Wl (CN CB : Addr) (K : PySem.W.Frag) (T n st sc ls fc ln : Addr) (rv : V) (c : Int) (r : Rl) (F : List Addr) (m : Int) (G : Hp) (N : BnA) (s : Bd) (ps : List Addr) (L : Lv) (el pl : Addr) (t : Int) (es : List (Str × Int)) (gs : List PyData) (ws : List Str) : Prop where
  bn : BnAt CN CB K G n rv c N s r ps
  sep : ∀ z ∈ F, z ∉ ftN n N
  al : ∀ z ∈ F, ∃ o, G z = some o ∧ NoTup o ∧ NoTbl o
  lines : LnAt (OffL (F ++ ftN n N) G) ls L
  l1 : 1 ≤ L.length
  facts : OffL (F ++ ftN n N) G fc = some (.lst [.int t, .ref el, .ref pl])
  names : OffL (F ++ ftN n N) G ln = some (.lst (ws.map V.str))
  pairs : ∃ pr, OffL (F ++ ftN n N) G pl = some (.lst pr) ∧ DpAll K (OffL (F ++ ftN n N) G) pr gs
  flat : ∀ e ∈ gs, FlatT e
  ended : ∃ ev, OffL (F ++ ftN n N) G el = some (.lst ev) ∧ DpAll K (OffL (F ++ ftN n N) G) ev (es.map pairSI)
  rule : Dp K (OffL (F ++ ftN n N) G) rv (bRulD r)
  sto : Sto sc st m (OffL (F ++ ftN n N) G)
  tab : TabG (OffL (F ++ ftN n N) G) T
  le : ls ≠ el
  lp : ls ≠ pl
section
variable {CN CB : Addr} {K : PySem.W.Frag} {T n st sc ls fc ln : Addr} {rv : V} {c : Int} {r : Rl} {F : List Addr} {m m' : Int} {G G' : Hp} {N N' : BnA} {s s' : Bd} {ps ps' : List Addr} {L : Lv} {el pl : Addr} {t : Int} {es : List (Str × Int)} {gs : List PyData} {ws : List Str}
theorem Wl.more (w : Wl CN CB K T n st sc ls fc ln rv c r F m G N s ps L el pl t es gs ws) (h : m ≤ m') : Wl CN CB K T n st sc ls fc ln rv c r F m' G N s ps L el pl t es gs ws :=
  { w with sto := w.sto.more h }
theorem offF {F : List Addr} {n : Addr} {N : BnA} {X : Hp} : OffL (F ++ ftN n N) X = OffL F (OffL (ftN n N) X) := offL_comp.symm
/-- fresh is not hidden -/
theorem Wl.nin (w : Wl CN CB K T n st sc ls fc ln rv c r F m G N s ps L el pl t es gs ws) {z : Addr} (e : G z = none) : z ∉ F ++ ftN n N := fun h => by
  rcases List.mem_append.mp h with h | h
  · obtain ⟨o, h1, _⟩ := w.al z h
    rw [e] at h1
    cases h1
  · exact w.bn.nin e h
theorem Wl.at_new (w : Wl CN CB K T n st sc ls fc ln rv c r F m G N s ps L el pl t es gs ws) {z : Addr} (e : G z = none) {X : Hp} : OffL (F ++ ftN n N) X z = X z := offL_out (w.nin e)
/-- the bench has done something -/
theorem ft_fresh {n : Addr} {N N' : BnA} {G G' : Hp} (k : Same (OffL (ftN n N) G) (OffL (ftN n N') G')) : ∀ z ∈ ftN n N', z ∈ ftN n N ∨ G z = none := fun z hz => by
  by_cases m : z ∈ ftN n N
  · exact .inl m
  · right
    cases e : G z with
    | none => rfl
    | some o =>
      have y := k.has z (by rw [offL_out m, e]; exact fun w => nomatch w)
      rw [offL_in hz] at y
      exact absurd rfl y
theorem Wl.bench (w : Wl CN CB K T n st sc ls fc ln rv c r F m G N s ps L el pl t es gs ws) (b : BnAt CN CB K G' n rv c N' s' r ps') (k : Same (OffL (ftN n N) G) (OffL (ftN n N') G')) : Wl CN CB K T n st sc ls fc ln rv c r F m G' N' s' ps' L el pl t es gs ws := by
  have kx : Same (OffL (F ++ ftN n N) G) (OffL (F ++ ftN n N') G') := by
    rw [offF, offF]
    exact offL_mono k
  have sep' : ∀ z ∈ F, z ∉ ftN n N' := fun z hz h => by
    rcases ft_fresh k z h with m | m
    · exact w.sep z hz m
    · obtain ⟨o, h1, _⟩ := w.al z hz
      rw [m] at h1
      cases h1
  obtain ⟨pr, p1, p2⟩ := w.pairs
  obtain ⟨ev, v1, v2⟩ := w.ended
  refine ⟨b, sep', fun z hz => ?_, w.lines.same kx, w.l1, kx.at w.facts, kx.at w.names, ⟨pr, kx.at p1, dps_same kx p2⟩, w.flat, ⟨ev, kx.at v1, dps_same kx v2⟩, dp_same kx w.rule, w.sto.same kx, kx.tab T w.tab, w.le, w.lp⟩
  obtain ⟨o, a1, a2, a3⟩ := w.al z hz
  have y := k.at_ z o (by rw [offL_out (w.sep z hz)]; exact a1) a3
  rw [offL_out (sep' z hz)] at y
  exact ⟨o, y, a2, a3⟩
theorem Wl.same (w : Wl CN CB K T n st sc ls fc ln rv c r F m G N s ps L el pl t es gs ws) (k : Same G G') : Wl CN CB K T n st sc ls fc ln rv c r F m G' N s ps L el pl t es gs ws :=
  w.bench (w.bn.same k) (offL_mono k)
/-- what a change of some lists leaves -/
structure Chg (CN CB : Addr) (K : PySem.W.Frag) (T n : Addr) (rv : V) (c : Int) (r : Rl) (F C : List Addr) (G G' : Hp) (N : BnA) (s : Bd) (ps : List Addr) : Prop where
  bn : BnAt CN CB K G' n rv c N s r ps
  al : ∀ z ∈ F, ∃ o, G' z = some o ∧ NoTup o ∧ NoTbl o
  mv : ∀ (z : Addr) (o : HO), z ∉ C → OffL (F ++ ftN n N) G z = some o → NoTbl o → OffL (F ++ ftN n N) G' z = some o
  tp : ∀ a xs, SqT K (OffL (F ++ ftN n N) G) a xs → SqT K (OffL (F ++ ftN n N) G') a xs
  tab : TabG (OffL (F ++ ftN n N) G') T
theorem Wl.chg (w : Wl CN CB K T n st sc ls fc ln rv c r F m G N s ps L el pl t es gs ws) {C : List Addr} (k : Same (OffL C G) (OffL C G')) (hC : ∀ z ∈ C, ∃ xs, OffL (F ++ ftN n N) G z = some (.lst xs)) : Chg CN CB K T n rv c r F C G G' N s ps := by
  have nz : ∀ z ∈ C, z ∉ F ++ ftN n N := fun z hz => by
    obtain ⟨xs, e⟩ := hC z hz
    exact (offL_some e).1
  have nt : ∀ z ∈ C, ∀ o, OffL (F ++ ftN n N) G z = some o → NoTup o := fun z hz o e => by
    obtain ⟨xs, h⟩ := hC z hz
    rw [h] at e
    cases e
    exact noTup_lst
  have kx : Same (OffL C (OffL (F ++ ftN n N) G)) (OffL C (OffL (F ++ ftN n N) G')) := by
    rw [offL_comm, offL_comm (as := C) (ft := F ++ ftN n N)]
    exact offL_mono k
  refine ⟨w.bn.keptL (fun z hz m => nz z hz (List.mem_append_right _ m)) (fun z hz o e => nt z hz o (by rw [offL_out (nz z hz)]; exact e)) k, fun z hz => ?_, fun z o zn e no => ?_, fun a xs q => sqt_keptL kx nt q, ?_⟩
  · have zc : z ∉ C := fun m => nz z m (List.mem_append_left _ hz)
    obtain ⟨o, a1, a2, a3⟩ := w.al z hz
    have y := k.at_ z o (by rw [offL_out zc]; exact a1) a3
    rw [offL_out zc] at y
    exact ⟨o, y, a2, a3⟩
  · have y := kx.at_ z o (by rw [offL_out zn]; exact e) no
    rw [offL_out zn] at y
    exact y
  · obtain ⟨q, e, u⟩ := w.tab
    refine (offL_sub _ _).tab T (kx.tab T ⟨q, ?_, u⟩)
    rw [offL_out (fun h => ?_)]
    · exact e
    · obtain ⟨xs, h2⟩ := hC T h
      rw [h2] at e
      cases e
/-- a draw -/
theorem Wl.draw (w : Wl CN CB K T n st sc ls fc ln rv c r F m G N s ps L el pl t es gs ws) (S' : Sto sc st m' G') (k : Kept st G G') : Wl CN CB K T n st sc ls fc ln rv c r F m' G' N s ps L el pl t es gs ws := by
  obtain ⟨cs, a1, a2, a3, a4, g1, g2, g3, _⟩ := w.sto.ex
  have h := w.chg (C := [st]) (G' := G') (by rw [offL_one, offL_one]; exact k) (fun z hz => by rw [List.mem_singleton.mp hz]; exact ⟨_, g1⟩)
  have mv : ∀ {z : Addr} {xs : List V}, OffL (F ++ ftN n N) G z = some (.lst xs) → (∀ (a : Addr) (i : Int) (tl : List V), xs = .ref a :: .int i :: tl → False) → OffL (F ++ ftN n N) G' z = some (.lst xs) := fun {z xs} e f => h.mv z _ (fun q => by
    rw [List.mem_singleton.mp q, g1] at e
    cases e
    exact f _ _ _ rfl) e trivial
  obtain ⟨pr, p1, p2⟩ := w.pairs
  obtain ⟨ev, v1, v2⟩ := w.ended
  obtain ⟨x2, x3, x4, x5, x6, h1, h2, h3, h4⟩ := S'.ex
  exact ⟨h.bn, w.sep, h.al, ⟨mv w.lines.top (fun _ _ _ e => tops_noInt e), fun p hp => mv (w.lines.line p hp) (fun _ _ _ e => refs_noInt e), fun p hp => mv (w.lines.jobs p hp) (fun _ _ _ e => by cases e), w.lines.nd⟩, w.l1, mv w.facts (fun _ _ _ e => by cases e), mv w.names (fun _ _ _ e => str_noRef e),
    ⟨pr, mv p1 (fun _ _ _ e => by rw [e] at p2; exact flat_int2 p2 w.flat), flatTs_keep h.tp p2 w.flat⟩, w.flat, ⟨ev, mv v1 (fun _ _ _ e => by rw [e] at v2; exact flat_int2 v2 flat_pairs), flatTs_keep h.tp v2 flat_pairs⟩,
    rul_keep h.tp w.rule, ⟨x2, x3, x4, x5, x6, by rw [offL_out (offL_some g1).1]; exact h1, h2, by rw [offL_out (offL_some g3).1]; exact h3, h4⟩, h.tab, w.le, w.lp⟩
/-- a name goes -/
theorem Wl.pop (w : Wl CN CB K T n st sc ls fc ln rv c r F m G N s ps L el pl t es gs ws) (ne : ws ≠ []) (us : List Str) : Wl CN CB K T n st sc ls fc ln rv c r F m (upd G ln (.lst (us.map V.str))) N s ps L el pl t es gs us := by
  obtain ⟨cs, a1, a2, a3, a4, g1, g2, g3, g4⟩ := w.sto.ex
  have h := w.chg (C := [ln]) (G' := upd G ln (.lst (us.map V.str))) (by rw [offL_one, offL_one, off_upd]; exact Same.refl _) (fun z hz => by rw [List.mem_singleton.mp hz]; exact ⟨_, w.names⟩)
  obtain ⟨x, ws', rfl⟩ : ∃ x ws', ws = x :: ws' := by
    cases ws with
    | nil => exact absurd rfl ne
    | cons x r => exact ⟨x, r, rfl⟩
  have mv : ∀ {z : Addr} {xs : List V}, OffL (F ++ ftN n N) G z = some (.lst xs) → (xs = .str x :: ws'.map V.str → False) → OffL (F ++ ftN n N) (upd G ln (.lst (us.map V.str))) z = some (.lst xs) := fun {z xs} e f => h.mv z _ (fun q => by
    rw [List.mem_singleton.mp q, w.names] at e
    cases e
    exact f rfl) e trivial
  obtain ⟨pr, p1, p2⟩ := w.pairs
  obtain ⟨ev, v1, v2⟩ := w.ended
  exact ⟨h.bn, w.sep, h.al, ⟨mv w.lines.top (fun e => tops_noStr e), fun p hp => mv (w.lines.line p hp) (fun e => refs_noStr e), fun p hp => mv (w.lines.jobs p hp) (fun e => str_noJv (ws := x :: ws') e.symm), w.lines.nd⟩, w.l1, mv w.facts (fun e => by cases e), by rw [offL_out (offL_some w.names).1, upd_same],
    ⟨pr, mv p1 (fun e => by rw [e] at p2; exact flat_str p2 w.flat), flatTs_keep h.tp p2 w.flat⟩, w.flat, ⟨ev, mv v1 (fun e => by rw [e] at v2; exact flat_str v2 flat_pairs), flatTs_keep h.tp v2 flat_pairs⟩,
    rul_keep h.tp w.rule, ⟨cs, a1, a2, a3, a4, mv g1 (fun e => by cases e), g2, mv g3 (fun e => ints_noStr e), g4⟩, h.tab, w.le, w.lp⟩
/-- the facts change -/
theorem Wl.fact (w : Wl CN CB K T n st sc ls fc ln rv c r F m G N s ps L el pl t es gs ws) {t' : Int} {el' pl' : Addr} {es' : List (Str × Int)} {gs' : List PyData} {ev pr : List V} (he : OffL (F ++ ftN n N) G el' = some (.lst ev)) (de : DpAll K (OffL (F ++ ftN n N) G) ev (es'.map pairSI)) (hp : OffL (F ++ ftN n N) G pl' = some (.lst pr)) (dp : DpAll K (OffL (F ++ ftN n N) G) pr gs') (fl : ∀ e ∈ gs', FlatT e) (le : ls ≠ el') (lp : ls ≠ pl') :
    Wl CN CB K T n st sc ls fc ln rv c r F m (upd G fc (.lst [.int t', .ref el', .ref pl'])) N s ps L el' pl' t' es' gs' ws := by
  obtain ⟨cs, a1, a2, a3, a4, g1, g2, g3, g4⟩ := w.sto.ex
  have h := w.chg (C := [fc]) (G' := upd G fc (.lst [.int t', .ref el', .ref pl'])) (by rw [offL_one, offL_one, off_upd]; exact Same.refl _) (fun z hz => by rw [List.mem_singleton.mp hz]; exact ⟨_, w.facts⟩)
  have mv : ∀ {z : Addr} {xs : List V}, OffL (F ++ ftN n N) G z = some (.lst xs) → (xs = [.int t, .ref el, .ref pl] → False) → OffL (F ++ ftN n N) (upd G fc (.lst [.int t', .ref el', .ref pl'])) z = some (.lst xs) := fun {z xs} e f => h.mv z _ (fun q => by
    rw [List.mem_singleton.mp q, w.facts] at e
    cases e
    exact f rfl) e trivial
  exact ⟨h.bn, w.sep, h.al, ⟨mv w.lines.top (fun e => by
      unfold tops at e
      cases L with
      | nil => cases e
      | cons a l => cases e), fun p hp => mv (w.lines.line p hp) (fun e => by
      unfold refs at e
      cases hq : p.2 with
      | nil => rw [hq] at e; cases e
      | cons a l => rw [hq] at e; cases e), fun p hp => mv (w.lines.jobs p hp) (fun e => by cases e), w.lines.nd⟩, w.l1, by rw [offL_out (offL_some w.facts).1, upd_same], mv w.names (fun e => str_noInt e),
    ⟨pr, mv hp (fun e => by rw [e] at dp; exact flat_int dp fl), flatTs_keep h.tp dp fl⟩, fl, ⟨ev, mv he (fun e => by rw [e] at de; exact flat_int de flat_pairs), flatTs_keep h.tp de flat_pairs⟩,
    rul_keep h.tp w.rule, ⟨cs, a1, a2, a3, a4, mv g1 (fun e => by cases e), g2, mv g3 (fun e => ints_noRef2 e), g4⟩, h.tab, le, lp⟩
/-- the lines change, and the jobs -/
theorem Wl.lvl (w : Wl CN CB K T n st sc ls fc ln rv c r F m G N s ps L el pl t es gs ws) {C : List Addr} (hC : ∀ z ∈ C, z = ls ∨ z ∈ jas L) (k : Same (OffL C G) (OffL C G')) {L' : Lv} (hL : LnAt G' ls L') (len : L'.length = L.length) (al : ∀ p ∈ L', G p.1 = none ∨ ∃ q ∈ L, q.1 = p.1) (fr : ∀ z ∈ jas L', z ∈ jas L ∨ G z = none) :
    Wl CN CB K T n st sc ls fc ln rv c r F m G' N s ps L' el pl t es gs ws := by
  obtain ⟨cs, a1, a2, a3, a4, g1, g2, g3, g4⟩ := w.sto.ex
  have hj : ∀ z ∈ jas L, ∃ j, OffL (F ++ ftN n N) G z = some (jv j) := fun z hz => by
    obtain ⟨a, ha, rfl⟩ := List.mem_map.mp hz
    exact ⟨_, w.lines.jobs a ha⟩
  have h := w.chg (C := C) k (fun z hz => by
    rcases hC z hz with rfl | hz
    · exact ⟨_, w.lines.top⟩
    · obtain ⟨j, e⟩ := hj z hz
      exact ⟨_, e⟩)
  have mv : ∀ {z : Addr} {xs : List V}, OffL (F ++ ftN n N) G z = some (.lst xs) → z ≠ ls → (∀ j, .lst xs = jv j → False) → OffL (F ++ ftN n N) G' z = some (.lst xs) := fun {z xs} e ne f => h.mv z _ (fun q => by
    rcases hC z q with q | q
    · exact ne q
    · obtain ⟨j, e2⟩ := hj z q
      rw [e2] at e
      exact f j (Option.some.inj e).symm) e trivial
  have nel : ∀ {z : Addr} {xs : List V}, OffL (F ++ ftN n N) G z = some (.lst xs) → (∀ a tl, xs = V.ref a :: tl → False) → z ≠ ls := fun {z xs} e f q => by
    rw [q, w.lines.top] at e
    cases e
    have l1 := w.l1
    cases L with
    | nil => cases l1
    | cons p r => exact f _ _ rfl
  have hls := (offL_some w.lines.top).1
  obtain ⟨pr, p1, p2⟩ := w.pairs
  obtain ⟨ev, v1, v2⟩ := w.ended
  refine ⟨h.bn, w.sep, h.al, ⟨by rw [offL_out hls]; exact hL.top, fun p hp => ?_, fun a ha => ?_, hL.nd⟩, by rw [len]; exact w.l1, mv w.facts (nel w.facts fun _ _ e => by cases e) (fun j e => by cases e), mv w.names (nel w.names fun _ _ e => str_noRef e) (fun j e => str_noJv (HO.lst.inj e)),
    ⟨pr, mv p1 w.lp.symm (fun j e => by rw [HO.lst.inj e] at p2; exact flat_str p2 w.flat), flatTs_keep h.tp p2 w.flat⟩, w.flat, ⟨ev, mv v1 w.le.symm (fun j e => by rw [HO.lst.inj e] at v2; exact flat_str v2 flat_pairs), flatTs_keep h.tp v2 flat_pairs⟩,
    rul_keep h.tp w.rule, ⟨cs, a1, a2, a3, a4, mv g1 (fun q => by
      rw [q, w.lines.top] at g1
      exact tops_noInt (HO.lst.inj (Option.some.inj g1))) (fun j e => by cases e), g2, mv g3 (nel g3 fun _ _ e => ints_noRef e) (fun j e => ints_noStr (HO.lst.inj e)), g4⟩, h.tab, w.le, w.lp⟩
  · rcases al p hp with e | e
    · rw [w.at_new e]
      exact hL.line p hp
    · obtain ⟨q, hq, e⟩ := e
      have z := (offL_some (w.lines.line q hq)).1
      rw [e] at z
      rw [offL_out z]
      exact hL.line p hp
  · rcases fr a.1 (List.mem_map.mpr ⟨a, ha, rfl⟩) with e | e
    · obtain ⟨j, e2⟩ := hj _ e
      rw [offL_out (offL_some e2).1]
      exact hL.jobs a ha
    · rw [w.at_new e]
      exact hL.jobs a ha
end
/-- what is known of it at a turn -/
structure P12 (i : Nat) (r : Rl) (s : Bd) (ps : List Addr) (L : Lv) (ws : List Str) : Prop where
  rok : r.Ok
  rel : RelL s (jbs L)
  uq : s.UQ r
  wnd : ws.Nodup
  wok : ∀ w ∈ ws, nameD (.str w) = true ∧ w ∉ s.ran.map (·.1)
  few : s.ran.length + ws.length ≤ 12
  nok : ∀ x ∈ s.ran.map (·.1), nameD (.str x) = true
  psl : ps.length ≤ i
  fl : s.fins.length ≤ i
theorem P12.jlen {i : Nat} {r : Rl} {s : Bd} {ps : List Addr} {L : Lv} {ws : List Str} (t : P12 i r s ps L ws) (ok : s.Ok) : (jl L).length ≤ 12 := by
  have e := congrArg List.length (jl_names t.rel)
  rw [List.length_map] at e
  have z := nd_len ok.ndo fun x hx => ok.sub x hx
  rw [List.length_map] at z
  have := t.few
  omega
theorem P12.llen {i : Nat} {r : Rl} {s : Bd} {ps : List Addr} {L : Lv} {ws : List Str} (t : P12 i r s ps L ws) (ok : s.Ok) : 1 ≤ L.length ∧ L.length ≤ 6 := by
  have h1 := ok.lines1
  have h6 := ok.lines6
  rw [t.rel.len, jbs_len] at h1 h6
  exact ⟨h1, h6⟩
theorem P12.arr {i : Nat} {r : Rl} {s : Bd} {ps : List Addr} {L L' : Lv} {us : List Str} {x : Str} {e : Nat} {l : List Jb} (p : P12 i r s ps L (us ++ [x])) (ok : s.Ok) {t : Addr} (hl : (jbs L)[min e ((jbs L).length - 1)]? = some l) (eL : jbs L' = (jbs L).set (min e ((jbs L).length - 1)) (if r.stackAt (min e ((jbs L).length - 1)) = true then (x, 0, 0) :: l else l ++ [(x, 0, 0)])) : P12 (i + 1) r (s.enter r x e) (t :: ps) L' us := by
  obtain ⟨xn, nx⟩ := p.wok x (List.mem_append_right _ (List.mem_singleton_self x))
  obtain ⟨n1, n2, n3⟩ := List.nodup_append.mp p.wnd
  refine ⟨p.rok, ?_, p.uq.enter p.rok ok.toOk0 nx, n1, fun w hw => ?_, ?_, fun y hy => ?_, Nat.succ_le_succ p.psl, Nat.le_succ_of_le p.fl⟩
  · rw [eL]
    exact p.rel.enter ok.toOk0 hl nx
  · obtain ⟨w1, w2⟩ := p.wok w (List.mem_append_left _ hw)
    refine ⟨w1, fun m => ?_⟩
    have m : w ∈ (s.ran ++ [(x, (0 : Int))]).map (·.1) := m
    rw [List.map_append] at m
    rcases List.mem_append.mp m with m | m
    · exact w2 m
    · exact n3 w hw x (List.mem_singleton_self x) (List.mem_singleton.mp m)
  · have z := p.few
    rw [List.length_append] at z
    show (s.ran ++ [(x, (0 : Int))]).length + us.length ≤ 12
    rw [List.length_append]
    simp at z ⊢
    omega
  · have m : y ∈ (s.ran ++ [(x, (0 : Int))]).map (·.1) := hy
    rw [List.map_append] at m
    rcases List.mem_append.mp m with m | m
    · exact p.nok y m
    · rw [List.mem_singleton.mp m]
      exact xn
theorem P12.unit {i : Nat} {r : Rl} {s : Bd} {ps : List Addr} {L L' : Lv} {ws : List Str} {c : Nat} {fin : List Str} (p : P12 i r s ps L ws) (ok : s.Ok) (R : RelL (s.endUnits r c 1 fin) (jbs L')) {t : Addr} : P12 (i + 1) r (s.endUnits r c 1 fin) (t :: ps) L' ws := by
  have a := Bd.units_after (r := r) ok.toOk0 (c : Int) 1 fin
  have ek : (s.endUnits r c 1 fin).ran.map (·.1) = s.ran.map (·.1) := a.ran
  have el : (s.endUnits r c 1 fin).ran.length = s.ran.length := by
    have z := congrArg List.length ek
    rw [List.length_map, List.length_map] at z
    exact z
  refine ⟨p.rok, R, p.uq.one p.rok ok.toOk0, p.wnd, fun w hw => by rw [ek]; exact p.wok w hw, by rw [el]; exact p.few, fun x hx => p.nok x (by rw [← ek]; exact hx), Nat.succ_le_succ p.psl, ?_⟩
  rw [a.fins]
  split
  · exact Nat.le_succ_of_le p.fl
  · rw [List.length_append]
    exact Nat.succ_le_succ p.fl
theorem lens_enter {r : Rl} {s : Bd} (ok : s.Ok) {x : Str} {e : Nat} : lensS (s.enter r x e) = lensS s := by
  show (s.fins.flatMap fun f => f.2.2).map (fun y => (y, getS (s.ran ++ [(x, 0)]) y)) = _
  refine List.map_congr_left fun y hy => ?_
  obtain ⟨fi, h1, h2⟩ := List.mem_flatMap.mp hy
  rw [getS_app ((ok.fst fi h1).2.2 y h2)]
theorem log_units {r : Rl} {s : Bd} (ok : s.Ok0) {c : Int} {fin : List Str} (nd : fin.Nodup) (sub : ∀ x ∈ fin, x ∈ s.run c) :
    logD (s.endUnits r c 1 fin) = logD s ++ if fin = [] then [] else [.tuple [.int (s.now + 1), .int (fin.length : Nat)]] := by
  have lvm : ∀ y, y ∈ s.lv c fin ↔ y ∈ fin := fun y => ⟨fun h => of_decide_eq_true (List.mem_filter.mp h).2, fun h => List.mem_filter.mpr ⟨sub y h, decide_eq_true h⟩⟩
  have lvn : (s.lv c fin).Nodup := (Bd.run_nd ok).sublist List.filter_sublist
  have le : (s.lv c fin).length = fin.length := Nat.le_antisymm (nd_len lvn fun x hx => (lvm x).mp hx) (nd_len nd fun x hx => (lvm x).mpr hx)
  have a := (Bd.units_after (r := r) ok c 1 fin).fins
  have em : s.lv c fin = [] ↔ fin = [] := by
    rw [← List.length_eq_zero_iff, ← List.length_eq_zero_iff, le]
  unfold logD
  rw [a]
  by_cases e : fin = []
  · rw [if_pos (em.mpr e), if_pos e, List.append_nil]
  · rw [if_neg (fun z => e (em.mp z)), if_neg e, List.map_append]
    show _ ++ [PyData.tuple [.int (s.now + 1), .int ((s.lv c fin).length : Nat)]] = _
    rw [le]
theorem lens_unitsL {r : Rl} {s : Bd} {L : Lv} (R : RelL s (jbs L)) (ok : s.Ok) {c : Nat} {fin : List Str} (sub : ∀ x ∈ fin, x ∈ s.run c) :
    lensS (s.endUnits r c 1 fin) = lensS s ++ (((jl L).take c).filter fun a => decide (a.2.1 ∈ fin)).map fun a => (a.2.1, a.2.2.2 + 1) := by
  obtain ⟨v1, _, _⟩ := mid_vals ok.toOk0 (c := (c : Int)) (d := 1) (fin := fin)
  have erun : s.run c = ((jl L).take c).map fun a => a.2.1 := by
    unfold Bd.run
    rw [Int.toNat_natCast, ← jl_names R, List.map_take]
  unfold lensS
  rw [flat_units ok.toOk0, List.map_append, units_ran]
  congr 1
  · refine List.map_congr_left fun x hx => ?_
    obtain ⟨fi, h1, h2⟩ := List.mem_flatMap.mp hx
    rw [v1 x ((ok.fst fi h1).2.2 x h2), if_neg (fun m => ok.gone x hx (Bd.run_sub x m)), Int.add_zero]
  · unfold Bd.lv
    rw [erun, List.filter_map, List.map_map]
    refine List.map_congr_left fun a ha => ?_
    have ha1 := (List.mem_filter.mp ha).1
    have ha2 := List.mem_of_mem_take ha1
    obtain ⟨p, hp, hap⟩ := jl_ex ha2
    have io : a.2.1 ∈ s.order := by rw [← jl_names R]; exact List.mem_map.mpr ⟨a, ha2, rfl⟩
    have ir : a.2.1 ∈ s.run c := by rw [erun]; exact List.mem_map.mpr ⟨a, ha1, rfl⟩
    have hv := (R.vals _ (List.mem_map.mpr ⟨p, hp, rfl⟩) a.2 (List.mem_map.mpr ⟨a, hap, rfl⟩)).2
    show (a.2.1, getS _ a.2.1) = (a.2.1, a.2.2.2 + 1)
    rw [v1 a.2.1 (ok.sub _ io), if_pos ir, hv]
/-- a board of the past, beside the bench -/
theorem past_kept {CB : Addr} {K : PySem.W.Frag} {n : Addr} {N : BnA} {G G' : Hp} {t0 : Addr} {At : BdA} {rv : V} {c : Int} {s : Bd} {C : List Addr} (B : BdAt CB K (OffL (ftN n N) G) t0 rv c At s) (hC : ∀ z ∈ C, z ∉ ftB t0 At) (nt : ∀ z ∈ C, ∃ xs, OffL (ftN n N) G z = some (.lst xs)) (k : Same (OffL C G) (OffL C G')) : BdAt CB K (OffL (ftN n N) G') t0 rv c At s :=
  B.keptL hC (fun z hz o e => by
    obtain ⟨xs, h⟩ := nt z hz
    rw [h] at e
    cases e
    exact noTup_lst) (by
    rw [offL_comm, offL_comm (as := C) (ft := ftN n N)]
    exact offL_mono k)
section
variable {CN CB : Addr} {K : PySem.W.Frag} {T n st sc ls fc ln : Addr} {rv : V} {c : Int} {r : Rl} {F : List Addr} {m m' : Int} {G G' : Hp} {N N' : BnA} {s s' : Bd} {ps ps' : List Addr} {L : Lv} {el pl : Addr} {t : Int} {es : List (Str × Int)} {gs : List PyData} {ws : List Str}
theorem Wl.drawMv (w : Wl CN CB K T n st sc ls fc ln rv c r F m G N s ps L el pl t es gs ws) (k : Kept st G G') {z : Addr} {o : HO} (h : OffL (F ++ ftN n N) G z = some o) (nt : NoTbl o) (ne : ∀ a i tl, o = .lst (.ref a :: .int i :: tl) → False) : OffL (F ++ ftN n N) G' z = some o := by
  obtain ⟨cs, a1, a2, a3, a4, g1, g2, g3, _⟩ := w.sto.ex
  have hh := w.chg (C := [st]) (G' := G') (by rw [offL_one, offL_one]; exact k) (fun z hz => by rw [List.mem_singleton.mp hz]; exact ⟨_, g1⟩)
  exact hh.mv z o (fun q => by
    rw [List.mem_singleton.mp q, g1] at h
    exact ne _ _ _ (Option.some.inj h).symm) h nt
theorem Wl.factMv (w : Wl CN CB K T n st sc ls fc ln rv c r F m G N s ps L el pl t es gs ws) {u : HO} {z : Addr} {o : HO} (h : OffL (F ++ ftN n N) G z = some o) (nt : NoTbl o) (ne : ∀ i tl, o = .lst (.int i :: tl) → False) : OffL (F ++ ftN n N) (upd G fc u) z = some o := by
  have hh := w.chg (C := [fc]) (G' := upd G fc u) (by rw [offL_one, offL_one, off_upd]; exact Same.refl _) (fun z hz => by rw [List.mem_singleton.mp hz]; exact ⟨_, w.facts⟩)
  exact hh.mv z o (fun q => by
    rw [List.mem_singleton.mp q, w.facts] at h
    exact ne _ _ (Option.some.inj h).symm) h nt
end
/-- what is kept beside less is kept beside more -/
theorem Same.widen {A A' B : List Addr} {H H' : Hp} (k : Same (OffL A H) (OffL A' H')) (s : ∀ z ∈ A, z ∈ B) : Same (OffL B H) (OffL B H') := by
  have go : ∀ {z : Addr}, z ∉ B → OffL A H z = H z := fun {z} h => offL_out fun m => h (s z m)
  have gs : ∀ {z : Addr} {o : HO}, OffL A' H' z = some o → H' z = some o := fun {z o} e => (offL_some e).2
  refine ⟨fun z o e nt => ?_, fun z e => ?_, fun P ⟨ps, e, t⟩ => ?_⟩
  · obtain ⟨h1, h2⟩ := offL_some e
    rw [offL_out h1]
    exact gs (k.at_ z o (by rw [go h1]; exact h2) nt)
  · by_cases m : z ∈ B
    · rw [offL_in m] at e
      exact absurd rfl e
    · rw [offL_out m] at e ⊢
      have y := k.has z (by rw [go m]; exact e)
      cases q : OffL A' H' z with
      | none => exact absurd q y
      | some o =>
        rw [gs q]
        exact fun w => nomatch w
  · obtain ⟨h1, h2⟩ := offL_some e
    obtain ⟨qs, f, u⟩ := k.tab P ⟨ps, by rw [go h1]; exact h2, t⟩
    exact ⟨qs, by rw [offL_out h1]; exact gs f, u⟩
theorem Wl.noTup {CN CB : Addr} {K : PySem.W.Frag} {T n st sc ls fc ln : Addr} {rv : V} {c : Int} {r : Rl} {F : List Addr} {m : Int} {G : Hp} {N : BnA} {s : Bd} {ps : List Addr} {L : Lv} {el pl : Addr} {t : Int} {es : List (Str × Int)} {gs : List PyData} {ws : List Str} (w : Wl CN CB K T n st sc ls fc ln rv c r F m G N s ps L el pl t es gs ws) : ∀ z ∈ F ++ ftN n N, ∀ o, G z = some o → NoTup o := fun z hz o e => by
  rcases List.mem_append.mp hz with h | h
  · obtain ⟨o', a1, a2, _⟩ := w.al z h
    rw [a1] at e
    cases e
    exact a2
  · exact w.bn.noTup z h o e
end Vk
set_option maxHeartbeats 8000000
/-! the law: the end of a unit -/
namespace Vk
open PySem PySem.Spec PyProof.Rows L2 GxR
abbrev NE : List Str := ["lines", "policy", "moment", "active", "finishing", "plan", "boost", "level", "job", "one", "below"]
section
variable {P : Program} {w : World} {K : PySem.W.Frag} {mg : Str → Option Value} {base : Heap}
def spEndL (K : PySem.W.Frag) : Sp := fun vs H Q _ => ∃ (ls ac fa : Addr) (rv : V) (c : Nat) (r : Rl) (s : Bd) (L : Lv) (O : Or_) (fin : List Str), vs = [.ref ls, rv, .int (s.now + 1), .ref ac, .ref fa] ∧ LnAt H ls L ∧ r.Ok ∧ r.levels.length = L.length ∧ (jl L).length ≤ 100 ∧ RelL s (jbs L) ∧ s.Ok0 ∧ s.UQ r ∧
  OffL (ls :: jas L) H ac = some (.lst (O.map fun q => V.ref q.1)) ∧ OrdAt (OffL (ls :: jas L) H) O ∧ O.map (·.2) = (ordL L).take c ∧ SqT K (OffL (ls :: jas L) H) fa (fin.map V.str) ∧ Dp K (OffL (ls :: jas L) H) rv (bRulD r) ∧
  ∀ (L' : Lv) (H' : Hp), LnAt H' ls L' → L'.length = L.length → RelL (s.endUnits r c 1 fin) (jbs L') → (∀ z ∈ jas L', z ∈ jas L ∨ H z = none) → OldL H L L' → (∀ q ∈ O, H' q.2.2.1 = some (jv (bumpJ q.2.2.2))) → Same (OffL (ls :: jas L) H) (OffL (ls :: jas L) H') → Q .non H'
theorem scEndL : FnScope NE ["lines", "policy", "moment", "active", "finishing"] (defScope sEnd) := ⟨rfl, rfl, rfl, by decide +kernel, rfl, by decide +kernel, by decide +kernel⟩
theorem ok_endL (D : Df K mg "_law_end" sEnd ["lines", "policy", "moment", "active", "finishing"]) (B : Blt mg) (mn : mg "min" = none) (OR : Cl P w K mg base CX0 1 "_law_order" ["lines"] (spOrderL K)) : Cl P w K mg base CX0 2 "_law_end" ["lines", "policy", "moment", "active", "finishing"] (spEndL K) := by
  refine cl0 D scEndL (fun vs H Q E h => ?_) (fun f cdv Ar outer s0 H vs Q E hr h => ?_)
  · obtain ⟨ls, ac, fa, rv, c, r, s, L, O, fin, rfl, _⟩ := h
    rfl
  · obtain ⟨ls, ac, fa, rv, c, r, s, L, O, fin, rfl, hL, rok, lev, j100, R, ok, uq, hac, hO, eO, hfa, hrv, k⟩ := h
    refine ⟨_, pss_cons (ps_asg (pv 1) (pg_tup rfl (pgs_cons (pg_name (i := 5) scEndL.nd rfl (.inl rfl)) (pgs_cons (pg_name (i := 6) scEndL.nd rfl (.inl rfl)) pgs_nil))))
      (pss_cons (ps_for PassesOwn.never rfl (pi_list (pv 3)) (pg_tup rfl (pgs_cons (pg_name (i := 7) scEndL.nd rfl (.inl rfl)) (pgs_cons (pg_name (i := 8) scEndL.nd rfl (.inr rfl)) pgs_nil)))
        (pss_cons (ps_asg (pe_op op_add (pe_ix ix_list (pv 8) pe_int (fun _ _ => rfl)) pe_int) (pg_sub (pv 8) pe_int set_list))
        (pss_one (ps_asg (pe_op op_add (pe_ix ix_list (pv 8) pe_int (fun _ _ => rfl)) pe_int) (pg_sub (pv 8) pe_int set_list)))))
      (pss_cons (ps_for PassesOwn.never rfl (pi_list (pv 3)) (pg_tup rfl (pgs_cons (pg_name (i := 7) scEndL.nd rfl (.inl rfl)) (pgs_cons (pg_name (i := 8) scEndL.nd rfl (.inr rfl)) pgs_nil)))
        (pss_one (ps_if (pt_cmpR op_in_seq (pe_ix ix_list (pv 8) pe_int (fun _ _ => rfl)) (pv 4) (by rfl)) (pss_one (ps_asg (pe_lc (own := [("one", 9)]) (g := gName 9) (tt := tTest (tOp rNe (tOp (rIxL K) (tVar 9) (tC (.int 0))) (tOp (rIxL K) (tVar 8) (tC (.int 0))))) (te := tVar 9) (by rfl) scEndL.nd (pi_list (pe_ix ix_list (pv 0) (pv 7) (fun _ _ => rfl))) (blkOk_by (own := [("one", 9)]) (N := NE) (sc := defScope sEnd) (by decide +kernel)) (fun _ _ _ _ _ => pg_name (i := 9) scEndL.nd rfl (Or.inl rfl)) (fun _ _ _ _ _ => pts_one (pt_cmpR op_ne (pe_ix ix_list (pv 9) pe_int (fun _ _ => rfl)) (pe_ix ix_list (pv 8) pe_int (fun _ _ => rfl)) (nomark _))) (fun _ _ _ _ _ => pv 9)) (pg_sub (pv 0) (pv 7) set_list))) pss_nil)))
      (pss_cons (ps_for PassesOwn.never rfl (pi_list (pv 3)) (pg_tup rfl (pgs_cons (pg_name (i := 7) scEndL.nd rfl (.inl rfl)) (pgs_cons (pg_name (i := 8) scEndL.nd rfl (.inr rfl)) pgs_nil)))
        (pss_one (ps_if (PW.pt (pw_and (pt_cmpR op_notIn_seq (pe_ix ix_list (pv 8) pe_int (fun _ _ => rfl)) (pv 4) (by rfl)) (pw_and (pt_cmpR op_notN (pe_ix ix_tup (pe_ix ix_tup (pv 5) (pv 7) (fun _ _ => rfl)) pe_int (fun _ _ => rfl)) pe_non (nomark _)) (pw_and1 (pt_cmpR op_ge (pe_ix ix_list (pv 8) pe_int (fun _ _ => rfl)) (pe_ix ix_tup (pe_ix ix_tup (pv 5) (pv 7) (fun _ _ => rfl)) pe_int (fun _ _ => rfl)) (nomark _))))))
          (pss_cons (ps_asg (pe_lc (own := [("one", 9)]) (g := gName 9) (tt := tTest (tOp rNe (tOp (rIxL K) (tVar 9) (tC (.int 0))) (tOp (rIxL K) (tVar 8) (tC (.int 0))))) (te := tVar 9) (by rfl) scEndL.nd (pi_list (pe_ix ix_list (pv 0) (pv 7) (fun _ _ => rfl))) (blkOk_by (own := [("one", 9)]) (N := NE) (sc := defScope sEnd) (by decide +kernel)) (fun _ _ _ _ _ => pg_name (i := 9) scEndL.nd rfl (Or.inl rfl)) (fun _ _ _ _ _ => pts_one (pt_cmpR op_ne (pe_ix ix_list (pv 9) pe_int (fun _ _ => rfl)) (pe_ix ix_list (pv 8) pe_int (fun _ _ => rfl)) (nomark _))) (fun _ _ _ _ _ => pv 9)) (pg_sub (pv 0) (pv 7) set_list))
          (pss_cons (ps_set (i := 10) scEndL.nd rfl (Or.inl rfl) (pe_callB (call_min2 rfl) (by rfl) mn (by decide +kernel) (pa_cons (pe_op op_add (pv 7) pe_int) (pa_cons (pe_op op_sub (pe_callB call_len_seq (by rfl) B.len PySem.boot_len (pa_cons (pv 5) pa_nil)) pe_int) pa_nil))))
          (pss_one (ps_asg (pe_op op_cat (pe_ix ix_list (pv 0) (pv 10) (fun _ _ => rfl)) (pe_lst (pa_cons (pe_lst (pa_cons (pe_ix ix_list (pv 8) pe_int (fun _ _ => rfl)) (pa_cons pe_int (pa_cons (pe_ix ix_list (pv 8) pe_int (fun _ _ => rfl)) pa_nil)))) pa_nil))) (pg_sub (pv 0) (pv 10) set_list))))) pss_nil)))
      (pss_one (ps_if (PW.pt (pw_and (pt_cmpR op_notN (pv 6) pe_non (nomark _)) (pw_and1 (pt_cmpR op_eq (pe_op op_modN (pv 2) (pv 6)) pe_int (nomark _)))))
        (pss_cons (ps_asg (pe_lc (own := [("level", 7), ("job", 8)]) (g := gTup K 2 (gCons (gName 7) (gCons (gName 8) gNil))) (tt := tYes) (te := tLst (tCons (tOp (rIxL K) (tVar 8) (tC (.int 0))) (tCons (tC (.int 0)) (tCons (tOp (rIxL K) (tVar 8) (tC (.int 2))) tNil)))) (by rfl) scEndL.nd (pi_list (pc OR hr (by decide) (pa_cons (pv 0) pa_nil)))
            (blkOk_by (own := [("level", 7), ("job", 8)]) (N := NE) (sc := defScope sEnd) (by decide +kernel)) (fun _ _ _ _ _ => pg_tup rfl (pgs_cons (pg_name (i := 7) scEndL.nd rfl (.inl rfl)) (pgs_cons (pg_name (i := 8) scEndL.nd rfl (.inl rfl)) pgs_nil))) (fun _ _ _ _ _ => pts_nil)
            (fun _ _ _ _ _ => pe_lst (pa_cons (pe_ix ix_list (pv 8) pe_int (fun _ _ => rfl)) (pa_cons pe_int (pa_cons (pe_ix ix_list (pv 8) pe_int (fun _ _ => rfl)) pa_nil))))) (pg_sub (pv 0) pe_int set_list))
        (pss_one (ps_for PassesOwn.never rfl (pi_range2 (by rfl) B.range (pa_cons pe_int (pa_cons (pe_callB call_len_seq (by rfl) B.len PySem.boot_len (pa_cons (pv 5) pa_nil)) pa_nil))) (pg_name (i := 7) scEndL.nd rfl (Or.inl rfl)) (pss_one (ps_asg (pe_lst pa_nil) (pg_sub (pv 0) (pv 7) set_list)))))) pss_nil))))), ?_⟩
    have nda := hL.nd
    have ndn : ((jl L).map fun b => b.2.1).Nodup := by rw [jl_names R]; exact ok.ndo
    have hz : ∀ n : Nat, n ≤ 1000 → n < sizeLine := fun n hn => Nat.lt_of_le_of_lt hn (by decide)
    obtain ⟨pp, xp, yp, rfl, qp, dxp, dyp⟩ := dp_two hrv
    have eyp : yp = bOptW r.boost := by
      cases hb : r.boost with
      | none => rw [hb] at dyp; cases dyp; rfl
      | some i => rw [hb] at dyp; exact dp_int dyp
    subst eyp
    obtain ⟨pl, xs, rfl, ql, lxs, lvl⟩ := plan_level dxp
    have subF := offL_sub (ls :: jas L) H
    refine ⟨_, rfl, pp, _, rfl, same_seqT subF qp, rfl, _, _, rfl, _, _, rfl, rfl, ?_⟩
    -- the units
    have inL : ∀ q ∈ O, q.2.2 ∈ jl L := fun q hq => by
      have m : q.2 ∈ ordL L := by
        have z : q.2 ∈ O.map (·.2) := List.mem_map.mpr ⟨q, hq, rfl⟩
        rw [eO] at z
        exact List.mem_of_mem_take z
      rw [← ordL_jobs]
      exact List.mem_map.mpr ⟨q.2, m, rfl⟩
    have eN : O.map (fun q => q.2.2.2.1) = s.run c := by
      have z := congrArg (List.map fun q : Nat × (Addr × Jb) => q.2.2.1) eO
      rw [List.map_map, List.map_take] at z
      unfold Bd.run
      rw [Int.toNat_natCast, ← jl_names R, ← ordL_jobs, List.map_map]
      exact z
    have ndO : (O.map fun q => q.2.2.2.1).Nodup := by rw [eN]; exact Bd.run_nd ok
    have takeN : ∀ {i : Nat} {q : Addr × Nat × (Addr × Jb)}, O[i]? = some q → (O.map fun q => q.2.2.2.1).take (i + 1) = (O.map fun q => q.2.2.2.1).take i ++ [q.2.2.2.1] := fun {i q} h => by
      rw [List.take_add_one, List.getElem?_map, h]
      rfl
    have notN : ∀ {i : Nat} {q : Addr × Nat × (Addr × Jb)}, O[i]? = some q → q.2.2.2.1 ∉ (O.map fun q => q.2.2.2.1).take i := fun {i q} h => nd_take ndO (by rw [List.getElem?_map, h]; rfl)
    refine ⟨_, rfl, ac, rfl, ⟨_, SqL.of (subF.at hac)⟩, ?_⟩
    refine for_it (D := { nx := _, rt := _ }) (walk_list (K := K) (a := ac) (xs := O.map fun q => V.ref q.1)) (fun i σ G => ∃ (u7 u8 : Option V), σ = [some (.ref ls), some (.ref pp), some (.int (s.now + 1)), some (.ref ac), some (.ref fa), some (.ref pl), some (bOptW r.boost), u7, u8, none, none] ∧ LnAt G ls (bumpT ((O.map fun q => q.2.2.2.1).take i) L) ∧ OffL (ls :: jas L) G = OffL (ls :: jas L) H)
      ⟨none, none, rfl, by rw [List.take_zero, bumpT_nil]; exact hL, rfl⟩ (fun i σ G _ ⟨_, _, _, _, oG⟩ => SqL.of ((offL_sub _ G).at (by rw [oG]; exact hac))) ?_ ?_
    · rintro i y σ G0 G hi ⟨u7, u8, rfl, hG, oG⟩ ⟨rfl, hy⟩
      rw [List.getElem?_map] at hy
      obtain ⟨q, hq, rfl⟩ := Option.map_eq_some_iff.mp hy
      have qm := List.mem_of_getElem? hq
      obtain ⟨b1, b2⟩ := hG.bump nda ndn (inL q qm) (notN hq)
      have hqt := (offL_sub (ls :: jas L) G).at (by rw [oG]; exact hO q qm)
      refine ⟨q.1, _, rfl, SqT.of hqt, rfl, _, _, rfl, _, _, rfl, rfl, ?_⟩
      refine ⟨_, rfl, q.2.2.1, _, _, _, rfl, rfl, SqL.of b1, rfl, _, _, rfl, rfl, _, rfl, q.2.2.1, _, 1, 1, rfl, rfl, b1, rfl, ?_⟩
      refine ⟨_, rfl, q.2.2.1, _, _, _, rfl, rfl, SqL.of upd_same, rfl, _, _, rfl, rfl, _, rfl, q.2.2.1, _, 2, 2, rfl, rfl, upd_same, rfl, ?_⟩
      rw [upd_upd]
      refine ⟨_, _, rfl, ?_, ?_⟩
      · rw [takeN hq]
        exact b2
      · exact (offL_upd (show q.2.2.1 ∈ ls :: jas L from List.mem_cons_of_mem _ (List.mem_map.mpr ⟨_, inL q qm, rfl⟩))).trans oG
    rintro σ G1 ⟨u7, u8, rfl, h1, o1⟩
    rw [List.length_map] at h1
    rw [List.take_of_length_le (by rw [List.length_map]; exact Nat.le_refl _), eN] at h1
    -- who leaves
    obtain ⟨okM, nowM, _, _, linesM⟩ := Bd.mid_after ok (c : Int) 1 fin
    have R1 := R.mid ok (c := (c : Int)) (fin := fin)
    rw [← bumpT_jbs] at R1
    generalize hL1 : bumpT (s.run c) L = L1 at h1 R1
    have len1 : L1.length = L.length := by rw [← hL1]; unfold bumpT; rw [List.length_map]
    have jas1 : jas L1 = jas L := by rw [← hL1]; exact bumpT_jas
    have jl1 : (jl L1).length = (jl L).length := by rw [← hL1, bumpT_jl, List.length_map]
    generalize hsM : s.mid (c : Int) 1 fin = sM at okM nowM linesM R1
    have keep : ∀ {X : Hp}, Same (Off ls G1) (Off ls X) → ∀ {z : Addr} {o : HO}, OffL (ls :: jas L) H z = some o → NoTbl o → X z = some o := fun {X} kx {z o} e nt => by
      rw [← o1] at e
      obtain ⟨e1, e2⟩ := offL_some e
      have zn : z ≠ ls := fun q => e1 (by rw [q]; exact List.mem_cons_self ..)
      have y := kx.at_ z o (by rw [off_ne zn]; exact e2) nt
      rw [off_ne zn] at y
      exact y
    have keepT : ∀ {X : Hp}, Same (Off ls G1) (Off ls X) → ∀ {a : Addr} {xs : List V}, SqT K (OffL (ls :: jas L) H) a xs → SqT K X a xs := fun {X} kx {a xs} q => by
      rcases q with (q | ⟨o, q⟩) | q
      · exact .inl (.inl (keep kx q trivial))
      · exact .inl (.inr ⟨o, keep kx q trivial⟩)
      · exact .inr q
    -- an active job, as it stands behind its unit
    have act : ∀ {q : Addr × Nat × (Addr × Jb)}, q ∈ O → ∃ p0, L1[q.2.1]? = some p0 ∧ (q.2.2.1, bumpJ q.2.2.2) ∈ p0.2 := fun {q} hq => by
      have m : q.2 ∈ ordL L := by
        have z : q.2 ∈ O.map (·.2) := List.mem_map.mpr ⟨q, hq, rfl⟩
        rw [eO] at z
        exact List.mem_of_mem_take z
      obtain ⟨p, h2, h3⟩ := ordL_at (k := q.2.1) (a := q.2.2) m
      have mr : q.2.2.2.1 ∈ s.run c := by rw [← eN]; exact List.mem_map.mpr ⟨q, hq, rfl⟩
      refine ⟨_, by rw [← hL1]; unfold bumpT; rw [List.getElem?_map, h2]; rfl, List.mem_map.mpr ⟨q.2.2, h3, ?_⟩⟩
      show (q.2.2.1, bumpIf (s.run c) q.2.2.2) = _
      unfold bumpIf
      rw [if_pos mr]
    have actJ : ∀ {X : Hp}, Same (Off ls G1) (Off ls X) → ∀ {q : Addr × Nat × (Addr × Jb)}, q ∈ O → X q.2.2.1 = some (jv (bumpJ q.2.2.2)) := fun {X} kx {q} hq => by
      obtain ⟨p0, h2, h3⟩ := act hq
      have m := jl_mem (List.mem_of_getElem? h2) h3
      have zn : q.2.2.1 ≠ ls := fun e => h1.ls_job (by rw [← e]; exact List.mem_map.mpr ⟨_, m, rfl⟩)
      have y := kx.at (b := q.2.2.1) (o := jv (bumpJ q.2.2.2)) (by rw [off_ne zn]; exact h1.jobs _ m)
      rw [off_ne zn] at y
      exact y
    have run1 : ∀ x ∈ s.run c, x ∈ sM.order := fun x hx => by
      unfold Bd.order
      rw [linesM]
      exact Bd.run_sub x hx
    have lr : ∀ B : List (Addr × Jb), (refs B).length = B.length := fun B => List.length_map ..
    have freeH : ∀ {X : Hp}, Same (Off ls G1) (Off ls X) → ∀ {z : Addr}, X z = none → z ≠ ls → H z = none := fun {X} kx {z} e zn => by
      have y := kx.free (l := z) (by rw [off_ne zn]; exact e)
      rw [off_ne zn] at y
      by_cases m : z ∈ ls :: jas L
      · rcases List.mem_cons.mp m with m | m
        · exact absurd m zn
        · rw [← jas1] at m
          obtain ⟨b, hb, rfl⟩ := List.mem_map.mp m
          rw [h1.jobs b hb] at y
          cases y
      · have w : OffL (ls :: jas L) G1 z = none := by rw [offL_out m]; exact y
        rw [o1, offL_out m] at w
        exact w
    have old1 : OldL H L L1 := fun p hp => by
      rw [← hL1] at hp
      obtain ⟨p0, hp0, rfl⟩ := List.mem_map.mp hp
      exact .inr ⟨p0, hp0, rfl⟩
    refine ⟨_, rfl, ac, rfl, ⟨_, SqL.of ((offL_sub _ G1).at (by rw [o1]; exact hac))⟩, ?_⟩
    refine for_it (D := { nx := _, rt := _ }) (walk_list (K := K) (a := ac) (xs := O.map fun q => V.ref q.1)) (fun i σ G => ∃ (u7 u8 : Option V) (Li : Lv), σ = [some (.ref ls), some (.ref pp), some (.int (s.now + 1)), some (.ref ac), some (.ref fa), some (.ref pl), some (bOptW r.boost), u7, u8, none, none] ∧ LnAt G ls Li ∧ Li.length = L.length ∧ (∀ z ∈ jas Li, z ∈ jas L) ∧
        RelL ((((O.map fun q => q.2.2.2.1).take i).filter fun x => decide (x ∈ fin)).foldl Bd.leave sM) (jbs Li) ∧ Pend L1 Li (((O.map fun q => q.2.2.2.1).take i).filter fun x => decide (x ∈ fin)) ∧ Same (Off ls G1) (Off ls G) ∧ OldL H L Li)
      ⟨u7, u8, L1, rfl, h1, len1, fun z hz => by rw [← jas1]; exact hz, R1, fun k' p0 a h1 h2 _ => ⟨p0, h1, h2⟩, Same.refl _, old1⟩ (fun i σ G _ ⟨_, _, _, _, _, _, _, _, _, kG, _⟩ => SqL.of (keep kG hac trivial)) ?_ ?_
    · rintro i y σ G0 G hi ⟨u7, u8, Li, rfl, hG, lenI, jasI, RI, PI, kG, oI⟩ ⟨rfl, hy⟩
      rw [List.getElem?_map] at hy
      obtain ⟨q, hq, rfl⟩ := Option.map_eq_some_iff.mp hy
      have qm := List.mem_of_getElem? hq
      have hj := actJ kG qm
      obtain ⟨p0, hp0, hp1⟩ := act qm
      have qrun : q.2.2.2.1 ∈ s.run c := by rw [← eN]; exact List.mem_map.mpr ⟨q, qm, rfl⟩
      have okI := okM.leaves (xs := ((O.map fun q => q.2.2.2.1).take i).filter fun x => decide (x ∈ fin)) ((ndO.sublist (List.take_sublist ..)).sublist List.filter_sublist) fun x hx => run1 x (by rw [← eN]; exact List.mem_of_mem_take (List.mem_filter.mp hx).1)
      have j100I := Nat.le_trans (jl_small RI R okI.1.ndo fun x hx => by
        have z := ((okI.2.1 x).mp hx).1
        unfold Bd.order at z
        rw [linesM] at z
        exact z) j100
      refine ⟨q.1, _, rfl, SqT.of (keep kG (hO q qm) trivial), rfl, _, _, rfl, _, _, rfl, rfl, ?_⟩
      refine ⟨_, rfl, q.2.2.1, _, _, _, rfl, rfl, SqL.of hj, rfl, _, rfl, fa, _, rfl, .inr (keepT kG hfa), rfl, all_flatS fin, _, rfl, ?_⟩
      rw [if_neg Bool.false_ne_true, inV_S]
      by_cases m : q.2.2.2.1 ∈ fin
      · rw [decide_eq_true (show (bumpJ q.2.2.2).1 ∈ fin from m)]
        refine iteT ?_
        have er : ((O.map fun q => q.2.2.2.1).take (i + 1)).filter (fun x => decide (x ∈ fin)) = ((O.map fun q => q.2.2.2.1).take i).filter (fun x => decide (x ∈ fin)) ++ [q.2.2.2.1] := by
          rw [takeN hq, List.filter_append]
          congr 1
          simp [m]
        have nrem : q.2.2.2.1 ∉ ((O.map fun q => q.2.2.2.1).take i).filter (fun x => decide (x ∈ fin)) := fun z => notN hq (List.mem_filter.mp z).1
        obtain ⟨pi, hpi, hpa⟩ := PI q.2.1 p0 _ hp0 hp1 nrem
        have pm := List.mem_of_getElem? hpi
        have kl : q.2.1 < Li.length := (List.getElem?_eq_some_iff.mp hpi).1
        have ht : (tops Li)[q.2.1]? = some (V.ref pi.1) := by unfold tops; rw [List.getElem?_map, hpi]; rfl
        have p100 := Nat.le_trans (line_le pm) j100I
        have hpl := hG.line pi pm
        refine ⟨_, rfl, _, rfl, ls, _, _, _, rfl, rfl, SqL.of hG.top, atI_nat ht, pi.1, rfl, ⟨_, SqL.of hpl⟩, fun D nD => ?_⟩
        refine lc_it (walk_list (K := K) (a := pi.1) (xs := refs pi.2)) (fun j Hc => Hc = upd G D (.lst (refs (dx q.2.2.2.1 (pi.2.take j))))) rfl (fun j Hc _ e => by rw [e]; exact SqL.of ((same_new nD).at hpl)) ?_ ?_
        · rintro j y Hc0 Hc hj' rfl ⟨rfl, hy⟩
          unfold refs at hy
          rw [List.getElem?_map] at hy
          obtain ⟨b, hb, rfl⟩ := Option.map_eq_some_iff.mp hy
          have sD := same_new (o := .lst (refs (dx q.2.2.2.1 (pi.2.take j)))) nD
          have hbj := sD.at (hG.jobs b (jl_mem pm (List.mem_of_getElem? hb)))
          refine ⟨rfl, _, rfl, b.1, _, _, _, rfl, rfl, SqL.of hbj, rfl, _, rfl, q.2.2.1, _, _, _, rfl, rfl, SqL.of (sD.at hj), rfl, rfl, _, rfl, ?_⟩
          have tk : dx q.2.2.2.1 (pi.2.take (j + 1)) = dx q.2.2.2.1 (pi.2.take j) ++ (if b.2.1 ≠ q.2.2.2.1 then [b] else []) := by
            unfold dx
            rw [List.take_add_one, hb, List.filter_append]
            congr 1
            by_cases z : b.2.1 = q.2.2.2.1 <;> simp [z]
          rw [tk]
          by_cases z : b.2.1 = q.2.2.2.1
          · rw [decide_eq_true (show V.str b.2.1 = V.str (bumpJ q.2.2.2).1 by rw [z]; rfl)]
            refine iteF ?_
            rw [if_neg (fun w => w z), List.append_nil]
          · rw [decide_eq_false (show ¬ V.str b.2.1 = V.str (bumpJ q.2.2.2).1 from fun w => z (V.str.inj w))]
            refine iteT ?_
            refine ⟨_, rfl, _, upd_same, ?_, ?_⟩
            · rw [lr]
              have y := List.length_filter_le (fun b : Addr × Jb => decide (b.2.1 ≠ q.2.2.2.1)) (pi.2.take j)
              rw [List.length_take] at y
              exact hz _ (show (List.filter _ _).length ≤ 1000 by omega)
            · rw [upd_upd, if_pos z]
              unfold refs
              rw [List.map_append]
              rfl
        rintro Hc rfl
        rw [lr, List.take_length]
        have tl : (tops Li).length = Li.length := List.length_map ..
        refine ⟨_, rfl, _, rfl, ls, _, _, q.2.1, rfl, rfl, (same_new nD).at hG.top, ixN_k (by omega), ?_⟩
        obtain ⟨hG', kG'⟩ := hG.dropX (x := q.2.2.2.1) hpi nD
        have xAt : ((((O.map fun q => q.2.2.2.1).take i).filter fun x => decide (x ∈ fin)).foldl Bd.leave sM).At q.2.2.2.1 q.2.1 := RI.at_ (j := bumpJ q.2.2.2) (jbs_get hpi) (List.mem_map.mpr ⟨_, hpa, rfl⟩)
        refine ⟨_, _, Li.set q.2.1 (D, dx q.2.2.2.1 pi.2), rfl, hG', by rw [List.length_set]; exact lenI, fun z hz => ?_, ?_, by rw [er]; exact PI.drop hpi, kG.trans kG', oI.set (freeH kG nD (hG.nl nD))⟩
        · rcases jas_set_sub hz with h | h
          · exact jasI z h
          · obtain ⟨b, hb, rfl⟩ := List.mem_map.mp h
            exact jasI _ (List.mem_map.mpr ⟨b, jl_mem pm (List.mem_filter.mp hb).1, rfl⟩)
        · rw [er, List.foldl_append, jbs_set, dx_noX]
          exact RI.leave okI.1.ndo (jbs_get hpi) xAt
      · rw [decide_eq_false (show ¬ (bumpJ q.2.2.2).1 ∈ fin from m)]
        refine iteF ?_
        have er : ((O.map fun q => q.2.2.2.1).take (i + 1)).filter (fun x => decide (x ∈ fin)) = ((O.map fun q => q.2.2.2.1).take i).filter (fun x => decide (x ∈ fin)) := by
          rw [takeN hq, List.filter_append]
          simp [m]
        exact ⟨_, _, Li, rfl, hG, lenI, jasI, by rw [er]; exact RI, by rw [er]; exact PI, kG, oI⟩
    rintro σ G2 ⟨u7, u8, L2, rfl, h2, len2, jas2, R2, P2, k2, old2⟩
    have elv : ((O.map fun q => q.2.2.2.1).take (O.map fun q => V.ref q.1).length).filter (fun x => decide (x ∈ fin)) = s.lv c fin := by
      rw [List.length_map, List.take_of_length_le (by rw [List.length_map]; exact Nat.le_refl _), eN]
      rfl
    rw [elv] at R2 P2
    have lvs : (s.lv c fin).Sublist (s.run c) := List.filter_sublist
    have lvm : ∀ x ∈ s.run c, (x ∈ s.lv c fin ↔ x ∈ fin) := fun x hx => ⟨fun h => of_decide_eq_true (List.mem_filter.mp h).2, fun h => List.mem_filter.mpr ⟨hx, decide_eq_true h⟩⟩
    obtain ⟨okL, memL, lenL⟩ := okM.leaves ((Bd.run_nd ok).sublist lvs) fun x hx => run1 x (lvs.subset hx)
    have sLo : ∀ x ∈ ((s.lv c fin).foldl Bd.leave sM).order, x ∈ s.order := fun x hx => by
      have z := ((memL x).mp hx).1
      unfold Bd.order at z
      rw [linesM] at z
      exact z
    have stayL : ∀ {xs : List Str}, xs.Sublist (s.run c) → ∀ x ∈ xs.filter (fun x => decide (x ∉ s.lv c fin)), x ∈ ((s.lv c fin).foldl Bd.leave sM).order := fun {xs} sb x hx => by
      obtain ⟨x1, x2⟩ := List.mem_filter.mp hx
      exact (memL x).mpr ⟨run1 x (sb.subset x1), of_decide_eq_true x2⟩
    generalize hsL : (s.lv c fin).foldl Bd.leave sM = sL at R2 okL memL lenL sLo stayL
    -- whose quantum ends
    refine ⟨_, rfl, ac, rfl, ⟨_, SqL.of (keep k2 hac trivial)⟩, ?_⟩
    refine for_it (D := { nx := _, rt := _ }) (walk_list (K := K) (a := ac) (xs := O.map fun q => V.ref q.1)) (fun i σ G => ∃ (u7 u8 u10 : Option V) (Li : Lv), σ = [some (.ref ls), some (.ref pp), some (.int (s.now + 1)), some (.ref ac), some (.ref fa), some (.ref pl), some (bOptW r.boost), u7, u8, none, u10] ∧ LnAt G ls Li ∧ Li.length = L.length ∧ (∀ z ∈ jas Li, z ∈ jas L ∨ H z = none) ∧
        RelL ((((O.map fun q => q.2.2.2.1).take i).filter fun x => decide (x ∉ s.lv c fin)).foldl (Bd.quanta1 r) sL) (jbs Li) ∧ Pend L1 Li (s.lv c fin ++ ((O.map fun q => q.2.2.2.1).take i).filter fun x => decide (x ∉ s.lv c fin)) ∧ Same (Off ls G1) (Off ls G) ∧ OldL H L Li)
      ⟨u7, u8, none, L2, rfl, h2, len2, fun z hz => .inl (jas2 z hz), R2, by rw [List.take_zero, List.filter_nil, List.append_nil]; exact P2, k2, old2⟩ (fun i σ G _ ⟨_, _, _, _, _, _, _, _, _, _, kG, _⟩ => SqL.of (keep kG hac trivial)) ?_ ?_
    · rintro i y σ G0 G hi ⟨u7, u8, u10, Li, rfl, hG, lenI, jasI, RI, PI, kG, oI⟩ ⟨rfl, hy⟩
      rw [List.getElem?_map] at hy
      obtain ⟨q, hq, rfl⟩ := Option.map_eq_some_iff.mp hy
      have qm := List.mem_of_getElem? hq
      have hj := actJ kG qm
      obtain ⟨p0, hp0, hp1⟩ := act qm
      have qrun : q.2.2.2.1 ∈ s.run c := by rw [← eN]; exact List.mem_map.mpr ⟨q, qm, rfl⟩
      have tks : ((O.map fun q => q.2.2.2.1).take i).Sublist (s.run c) := by rw [← eN]; exact List.take_sublist ..
      obtain ⟨okI, permI, lnI⟩ := okL.quantas (r := r) (xs := ((O.map fun q => q.2.2.2.1).take i).filter fun x => decide (x ∉ s.lv c fin)) (stayL tks)
      have j100I := Nat.le_trans (jl_small RI R okI.ndo fun x hx => sLo x (permI.mem_iff.mp hx)) j100
      generalize ht0 : (((O.map fun q => q.2.2.2.1).take i).filter fun x => decide (x ∉ s.lv c fin)).foldl (Bd.quanta1 r) sL = t at RI okI permI lnI
      refine ⟨q.1, _, rfl, SqT.of (keep kG (hO q qm) trivial), rfl, _, _, rfl, _, _, rfl, rfl, ?_⟩
      refine ⟨_, rfl, q.2.2.1, _, _, _, rfl, rfl, SqL.of hj, rfl, _, rfl, fa, _, rfl, .inr (keepT kG hfa), rfl, all_flatS fin, _, rfl, ?_⟩
      rw [if_pos rfl, inV_S]
      by_cases m : q.2.2.2.1 ∈ fin
      · rw [decide_eq_true (show (bumpJ q.2.2.2).1 ∈ fin from m)]
        refine iteF ?_
        refine iteF ?_
        have er : ((O.map fun q => q.2.2.2.1).take (i + 1)).filter (fun x => decide (x ∉ s.lv c fin)) = ((O.map fun q => q.2.2.2.1).take i).filter (fun x => decide (x ∉ s.lv c fin)) := by
          rw [takeN hq, List.filter_append]
          simp [(lvm _ qrun).mpr m]
        exact ⟨_, _, _, Li, rfl, hG, lenI, jasI, by rw [er, ht0]; exact RI, by rw [er]; exact PI, kG, oI⟩
      · rw [decide_eq_false (show ¬ (bumpJ q.2.2.2).1 ∈ fin from m)]
        refine iteT ?_
        have nlv : q.2.2.2.1 ∉ s.lv c fin := fun z => m ((lvm _ qrun).mp z)
        have er : ((O.map fun q => q.2.2.2.1).take (i + 1)).filter (fun x => decide (x ∉ s.lv c fin)) = ((O.map fun q => q.2.2.2.1).take i).filter (fun x => decide (x ∉ s.lv c fin)) ++ [q.2.2.2.1] := by
          rw [takeN hq, List.filter_append]
          congr 1
          simp [nlv]
        have nrem : q.2.2.2.1 ∉ s.lv c fin ++ ((O.map fun q => q.2.2.2.1).take i).filter (fun x => decide (x ∉ s.lv c fin)) := fun z => (List.mem_append.mp z).elim nlv fun w => notN hq (List.mem_filter.mp w).1
        obtain ⟨pi, hpi, hpa⟩ := PI q.2.1 p0 _ hp0 hp1 nrem
        have pm := List.mem_of_getElem? hpi
        have kl : q.2.1 < Li.length := (List.getElem?_eq_some_iff.mp hpi).1
        obtain ⟨pe, hxs, qe⟩ := lvl q.2.1 (by omega)
        have xAt : t.At q.2.2.2.1 q.2.1 := RI.at_ (j := bumpJ q.2.2.2) (jbs_get hpi) (List.mem_map.mpr ⟨_, hpa, rfl⟩)
        obtain ⟨us, rn⟩ := RI.vals _ (List.mem_of_getElem? (jbs_get hpi)) (bumpJ q.2.2.2) (List.mem_map.mpr ⟨_, hpa, rfl⟩)
        have us : getS t.used q.2.2.2.1 = q.2.2.2.2.1 + 1 := us
        have rn : getS t.ran q.2.2.2.1 = q.2.2.2.2.2 + 1 := rn
        have xlv := xAt.level okI.ndo
        have stay : (r.quantAt q.2.1 = some (q.2.2.2.2.1 + 1) → False) → t.quanta1 r q.2.2.2.1 = t := fun h => by
          rw [Bd.quanta_if, xlv, us, if_neg h]
        have unmoved : (r.quantAt q.2.1 = some (q.2.2.2.2.1 + 1) → False) → RelL ((((O.map fun q => q.2.2.2.1).take (i + 1)).filter fun x => decide (x ∉ s.lv c fin)).foldl (Bd.quanta1 r) sL) (jbs Li) ∧ Pend L1 Li (s.lv c fin ++ ((O.map fun q => q.2.2.2.1).take (i + 1)).filter fun x => decide (x ∉ s.lv c fin)) := fun h => by
          refine ⟨?_, ?_⟩
          · rw [er, List.foldl_append, ht0]
            show RelL (t.quanta1 r q.2.2.2.1) _
            rw [stay h]
            exact RI
          · rw [er]
            exact PI.more fun x hx => (List.mem_append.mp hx).elim (fun w => List.mem_append_left _ w) fun w => List.mem_append_right _ (List.mem_append_left _ w)
        refine ⟨_, rfl, _, rfl, pl, _, _, _, rfl, rfl, keepT kG ql, atI_nat hxs, pe, _, _, _, rfl, rfl, keepT kG qe, rfl, rfl, _, rfl, ?_⟩
        cases hqa : r.quantAt q.2.1 with
        | none =>
          refine iteF ?_
          refine iteF ?_
          have un := unmoved (fun e => by rw [hqa] at e; cases e)
          exact ⟨_, _, _, Li, rfl, hG, lenI, jasI, un.1, un.2, kG, oI⟩
        | some u =>
          refine iteT ?_
          rw [hqa] at qe
          have le : q.2.2.2.2.1 + 1 ≤ u := by
            have m1 : q.2 ∈ ordL L := by
              have z : q.2 ∈ O.map (·.2) := List.mem_map.mpr ⟨q, qm, rfl⟩
              rw [eO] at z
              exact List.mem_of_mem_take z
            obtain ⟨p, w2, w3⟩ := ordL_at (k := q.2.1) (a := q.2.2) m1
            have a0 : s.At q.2.2.2.1 q.2.1 := R.at_ (j := q.2.2.2) (jbs_get w2) (List.mem_map.mpr ⟨_, w3, rfl⟩)
            have v0 := (R.vals _ (List.mem_of_getElem? (jbs_get w2)) q.2.2.2 (List.mem_map.mpr ⟨_, w3, rfl⟩)).1
            have := uq _ _ u a0 hqa
            rw [v0] at this
            omega
          refine ⟨_, rfl, q.2.2.1, _, _, _, rfl, rfl, SqL.of hj, rfl, _, rfl, _, rfl, pl, _, _, _, rfl, rfl, keepT kG ql, atI_nat hxs, pe, _, _, _, rfl, rfl, keepT kG qe, rfl, _, _, rfl, rfl, _, rfl, ?_⟩
          refine ite2 (fun hc => ?_) (fun hc => ?_)
          · have hge := of_decide_eq_true hc
            have eu : u = q.2.2.2.2.1 + 1 := by
              have : u ≤ q.2.2.2.2.1 + 1 := hge
              omega
            have ht' : (tops Li)[q.2.1]? = some (V.ref pi.1) := by unfold tops; rw [List.getElem?_map, hpi]; rfl
            have ht := ht'
            have p100 := Nat.le_trans (line_le pm) j100I
            have hpl := hG.line pi pm
            refine ⟨_, rfl, _, rfl, ls, _, _, _, rfl, rfl, SqL.of hG.top, atI_nat ht, pi.1, rfl, ⟨_, SqL.of hpl⟩, fun D nD => ?_⟩
            refine lc_it (walk_list (K := K) (a := pi.1) (xs := refs pi.2)) (fun j Hc => Hc = upd G D (.lst (refs (dx q.2.2.2.1 (pi.2.take j))))) rfl (fun j Hc _ e => by rw [e]; exact SqL.of ((same_new nD).at hpl)) ?_ ?_
            · rintro j y Hc0 Hc hj' rfl ⟨rfl, hy⟩
              unfold refs at hy
              rw [List.getElem?_map] at hy
              obtain ⟨b, hb, rfl⟩ := Option.map_eq_some_iff.mp hy
              have sD := same_new (o := .lst (refs (dx q.2.2.2.1 (pi.2.take j)))) nD
              have hbj := sD.at (hG.jobs b (jl_mem pm (List.mem_of_getElem? hb)))
              refine ⟨rfl, _, rfl, b.1, _, _, _, rfl, rfl, SqL.of hbj, rfl, _, rfl, q.2.2.1, _, _, _, rfl, rfl, SqL.of (sD.at hj), rfl, rfl, _, rfl, ?_⟩
              have tk : dx q.2.2.2.1 (pi.2.take (j + 1)) = dx q.2.2.2.1 (pi.2.take j) ++ (if b.2.1 ≠ q.2.2.2.1 then [b] else []) := by
                unfold dx
                rw [List.take_add_one, hb, List.filter_append]
                congr 1
                by_cases z : b.2.1 = q.2.2.2.1 <;> simp [z]
              rw [tk]
              by_cases z : b.2.1 = q.2.2.2.1
              · rw [decide_eq_true (show V.str b.2.1 = V.str (bumpJ q.2.2.2).1 by rw [z]; rfl)]
                refine iteF ?_
                rw [if_neg (fun w => w z), List.append_nil]
              · rw [decide_eq_false (show ¬ V.str b.2.1 = V.str (bumpJ q.2.2.2).1 from fun w => z (V.str.inj w))]
                refine iteT ?_
                refine ⟨_, rfl, _, upd_same, ?_, ?_⟩
                · rw [lr]
                  have y := List.length_filter_le (fun b : Addr × Jb => decide (b.2.1 ≠ q.2.2.2.1)) (pi.2.take j)
                  rw [List.length_take] at y
                  exact hz _ (show (List.filter _ _).length ≤ 1000 by omega)
                · rw [upd_upd, if_pos z]
                  unfold refs
                  rw [List.map_append]
                  rfl
            rintro Hc rfl
            rw [lr, List.take_length]
            have tl : (tops Li).length = Li.length := List.length_map ..
            have tl : (tops Li).length = Li.length := List.length_map ..
            refine ⟨_, rfl, _, rfl, ls, _, _, q.2.1, rfl, rfl, (same_new nD).at hG.top, ixN_k (by omega), ?_⟩
            obtain ⟨hG', kG'⟩ := hG.dropX (x := q.2.2.2.1) hpi nD
            have kGm := kG.trans kG'
            have oM := oI.set (k := q.2.1) (A := dx q.2.2.2.1 pi.2) (freeH kG nD (hG.nl nD))
            generalize upd (upd G D (.lst (refs (dx q.2.2.2.1 pi.2)))) ls (.lst ((tops Li).set q.2.1 (.ref D))) = Gm at hG' kG' kGm ⊢
            have hj' := actJ kGm qm
            have lenm : (Li.set q.2.1 (D, dx q.2.2.2.1 pi.2)).length = L.length := by rw [List.length_set]; exact lenI
            have ebl : (if ((xs.length : Nat) : Int) - 1 < ((q.2.1 : Nat) : Int) + 1 then ((xs.length : Nat) : Int) - 1 else ((q.2.1 : Nat) : Int) + 1) = ((min (q.2.1 + 1) ((jbs Li).length - 1) : Nat) : Int) := by
              rw [lxs, lev, jbs_len, lenI]
              split <;> omega
            refine ⟨_, rfl, _, _, rfl, rfl, _, rfl, pl, _, rfl, .inr (keepT kGm ql), _, _, rfl, rfl, _, _, rfl, ?_⟩
            rw [ebl]
            have bl : min (q.2.1 + 1) ((jbs Li).length - 1) < L.length := by rw [jbs_len]; omega
            have hb := List.getElem?_eq_getElem (l := Li.set q.2.1 (D, dx q.2.2.2.1 pi.2)) (i := min (q.2.1 + 1) ((jbs Li).length - 1)) (by omega)
            generalize (Li.set q.2.1 (D, dx q.2.2.2.1 pi.2))[min (q.2.1 + 1) ((jbs Li).length - 1)]'_ = pb at hb
            have pbm := List.mem_of_getElem? hb
            have pb100 : pb.2.length ≤ 100 := by
              rcases mem_set_or pbm with ⟨k', _, e⟩ | e
              · exact Nat.le_trans (line_le (List.mem_of_getElem? e)) j100I
              · rw [e]
                exact Nat.le_trans (List.length_filter_le ..) p100
            have htb : (tops (Li.set q.2.1 (D, dx q.2.2.2.1 pi.2)))[min (q.2.1 + 1) ((jbs Li).length - 1)]? = some (V.ref pb.1) := by unfold tops; rw [List.getElem?_map, hb]; rfl
            have hqm := RI.quanta (r := r) okI (jbs_get hpi) xAt (by rw [hqa, us, eu]) (lb := pb.2.map (·.2)) (by
              have z := jbs_get hb
              rw [jbs_set, dx_noX] at z
              exact z)
            have Pm := PI.drop (x := q.2.2.2.1) (D := D) hpi
            have jasm : ∀ z ∈ jas (Li.set q.2.1 (D, dx q.2.2.2.1 pi.2)), z ∈ jas L ∨ H z = none := fun z hz => by
              rcases jas_set_sub hz with h | h
              · exact jasI z h
              · obtain ⟨b, hb, rfl⟩ := List.mem_map.mp h
                exact jasI _ (List.mem_map.mpr ⟨b, jl_mem pm (List.mem_filter.mp hb).1, rfl⟩)
            have ejb : jbs (Li.set q.2.1 (D, dx q.2.2.2.1 pi.2)) = (jbs Li).set q.2.1 (noX q.2.2.2.1 (pi.2.map (·.2))) := by rw [jbs_set, dx_noX]
            generalize Li.set q.2.1 (D, dx q.2.2.2.1 pi.2) = Lm at hG' lenm bl hb pbm htb Pm jasm ejb oM
            generalize min (q.2.1 + 1) ((jbs Li).length - 1) = bb at hb bl htb hqm
            refine ⟨_, rfl, _, rfl, ls, _, _, _, rfl, rfl, SqL.of hG'.top, atI_nat htb, ?_⟩
            refine ⟨_, rfl, q.2.2.1, _, _, _, rfl, rfl, SqL.of hj', rfl, _, rfl, q.2.2.1, _, _, _, rfl, rfl, SqL.of hj', rfl, by show 3 ≤ sizeLine; decide, fun j nj => ?_⟩
            have s1 := same_new (o := .lst [V.str q.2.2.2.1, .int 0, .int (q.2.2.2.2.2 + 1)]) nj
            refine ⟨by show 1 ≤ sizeLine; decide, fun w1 nw => ?_⟩
            have s2 := same_new (o := .lst [V.ref j]) nw
            have lrb : (refs pb.2).length = pb.2.length := List.length_map ..
            refine ⟨pb.1, w1, _, _, rfl, rfl, s2.at (s1.at (hG'.line pb pbm)), upd_same, Nat.le_of_lt (hz _ (by show (refs pb.2).length + 1 ≤ 1000; omega)), fun D2 nD2 => ?_⟩
            have s3 := same_new (o := .lst (refs pb.2 ++ [V.ref j])) nD2
            have tlm : (tops Lm).length = Lm.length := List.length_map ..
            refine ⟨_, rfl, _, rfl, ls, _, _, bb, rfl, rfl, s3.at (s2.at (s1.at hG'.top)), ixN_k (by omega), ?_⟩
            have jls : j ≠ ls := hG'.nl nj
            have jn : j ∉ jas Lm := fun m => by
              obtain ⟨b, hb, rfl⟩ := List.mem_map.mp m
              rw [hG'.jobs b hb] at nj
              cases nj
            have nD2' := (s1.trans s2).free nD2
            obtain ⟨hF, kF⟩ := hG'.put (D := D2) (A := pb.2 ++ [(j, (q.2.2.2.1, 0, q.2.2.2.2.2 + 1))]) hb (s1.trans (s2.trans s3)) (hG'.nl nD2') (by rw [upd_same]; unfold refs; rw [List.map_append]; rfl) (fun b hb => (List.mem_append.mp hb).imp id fun h => by
              rw [List.mem_singleton.mp h]
              exact ⟨jn, jls, (s2.trans s3).at upd_same⟩) (by
              rw [List.map_append]
              refine List.nodup_append.mpr ⟨line_nd hG'.nd pbm, by simp, fun a ha b hb' e => ?_⟩
              rw [List.mem_singleton.mp hb'] at e
              obtain ⟨y, hy, rfl⟩ := List.mem_map.mp ha
              exact jn (List.mem_map.mpr ⟨y, jl_mem pbm hy, e⟩))
            refine ⟨_, _, _, Lm.set bb (D2, pb.2 ++ [(j, (q.2.2.2.1, 0, q.2.2.2.2.2 + 1))]), rfl, hF, by rw [List.length_set]; exact lenm, fun z hz => ?_, ?_, ?_, kGm.trans kF, oM.set (freeH kGm nD2' (hG'.nl nD2'))⟩
            · rcases jas_set_sub hz with h | h
              · exact jasm z h
              · rw [List.map_append] at h
                rcases List.mem_append.mp h with h | h
                · obtain ⟨b, hb, rfl⟩ := List.mem_map.mp h
                  exact jasm _ (List.mem_map.mpr ⟨b, jl_mem pbm hb, rfl⟩)
                · rw [List.mem_singleton.mp h]
                  exact .inr (freeH kGm nj jls)
            · rw [er, List.foldl_append, ht0, jbs_set, ejb, List.map_append]
              rw [rn] at hqm
              exact hqm
            · rw [er, ← List.append_assoc]
              exact Pm.add hb
          · have un := unmoved (fun e => by
              have e2 : u = q.2.2.2.2.1 + 1 := by rw [hqa] at e; exact Option.some.inj e
              exact hc (decide_eq_true (show u ≤ q.2.2.2.2.1 + 1 by omega)))
            exact ⟨_, _, _, Li, rfl, hG, lenI, jasI, un.1, un.2, kG, oI⟩
    rintro σ G3 ⟨u7, u8, u10, L3, rfl, h3, len3, jas3, R3, _, k3, old3⟩
    rw [List.length_map, List.take_of_length_le (by rw [List.length_map]; exact Nat.le_refl _), eN] at R3
    obtain ⟨ok4, perm4, _⟩ := okL.quantas (r := r) (xs := (s.run c).filter fun x => decide (x ∉ s.lv c fin)) (stayL (List.Sublist.refl _))
    have now4 : (((s.run c).filter fun x => decide (x ∉ s.lv c fin)).foldl (Bd.quanta1 r) sL).now = s.now + 1 := by
      obtain ⟨a1, _, _⟩ := Bd.quantas_same (r := r) ((s.run c).filter fun x => decide (x ∉ s.lv c fin)) sL
      obtain ⟨b1, _, _⟩ := Bd.leaves_same (s.lv c fin) sM
      rw [a1, ← hsL, b1, nowM]
    have j1003 := Nat.le_trans (jl_small R3 R ok4.ndo fun x hx => sLo x (perm4.mem_iff.mp hx)) j100
    have eE : s.endUnits r c 1 fin = (match r.boost with
      | some q' => if (((s.run c).filter fun x => decide (x ∉ s.lv c fin)).foldl (Bd.quanta1 r) sL).now.fmod q' = 0 then Bd.lift (((s.run c).filter fun x => decide (x ∉ s.lv c fin)).foldl (Bd.quanta1 r) sL) else ((s.run c).filter fun x => decide (x ∉ s.lv c fin)).foldl (Bd.quanta1 r) sL
      | none => ((s.run c).filter fun x => decide (x ∉ s.lv c fin)).foldl (Bd.quanta1 r) sL) := by
      rw [← hsL, ← hsM]
      rfl
    generalize ((s.run c).filter fun x => decide (x ∉ s.lv c fin)).foldl (Bd.quanta1 r) sL = s4 at R3 ok4 now4 eE
    have frame : ∀ {X : Hp}, Same (Off ls G1) (Off ls X) → Same (OffL (ls :: jas L) H) (OffL (ls :: jas L) X) := fun {X} kx => by
      rw [← o1, ← offL_cons, ← offL_cons]
      exact offL_mono kx
    refine ⟨_, rfl, rfl, _, rfl, ?_⟩
    cases hb : r.boost with
    | none =>
      refine iteF ?_
      refine iteF ?_
      rw [hb] at eE
      exact k L3 G3 h3 len3 (by rw [eE]; exact R3) jas3 old3 (fun q hq => actJ k3 hq) (frame k3)
    | some u =>
      rw [hb] at eE
      have eE : s.endUnits r c 1 fin = if s4.now.fmod u = 0 then s4.lift else s4 := eE
      rw [now4] at eE
      have u1 := rok.boost u hb
      refine iteT ?_
      refine ⟨_, rfl, _, rfl, _, _, rfl, rfl, by omega, rfl, _, rfl, ?_⟩
      refine ite2 (fun hc => ?_) (fun hc => ?_)
      rotate_left
      · have nz : ¬ (s.now + 1).fmod u = 0 := fun e => hc (decide_eq_true (show V.int ((s.now + 1).fmod u) = V.int 0 by rw [e]))
        rw [if_neg nz] at eE
        exact k L3 G3 h3 len3 (by rw [eE]; exact R3) jas3 old3 (fun q hq => actJ k3 hq) (frame k3)
      · have ez : (s.now + 1).fmod u = 0 := V.int.inj (of_decide_eq_true hc)
        rw [if_pos ez] at eE
        have l6 := ok.lines6
        have l1 := ok.lines1
        rw [R.len, jbs_len] at l6 l1
        refine ⟨_, rfl, ls, L3, rfl, h3, by omega, j1003, fun o O' G4 s4' no ho fo aO eO' => ?_⟩
        refine ⟨o, rfl, ⟨_, SqL.of ho⟩, fun D nD => ?_⟩
        have h4 := h3.same s4'
        have inL3 : ∀ q ∈ O', q.2.2 ∈ jl L3 := fun q hq => by
          have m : q.2 ∈ ordL L3 := by rw [← eO']; exact List.mem_map.mpr ⟨q, hq, rfl⟩
          rw [← ordL_jobs]
          exact List.mem_map.mpr ⟨q.2, m, rfl⟩
        have lenO : O'.length ≤ 100 := by
          have z := congrArg List.length eO'
          have y := congrArg List.length (ordL_jobs (L := L3))
          rw [List.length_map] at z y
          omega
        refine lc_it (walk_list (K := K) (a := o) (xs := O'.map fun q => V.ref q.1)) (fun i Hc => Zs G4 D ((O'.take i).map fun q => zeroJ q.2.2.2) Hc) (Zs.zero nD) (fun i Hc _ ⟨_, _, _, _, _, _, sc⟩ => SqL.of ((sc.trans (off_sub D Hc)).at ho)) ?_ ?_
        · rintro i y Hc0 Hc hi zz ⟨rfl, hy⟩
          rw [List.getElem?_map] at hy
          obtain ⟨q, hq, rfl⟩ := Option.map_eq_some_iff.mp hy
          have qm := List.mem_of_getElem? hq
          have zz0 := zz
          obtain ⟨_, _, _, _, _, _, sc⟩ := zz
          have sH := sc.trans (off_sub D Hc)
          have hj := sH.at (h4.jobs _ (inL3 q qm))
          refine ⟨q.1, _, rfl, SqT.of (sH.at (aO q qm)), rfl, _, _, rfl, _, _, rfl, rfl, rfl, ?_⟩
          refine ⟨_, rfl, q.2.2.1, _, _, _, rfl, rfl, SqL.of hj, rfl, _, rfl, q.2.2.1, _, _, _, rfl, rfl, SqL.of hj, rfl, by show 3 ≤ sizeLine; decide, fun j nj => ?_⟩
          obtain ⟨acc, a1, a2, a3⟩ := Zs.next zz0 nj (zeroJ q.2.2.2)
          refine ⟨acc, a1, ?_, ?_⟩
          · rw [a2, List.length_map, List.length_take]
            exact hz _ (Nat.le_trans (Nat.min_le_right _ _) (by omega))
          · rw [List.take_add_one, hq, List.map_append]
            exact a3
        rintro Hc ⟨A, eA, hD, jA, fA, ndA, sc⟩
        rw [List.length_map, List.take_length] at eA
        have sHc := sc.trans (off_sub D Hc)
        have h5 := h4.same sHc
        have k5 : Same (Off ls G1) (Off ls Hc) := k3.trans (off_mono (s4'.trans sHc))
        have hA0 : A.map (·.2) = (jbs L3).flatten.map zeroJ := by
          rw [eA, jbs_flat, List.map_map, ← ordL_jobs, ← eO', List.map_map, List.map_map]
          rfl
        obtain ⟨p0, hp0⟩ : ∃ p, L3[0]? = some p := ⟨_, List.getElem?_eq_getElem (show 0 < L3.length by omega)⟩
        have dls : D ≠ ls := fun e => by rw [e, h4.top] at nD; cases nD
        have newA : ∀ a ∈ A, a.1 ∉ jas L3 ∧ a.1 ≠ ls ∧ Hc a.1 = some (jv a.2) := fun a ha => by
          obtain ⟨f1, _⟩ := fA a ha
          refine ⟨fun m => ?_, (fun e => by rw [e, h4.top] at f1; cases f1), jA a ha⟩
          obtain ⟨b, hb, e⟩ := List.mem_map.mp m
          have y := h4.jobs b hb
          rw [e, f1] at y
          cases y
        have tl3 : (tops L3).length = L3.length := List.length_map ..
        obtain ⟨h6, k6⟩ := h5.put hp0 (Same.refl _) dls hD (A := A) (fun a ha => .inr (newA a ha)) ndA
        refine ⟨_, rfl, ls, _, 0, 0, rfl, rfl, h5.top, ixN_k (j := 0) (by omega), ?_⟩
        have k56 := k5.trans k6
        generalize upd Hc ls (.lst ((tops L3).set 0 (.ref D))) = G6 at h6 k6 k56 ⊢
        have jas6 : ∀ z ∈ jas (L3.set 0 (D, A)), z ∈ jas L ∨ H z = none := fun z hz => by
          rcases jas_set_sub hz with h | h
          · exact jas3 z h
          · obtain ⟨a, ha, rfl⟩ := List.mem_map.mp h
            have w : G3 a.1 = none := s4'.free (fA a ha).1
            exact .inr (freeH k3 w (newA a ha).2.1)
        have jb6 : jbs (L3.set 0 (D, A)) = A.map (·.2) :: (jbs L3).drop 1 := by
          rw [jbs_set]
          cases hj : jbs L3 with
          | nil =>
            have : L3.length = 0 := by rw [← jbs_len, hj]; rfl
            omega
          | cons a r => rfl
        have len6 : (L3.set 0 (D, A)).length = L.length := by rw [List.length_set]; exact len3
        refine ⟨_, rfl, pl, _, rfl, .inr (keepT k56 ql), 1, _, rfl, ⟨by decide, by decide, by omega, by omega⟩, ?_⟩
        refine for_it (D := { nx := _, rt := _ }) (walk_range (lo := 1) (n := (((xs.length : Nat) : Int) - 1).toNat)) (fun i σ G => ∃ (u7 : Option V) (Li : Lv), σ = [some (.ref ls), some (.ref pp), some (.int (s.now + 1)), some (.ref ac), some (.ref fa), some (.ref pl), some (bOptW (some u)), u7, u8, none, u10] ∧ LnAt G ls Li ∧ Li.length = L.length ∧ (∀ z ∈ jas Li, z ∈ jas L ∨ H z = none) ∧
            jbs Li = A.map (·.2) :: (List.replicate i [] ++ (jbs L3).drop (1 + i)) ∧ Same (Off ls G1) (Off ls G) ∧ OldL H L Li)
          ⟨u7, _, rfl, h6, len6, jas6, jb6, k56, old3.set (freeH k3 (s4'.free nD) (fun e => dls e))⟩ (fun i σ G _ _ => trivial) ?_ ?_
        · rintro i y σ G0 G hi ⟨u7, Li, rfl, hG, lenI, jasI, jbI, kG, oI⟩ ⟨rfl, rfl⟩
          have il : 1 + i < L.length := by omega
          refine ⟨Nat.zero_le _, fun D7 nD7 => ?_⟩
          obtain ⟨pi, hpi⟩ : ∃ p, Li[1 + i]? = some p := ⟨_, List.getElem?_eq_getElem (by omega)⟩
          have s7 := same_new (o := .lst ([] : List V)) nD7
          have tlI : (tops Li).length = Li.length := List.length_map ..
          obtain ⟨h7, k7⟩ := hG.put hpi s7 (hG.nl nD7) (A := []) upd_same (fun a ha => by cases ha) List.nodup_nil
          refine ⟨_, rfl, _, rfl, ls, _, _, 1 + i, rfl, rfl, s7.at hG.top, by rw [show ((1 : Int) + (i : Nat)) = ((1 + i : Nat) : Int) by omega]; exact ixN_k (by omega), ?_⟩
          refine ⟨_, _, rfl, h7, by rw [List.length_set]; exact lenI, fun z hz => ?_, ?_, kG.trans k7, oI.set (freeH kG nD7 (hG.nl nD7))⟩
          · rcases jas_set_sub hz with h | h
            · exact jasI z h
            · cases h
          · have ne : (jbs L3).drop (1 + i) ≠ [] := fun e => by
              have z := congrArg List.length e
              rw [List.length_drop, jbs_len] at z
              simp at z
              omega
            rw [jbs_set, jbI, Nat.add_comm 1 i, List.set_cons_succ]
            show _ :: (List.replicate i [] ++ (jbs L3).drop (i + 1)).set i [] = _
            rw [Nat.add_comm 1 i] at ne
            rw [set_rep ne, List.tail_drop, Nat.add_comm 1 (i + 1)]
        · rintro σ G ⟨u7, Li, rfl, hG, lenI, jasI, jbI, kG, oI⟩
          have e1 : 1 + (((xs.length : Nat) : Int) - 1).toNat = (jbs L3).length := by rw [jbs_len]; omega
          rw [e1, List.drop_length, List.append_nil, hA0, show (((xs.length : Nat) : Int) - 1).toNat = (jbs L3).length - 1 by omega] at jbI
          exact k Li G hG lenI (by rw [eE, jbI]; exact R3.lift) jasI oI (fun q hq => actJ kG hq) (frame kG)
end
end Vk
set_option maxHeartbeats 8000000
/-! what the law compares -/
namespace Vk
open PySem PySem.Spec PyProof.Rows L2 GxR
theorem shape_map {α : Type} {f : α → PyData} {n : Nat} : ∀ {xs : List α}, (∀ x ∈ xs, PyData.canLay0 (f x) = true ∧ PyData.depth (f x) ≤ n) → PyData.canLayAll0 (xs.map f) = true ∧ PyData.depthAll (xs.map f) ≤ n
  | [], _ => ⟨rfl, by simp [PyData.depthAll]⟩
  | x :: xs, h => by
    obtain ⟨a1, a2⟩ := h x (List.mem_cons_self ..)
    obtain ⟨b1, b2⟩ := shape_map (f := f) (n := n) (xs := xs) fun y hy => h y (List.mem_cons_of_mem _ hy)
    refine ⟨?_, ?_⟩
    · simp [PyData.canLayAll0, a1, b1]
    · simp [PyData.depthAll]
      omega
theorem shaped_tuple {α : Type} {f : α → PyData} {n : Nat} {xs : List α} (h : ∀ x ∈ xs, PyData.canLay0 (f x) = true ∧ PyData.depth (f x) ≤ n) : PyData.canLay0 (.tuple (xs.map f)) = true ∧ PyData.depth (.tuple (xs.map f)) ≤ n + 1 := by
  obtain ⟨a, b⟩ := shape_map h
  exact ⟨by simp [PyData.canLay0, a], by simp [PyData.depth]; omega⟩
theorem shaped_list {α : Type} {f : α → PyData} {n : Nat} {xs : List α} (h : ∀ x ∈ xs, PyData.canLay0 (f x) = true ∧ PyData.depth (f x) ≤ n) : PyData.canLay0 (.list (xs.map f)) = true ∧ PyData.depth (.list (xs.map f)) ≤ n + 1 := by
  obtain ⟨a, b⟩ := shape_map h
  exact ⟨by simp [PyData.canLay0, a], by simp [PyData.depth]; omega⟩
theorem shaped_mk {d : PyData} {n : Nat} (h : PyData.canLay0 d = true ∧ PyData.depth d ≤ n) (hn : n ≤ 64) : SeqAt.shaped d = true := by
  unfold SeqAt.shaped
  rw [h.1, Bool.true_and]
  exact decide_eq_true (Nat.le_trans h.2 hn)
def trip (j : Jb) : PyData := .tuple [.str j.1, .int j.2.1, .int j.2.2]
theorem sh_trip {j : Jb} (h : PyData.strOk j.1 = true) : PyData.canLay0 (trip j) = true ∧ PyData.depth (trip j) ≤ 3 := by
  simp [trip, PyData.canLay0, PyData.canLayAll0, PyData.depth, PyData.depthAll, h]
theorem sh_pairSI {p : Str × Int} (h : PyData.strOk p.1 = true) : PyData.canLay0 (pairSI p) = true ∧ PyData.depth (pairSI p) ≤ 3 := by
  simp [pairSI, PyData.canLay0, PyData.canLayAll0, PyData.depth, PyData.depthAll, h]
theorem sh_names {xs : List Str} (h : ∀ x ∈ xs, PyData.strOk x = true) : SeqAt.shaped (.tuple (xs.map PyData.str)) = true :=
  shaped_mk (n := 3) (shaped_tuple (n := 2) fun x hx => by simp [PyData.canLay0, PyData.depth, h x hx]) (by decide)
theorem sh_log (s : Bd) : SeqAt.shaped (.tuple (logD s)) = true :=
  shaped_mk (n := 4) (shaped_tuple (n := 3) fun f _ => by simp [PyData.canLay0, PyData.canLayAll0, PyData.depth, PyData.depthAll]) (by decide)
def lineJ (l : List Jb) : PyData := .tuple (l.map trip)
theorem sh_state {J : List (List Jb)} (h : ∀ l ∈ J, ∀ j ∈ l, PyData.strOk j.1 = true) : SeqAt.shaped (.tuple (J.map lineJ)) = true :=
  shaped_mk (n := 5) (shaped_tuple (f := lineJ) (n := 4) fun l hl => shaped_tuple (f := trip) (n := 3) fun j hj => sh_trip (h l hl j hj)) (by decide)
theorem sh_ended {l : List (Str × Int)} (h : ∀ p ∈ l, PyData.strOk p.1 = true) : SeqAt.shaped (.list (l.map pairSI)) = true := shaped_mk (n := 4) (shaped_list (n := 3) fun p hp => sh_pairSI (h p hp)) (by decide)
theorem eqv_same {d : PyData} (h : SeqAt.shaped d = true) : PyData.eqv d d = true := SeqAt.eqv_refl _ (SeqAt.canLay_of_shaped h)
theorem paired_dps {K : PySem.W.Frag} {H : Hp} : ∀ {ts : List Addr} {l : List (Str × Int)}, Paired (fun (t : Addr) (q : Key × V) => H t = some (.tup [kV q.1, q.2])) ts (kvS l) → DpAll K H (ts.map V.ref) (l.map pairSI)
  | _, [], h => by
    cases h
    exact .nil
  | _, p :: l, h => by
    cases h with
    | cons r t => exact .cons (.tup (SqT.of r) (.cons (.str _) (.cons (.int _) .nil))) (paired_dps t)
theorem RelL.state {s : Bd} {J : List (List Jb)} (R : RelL s J) : stateD s = .tuple (J.map lineJ) := by
  unfold stateD
  rw [R.names, List.map_map]
  congr 1
  refine List.map_congr_left fun l hl => ?_
  show lineD3 s (l.map (·.1)) = lineJ l
  unfold lineD3 lineJ
  rw [List.map_map]
  congr 1
  refine List.map_congr_left fun j hj => ?_
  obtain ⟨h1, h2⟩ := R.vals l hl j hj
  show jobD3 s j.1 = trip j
  unfold jobD3 trip
  rw [h1, h2]
section
variable {P : Program} {w : World} {K : PySem.W.Frag} {mg : Str → Option Value} {base : Heap} {CN CB : Addr}
def spStateL (K : PySem.W.Frag) : Sp := fun vs H Q _ => ∃ (ls : Addr) (L : Lv), vs = [.ref ls] ∧ LnAt H ls L ∧ L.length ≤ 6 ∧ (jl L).length ≤ 100 ∧ ∀ (t : Addr) (H' : Hp), Same H H' → Dp K H' (.ref t) (.tuple ((jbs L).map lineJ)) → Q (.ref t) H'
theorem scStateL : FnScope ["lines", "line", "job"] ["lines"] (defScope sState) := ⟨rfl, rfl, rfl, by decide +kernel, rfl, by decide +kernel, by decide +kernel⟩
theorem ok_stateL (D : Df K mg "_law_state" sState ["lines"]) (mt : mg "tuple" = none) : Cl P w K mg base CX0 1 "_law_state" ["lines"] (spStateL K) := by
  refine cl0 D scStateL (fun vs H Q E h => ?_) (fun f cdv Ar outer s0 H vs Q E hr h => ?_)
  · obtain ⟨ls, L, rfl, _⟩ := h
    rfl
  · obtain ⟨ls, L, rfl, hL, l6, j100, k⟩ := h
    refine ⟨_, pss_one (ps_ret (pe_callTy call_tuple_of (by rfl) mt (by decide +kernel) (pa_cons
        (pe_lc (own := [("line", 1)]) (g := gName 1) (tt := tYes) (te := tCB (rTupC K) (tCons (tLc (iList K (tVar 1)) (gName 2) tYes (tTup (tCons (tOp (rIxL K) (tVar 2) (tC (.int 0))) (tCons (tOp (rIxL K) (tVar 2) (tC (.int 1))) (tCons (tOp (rIxL K) (tVar 2) (tC (.int 2))) tNil)))) [2]) tNil)) (by rfl) scStateL.nd (pi_list (pv 0))
          (blkOk_by (own := [("line", 1)]) (N := ["lines", "line", "job"]) (sc := defScope sState) (by decide +kernel)) (fun _ _ _ _ _ => pg_name (i := 1) scStateL.nd rfl (Or.inl rfl)) (fun _ _ _ _ _ => pts_nil)
          (fun _ _ _ _ _ => pe_callTy call_tuple_of (by rfl) mt (by decide +kernel) (pa_cons
            (pe_lc (own := [("job", 2)]) (g := gName 2) (tt := tYes) (te := tTup (tCons (tOp (rIxL K) (tVar 2) (tC (.int 0))) (tCons (tOp (rIxL K) (tVar 2) (tC (.int 1))) (tCons (tOp (rIxL K) (tVar 2) (tC (.int 2))) tNil)))) (by rfl) scStateL.nd (pi_list (pv 1))
              (blkOk_by (own := [("job", 2)]) (N := ["lines", "line", "job"]) (sc := { kind := .function, names := [(".0", .local), ("line", .local), ("tuple", .globalImplicit)], isGenerator := false, isCoroutine := false }) (by decide +kernel)) (fun _ _ _ _ _ => pg_name (i := 2) scStateL.nd rfl (Or.inl rfl)) (fun _ _ _ _ _ => pts_nil)
              (fun _ _ _ _ _ => pe_tup (pa_cons (pe_ix ix_list (pv 2) pe_int (fun _ _ => rfl)) (pa_cons (pe_ix ix_list (pv 2) pe_int (fun _ _ => rfl)) (pa_cons (pe_ix ix_list (pv 2) pe_int (fun _ _ => rfl)) pa_nil))))) pa_nil))) pa_nil))), ?_⟩
    have lr : ∀ B : List (Addr × Jb), (refs B).length = B.length := fun B => List.length_map ..
    have hz : ∀ n : Nat, n ≤ 1000 → n < sizeLine := fun n hn => Nat.lt_of_le_of_lt hn (by decide)
    have tl : (tops L).length = L.length := List.length_map ..
    refine ⟨_, rfl, ls, rfl, ⟨_, SqL.of hL.top⟩, fun D2 nD2 => ?_⟩
    refine lc_it (walk_list (K := K) (a := ls) (xs := tops L)) (fun i Hc => ∃ vs, Hc D2 = some (.lst vs) ∧ vs.length = i ∧ DpAll K (Off D2 Hc) vs (((jbs L).take i).map lineJ) ∧ Same H (Off D2 Hc)) ⟨[], upd_same, rfl, .nil, off_newB nD2⟩ (fun i Hc _ ⟨_, _, _, _, sc⟩ => SqL.of ((sc.trans (off_sub D2 Hc)).at hL.top)) ?_ ?_
    · rintro i y Hc0 Hc hi ⟨vs, hD2, lvs, dvs, sc⟩ ⟨rfl, hy⟩
      rw [tl] at hi
      unfold tops at hy
      rw [List.getElem?_map] at hy
      obtain ⟨p, hp, rfl⟩ := Option.map_eq_some_iff.mp hy
      have pm := List.mem_of_getElem? hp
      have hpl := hL.line p pm
      have p100 := Nat.le_trans (line_le pm) j100
      have sH := sc.trans (off_sub D2 Hc)
      refine ⟨rfl, _, rfl, p.1, rfl, ⟨_, SqL.of (sH.at hpl)⟩, fun D3 nD3 => ?_⟩
      have D32 : D3 ≠ D2 := fun e => by rw [e, hD2] at nD3; cases nD3
      have s00 : Same (Off D2 Hc) (Off D3 (Off D2 (upd Hc D3 (.lst [])))) := by
        rw [off_other D32]
        exact off_newB (by rw [off_ne D32]; exact nD3)
      refine lc_it (walk_list (K := K) (a := p.1) (xs := refs p.2)) (fun j Hd => ∃ ws, Hd D3 = some (.lst ws) ∧ ws.length = j ∧ Hd D2 = some (.lst vs) ∧ DpAll K (Off D3 (Off D2 Hd)) ws ((p.2.take j).map fun a => trip a.2) ∧ Same (Off D2 Hc) (Off D3 (Off D2 Hd)))
        ⟨[], upd_same, rfl, by rw [upd_ne (Ne.symm D32)]; exact hD2, .nil, s00⟩ (fun j Hd _ ⟨_, _, _, _, _, sd⟩ => SqL.of ((sc.trans (sd.trans ((off_sub D3 _).trans (off_sub D2 Hd)))).at hpl)) ?_ ?_
      · rintro j z Hd0 Hd hj ⟨ws, hD3, lws, hD2', dws, sd⟩ ⟨rfl, hz'⟩
        rw [lr] at hj
        unfold refs at hz'
        rw [List.getElem?_map] at hz'
        obtain ⟨a, ha, rfl⟩ := Option.map_eq_some_iff.mp hz'
        have sN := sc.trans (sd.trans ((off_sub D3 _).trans (off_sub D2 Hd)))
        have hja := sN.at (hL.jobs a (jl_mem pm (List.mem_of_getElem? ha)))
        refine ⟨rfl, _, rfl, a.1, _, _, _, rfl, rfl, SqL.of hja, rfl, _, rfl, a.1, _, _, _, rfl, rfl, SqL.of hja, rfl, _, rfl, a.1, _, _, _, rfl, rfl, SqL.of hja, rfl, by show 3 ≤ sizeLine; decide, fun q nq => ?_⟩
        have sq := same_new (o := .tup [V.str a.2.1, .int a.2.2.1, .int a.2.2.2]) nq
        have q3 : q ≠ D3 := fun e => by rw [e, hD3] at nq; cases nq
        have q2 : q ≠ D2 := fun e => by rw [e, hD2'] at nq; cases nq
        have sqq := off_mono (a := D3) (off_mono (a := D2) sq)
        refine ⟨ws, sq.at hD3, ?_, ws ++ [.ref q], upd_same, by rw [List.length_append, lws]; rfl, by rw [upd_ne (Ne.symm D32)]; exact sq.at hD2', ?_, ?_⟩
        · rw [lws]
          exact hz _ (by omega)
        · rw [off_other D32, off_upd, List.take_add_one, ha, List.map_append]
          refine dps_app (dps_same sqq dws) (.cons (.tup (SqT.of ?_) (.cons (.str _) (.cons (.int _) (.cons (.int _) .nil)))) .nil)
          rw [off_ne q3, off_ne q2, upd_same]
        · rw [off_other D32, off_upd]
          exact sd.trans sqq
      · rintro Hd ⟨ws, hD3, lws, hD2', dws, sd⟩
        rw [lr, List.take_length] at dws
        refine ⟨D3, ws, rfl, .inl ⟨SqL.of hD3, fun t nt => ?_⟩⟩
        have st := same_new (o := .tup ws) nt
        have t2 : t ≠ D2 := fun e => by rw [e, hD2'] at nt; cases nt
        have sOff : Same (Off D2 Hc) (Off D2 (upd Hd t (.tup ws))) := (sd.trans (off_sub D3 _)).trans (off_mono (a := D2) st)
        refine ⟨vs, st.at hD2', ?_, vs ++ [.ref t], upd_same, by rw [List.length_append, lvs]; rfl, ?_, ?_⟩
        · rw [lvs]
          exact hz _ (by omega)
        · rw [off_upd, List.take_add_one, jbs_get hp, List.map_append]
          have hs : SqT K (Off D2 (upd Hd t (.tup ws))) t ws := SqT.of (by rw [off_ne t2, upd_same])
          have z := dps_same ((off_sub D3 _).trans (off_mono (a := D2) st)) dws
          refine dps_app (dps_same sOff dvs) (.cons (.tup hs ?_) .nil)
          rw [List.map_map]
          exact z
        · rw [off_upd]
          exact sc.trans sOff
    · rintro Hc ⟨vs, hD2, lvs, dvs, sc⟩
      rw [tl, ← jbs_len, List.take_length] at dvs
      refine ⟨D2, vs, rfl, .inl ⟨SqL.of hD2, fun t nt => ?_⟩⟩
      have st := same_new (o := .tup vs) nt
      exact k t _ ((sc.trans (off_sub D2 Hc)).trans st) (.tup (SqT.of upd_same) (dps_same ((off_sub D2 Hc).trans st) dvs))
end
end Vk
set_option maxHeartbeats 8000000
/-! all that a bench returns is as due -/
namespace Vk
open PySem PySem.Spec PyProof.Rows L2 GxR
abbrev ND : List Str := ["bench", "lines", "cores", "facts", "moment", "ended", "pairs", "order", "level", "job"]
section
variable {P : Program} {w : World} {K : PySem.W.Frag} {mg : Str → Option Value} {base : Heap} {CN CB : Addr}
def spDueL (K : PySem.W.Frag) (CN CB : Addr) : Sp := fun vs H Q _ => ∃ (n : Addr) (rv : V) (c : Nat) (N : BnA) (s : Bd) (r : Rl) (ps : List Addr) (ls fc el pl : Addr) (L : Lv) (pr : List V), vs = [.ref n, .ref ls, .int c, .ref fc] ∧ BnAt CN CB K H n rv c N s r ps ∧ LnAt H ls L ∧ L.length ≤ 6 ∧ (jl L).length ≤ 100 ∧
  H fc = some (.lst [.int s.now, .ref el, .ref pl]) ∧ Dp K H (.ref el) (.list ((lensS s).map pairSI)) ∧ H pl = some (.lst pr) ∧ DpAll K H pr (logD s) ∧ RelL s (jbs L) ∧ (∀ x ∈ s.ran.map (·.1), PyData.strOk x = true) ∧ ∀ H', Same H H' → Q (.bl true) H'
theorem scDueL : FnScope ND ["bench", "lines", "cores", "facts"] (defScope sAsDue) := ⟨rfl, rfl, rfl, by decide +kernel, rfl, by decide +kernel, by decide +kernel⟩
theorem ok_dueL (D : Df K mg "_law_as_due" sAsDue ["bench", "lines", "cores", "facts"]) (TN : BnC K CN) (mt : mg "tuple" = none) (ml : mg "list" = none) (RU : MCl P w K mg base CX0 3 CN "running" ["self"] (spBRun K CN CB)) (MO : MCl P w K mg base CX0 1 CN "moment" ["self"] (spMoment K CN CB))
    (ST : MCl P w K mg base CX0 1 CN "state" ["self"] (spState K CN CB)) (LG : MCl P w K mg base CX0 2 CN "log" ["self"] (spBLog K CN CB)) (LE : MCl P w K mg base CX0 2 CN "lengths" ["self"] (spBLens K CN CB))
    (OR : Cl P w K mg base CX0 1 "_law_order" ["lines"] (spOrderL K)) (SL : Cl P w K mg base CX0 1 "_law_state" ["lines"] (spStateL K)) : Cl P w K mg base CX0 4 "_law_as_due" ["bench", "lines", "cores", "facts"] (spDueL K CN CB) := by
  refine cl0 D scDueL (fun vs H Q E h => ?_) (fun f cdv Ar outer s0 H vs Q E hr h => ?_)
  · obtain ⟨n, rv, c, N, s, r, ps, ls, fc, el, pl, L, pr, rfl, _⟩ := h
    rfl
  · obtain ⟨n, rv, c, N, s, r, ps, ls, fc, el, pl, L, pr, rfl, B, hL, l6, j100, hfc, hel, hpl, hpv, R, sok, k⟩ := h
    obtain ⟨fR, fdR, MR, bR, FR⟩ := RU.ex
    obtain ⟨fM, fdM, MM, bM, FM⟩ := MO.ex
    obtain ⟨fS, fdS, MS, bS, FS⟩ := ST.ex
    obtain ⟨fG, fdG, MG, bG, FG⟩ := LG.ex
    obtain ⟨fE, fdE, ME, bE, FE⟩ := LE.ex
    refine ⟨_, pss_cons (ps_asg (pv 3) (pg_unl rfl (pgs_cons (pg_name (i := 4) scDueL.nd rfl (.inl rfl)) (pgs_cons (pg_name (i := 5) scDueL.nd rfl (.inl rfl)) (pgs_cons (pg_name (i := 6) scDueL.nd rfl (.inl rfl)) pgs_nil)))))
      (pss_cons (ps_setLc (i := 7) (own := [("level", 8), ("job", 9)]) (g := gTup K 2 (gCons (gName 8) (gCons (gName 9) gNil))) (tt := tYes) (te := tOp (rIxL K) (tVar 9) (tC (.int 0))) rfl scDueL.nd rfl rfl (sw_true rfl rfl rfl (by decide +kernel)) (pi_list (pc OR hr (by decide) (pa_cons (pv 1) pa_nil)))
          (blkOk_by (own := [("level", 8), ("job", 9)]) (N := ND) (sc := defScope sAsDue) (by decide +kernel)) (fun _ _ _ _ _ => pg_tup rfl (pgs_cons (pg_name (i := 8) scDueL.nd rfl (.inl rfl)) (pgs_cons (pg_name (i := 9) scDueL.nd rfl (.inl rfl)) pgs_nil))) (fun _ _ _ _ _ => pts_nil) (fun _ _ _ _ _ => pe_ix ix_list (pv 9) pe_int (fun _ _ => rfl)))
      (pss_cons (ps_if (PW.pt (pw_or (pt_cmpR (op_neD hr.units) (pe_meth0 (pv 0) TN.cl MR FR (hr.mono (by decide)) bR .nil pass0) (pe_callTy call_tuple_of (by rfl) mt (by decide +kernel) (pa_cons (pe_slice sl_list (pv 7) po_none (po_some (pv 2))) pa_nil)) (nomark _))
          (pw_or (pt_cmpR op_ne (pe_meth0 (pv 0) TN.cl MM FM (hr.mono (by decide)) bM .nil pass0) (pv 4) (nomark _))
          (pw_or1 (pt_cmpR (op_neD hr.units) (pe_meth0 (pv 0) TN.cl MG FG (hr.mono (by decide)) bG .nil pass0) (pe_callTy call_tuple_of (by rfl) mt (by decide +kernel) (pa_cons (pv 6) pa_nil)) (nomark _)))))) (pss_one (ps_ret pe_bl)) pss_nil)
      (pss_cons (ps_if (pt_cmpR (op_neD hr.units) (pe_meth0 (pv 0) TN.cl MS FS (hr.mono (by decide)) bS .nil pass0) (pc SL hr (by decide) (pa_cons (pv 1) pa_nil)) (nomark _)) (pss_one (ps_ret pe_bl)) pss_nil)
      (pss_one (ps_ret (pe_cmpR (op_eqD hr.units) (LiI.pe_listItems rfl (pe_meth0 (pv 0) TN.cl ME FE (hr.mono (by decide)) bE .nil pass0) rfl ml (by decide +kernel)) (pv 5) (nomark _))))))), ?_⟩
    have hz : ∀ n : Nat, n ≤ 1000 → n < sizeLine := fun n hn => Nat.lt_of_le_of_lt hn (by decide)
    have jok : ∀ l ∈ jbs L, ∀ j ∈ l, PyData.strOk j.1 = true := fun l hl j hj => sok _ (B.ok.sub _ (R.inO hl hj))
    refine ⟨_, rfl, fc, _, rfl, SqL.of hfc, rfl, _, _, rfl, _, _, rfl, _, _, rfl, rfl, ?_⟩
    -- the order
    refine ⟨_, rfl, ls, L, rfl, hL, l6, j100, fun o O H1 s1 no ho fo aO eO => ?_⟩
    refine ⟨o, rfl, ⟨_, SqL.of ho⟩, fun D2 nD2 => ?_⟩
    have hL1 := hL.same s1
    have inL : ∀ q ∈ O, q.2.2 ∈ jl L := fun q hq => by
      have m : q.2 ∈ ordL L := by rw [← eO]; exact List.mem_map.mpr ⟨q, hq, rfl⟩
      rw [← ordL_jobs]
      exact List.mem_map.mpr ⟨q.2, m, rfl⟩
    have lenO : O.length ≤ 100 := by
      have z := congrArg List.length eO
      have y := congrArg List.length (ordL_jobs (L := L))
      rw [List.length_map] at z y
      omega
    have eN : O.map (fun q => q.2.2.2.1) = s.order := by
      have z := congrArg (List.map fun q : Nat × (Addr × Jb) => q.2.2.1) eO
      rw [List.map_map] at z
      rw [← jl_names R, ← ordL_jobs, List.map_map]
      exact z
    refine lc_it (walk_list (K := K) (a := o) (xs := O.map fun q => V.ref q.1)) (fun i Hc => Hc = upd H1 D2 (.lst ((O.take i).map fun q => V.str q.2.2.2.1))) rfl (fun i Hc _ e => by rw [e]; exact SqL.of ((same_new nD2).at ho)) ?_ ?_
    · rintro i y Hc0 Hc hi rfl ⟨rfl, hy⟩
      rw [List.getElem?_map] at hy
      obtain ⟨q, hq, rfl⟩ := Option.map_eq_some_iff.mp hy
      have qm := List.mem_of_getElem? hq
      have sD := same_new (o := .lst ((O.take i).map fun q => V.str q.2.2.2.1)) nD2
      have hj := sD.at (hL1.jobs _ (inL q qm))
      refine ⟨q.1, _, rfl, SqT.of (sD.at (aO q qm)), rfl, _, _, rfl, _, _, rfl, rfl, rfl, ?_⟩
      refine ⟨_, rfl, q.2.2.1, _, _, _, rfl, rfl, SqL.of hj, rfl, _, upd_same, ?_, ?_⟩
      · rw [List.length_map, List.length_take]
        exact hz _ (Nat.le_trans (Nat.min_le_right _ _) (by omega))
      · rw [upd_upd, List.take_add_one, hq, List.map_append]
        rfl
    rintro Hc rfl
    have e1 : ((O.take (O.map fun q => V.ref q.1).length).map fun q => V.str q.2.2.2.1) = s.order.map V.str := by
      rw [List.length_map, List.take_length, ← eN, List.map_map]
      rfl
    rw [e1]
    have s2 := s1.trans (same_new (o := .lst (s.order.map V.str)) nD2)
    have hD2 : upd H1 D2 (.lst (s.order.map V.str)) D2 = some (.lst (s.order.map V.str)) := upd_same
    generalize upd H1 D2 (.lst (s.order.map V.str)) = H2 at s2 hD2 ⊢
    dsimp only [gName]
    have B2 := B.same s2
    -- the running ones
    refine ⟨_, rfl, n, N.dn, _, rfl, B2.ob, by kernel_rfl, n, rv, c, N, s, r, ps, rfl, B2, by omega, fun D3 H3 nD3 s3 hD3 => ?_⟩
    refine ⟨_, rfl, ?_⟩
    dsimp only [tNoPart]
    refine ⟨_, rfl, _, rfl, D2, _, rfl, SqL.of (s3.at hD2), fun q nq => ?_⟩
    have ec : cutV (s.order.map V.str) none (some (c : Int)) = (s.run c).map V.str := by
      rw [cut_take (by omega)]
      exact (List.map_take ..).symm
    rw [ec]
    have s4 := same_new (o := .lst ((s.run c).map V.str)) nq
    refine ⟨q, _, rfl, .inl ⟨SqL.of upd_same, fun t5 nt5 => ?_⟩⟩
    have s5 := same_new (o := .tup ((s.run c).map V.str)) nt5
    have shr : SeqAt.shaped (.tuple ((s.run c).map PyData.str)) = true := sh_names fun x hx => sok x (B.ok.sub x (Bd.run_sub x hx))
    refine ⟨.tuple ((s.run c).map PyData.str), .tuple ((s.run c).map PyData.str), .tup (SqT.of ((s4.trans s5).at hD3)) (dps_strs _), .tup (SqT.of upd_same) (dps_strs _), shr, shr, _, rfl, ?_⟩
    rw [eqv_same shr]
    refine iteF ?_
    have s15 := s2.trans (s3.trans (s4.trans s5))
    generalize upd (upd H3 q (.lst ((s.run c).map V.str))) t5 (.tup ((s.run c).map V.str)) = H5 at s15 ⊢
    have B5 := B.same s15
    refine ⟨_, rfl, n, N.dn, _, rfl, B5.ob, by kernel_rfl, n, rv, c, N, s, r, ps, rfl, B5, _, rfl, rfl, _, rfl, ?_⟩
    rw [decide_eq_true rfl]
    refine iteF ?_
    -- the log
    refine ⟨_, rfl, n, N.dn, _, rfl, B5.ob, by kernel_rfl, n, rv, c, N, s, r, ps, rfl, B5, fun t6 H6 s6 d6 => ?_⟩
    refine ⟨_, rfl, pl, pr, rfl, .inl ⟨SqL.of ((s15.trans s6).at hpl), fun t7 nt7 => ?_⟩⟩
    have s7 := same_new (o := .tup pr) nt7
    have shg := sh_log s
    refine ⟨_, _, dp_same s7 d6, .tup (SqT.of upd_same) (dps_same (s15.trans (s6.trans s7)) hpv), shg, shg, _, rfl, ?_⟩
    rw [eqv_same shg]
    refine iteF ?_
    have s17 := s15.trans (s6.trans s7)
    generalize upd H6 t7 (.tup pr) = H7 at s17 ⊢
    have B7 := B.same s17
    -- the state
    refine ⟨_, rfl, n, N.dn, _, rfl, B7.ob, by kernel_rfl, n, rv, c, N, s, r, ps, rfl, B7, fun t8 H8 s8 d8 => ?_⟩
    rw [R.state] at d8
    refine ⟨_, rfl, ls, L, rfl, hL.same (s17.trans s8), l6, j100, fun t9 H9 s9 d9 => ?_⟩
    have shl := sh_state jok
    refine ⟨_, _, dp_same s9 d8, d9, shl, shl, _, rfl, ?_⟩
    rw [eqv_same shl]
    refine iteF ?_
    have s19 := s17.trans (s8.trans s9)
    have B9 := B.same s19
    -- the lengths
    refine ⟨_, rfl, n, N.dn, _, rfl, B9.ob, by kernel_rfl, n, rv, c, N, s, r, ps, rfl, B9, fun t11 H11 nt11 s11 h11 => ?_⟩
    refine ⟨t11, kvS (lensS s), rfl, h11, fun H12 p ts kp np nts npm hp hpair => ?_⟩
    have s12 : Same H11 H12 := .of kp
    have she : SeqAt.shaped (.list ((lensS s).map pairSI)) = true := sh_ended fun p hp => by
      obtain ⟨x, hx, rfl⟩ := List.mem_map.mp hp
      obtain ⟨fi, h1, h2⟩ := List.mem_flatMap.mp hx
      exact sok x ((B.ok.fst fi h1).2.2 x h2)
    refine ⟨_, rfl, _, _, .lst (SqL.of hp) (paired_dps hpair), dp_same (s19.trans (s11.trans s12)) hel, she, she, ?_⟩
    rw [eqv_same she]
    exact k H12 (s19.trans (s11.trans s12))
end
end Vk
set_option maxHeartbeats 8000000
/-! names of which one may not finish -/
namespace Vk
open PySem PySem.Spec PyProof.Rows L2 GxR
abbrev NBF : List Str := ["store", "lines", "cores", "facts", "order", "good", "some", "bad", "at", "level", "job", "name", "length"]
theorem cut_dropV {xs : List V} {c : Nat} : cutV xs (some (c : Int)) none = xs.drop c := by
  unfold cutV
  rw [HT.sIx_nat]
  show (xs.drop (min c xs.length)).take (xs.length - min c xs.length) = xs.drop c
  rcases Nat.le_total c xs.length with h | h
  · rw [Nat.min_eq_left h, List.take_of_length_le (by rw [List.length_drop]; exact Nat.le_refl _)]
  · rw [Nat.min_eq_right h, List.drop_eq_nil_of_le h, List.drop_length]
    simp
section
variable {K : PySem.W.Frag}
theorem slA_go {H : Hp} {a : Addr} {xs : List V} {lo hi : Option Int} {Q : VK} (q : SqT K H a xs) (go : ∀ (b : Addr) (H' : Hp), Same H H' → SqT K H' b (cutV xs lo hi) → Q (.ref b) H') : rSlA K (.ref a) lo hi H Q := by
  refine ⟨a, xs, rfl, q, fun ⟨h1, h2⟩ => go a H (Same.refl _) ?_, fun _ p np => go p _ (same_new np) (SqT.of upd_same)⟩
  have e : cutV xs lo hi = xs := by
    unfold cutV
    rw [h1, h2]
    simp
  rw [e]
  exact q
theorem catA_go {H : Hp} {a b : Addr} {xs ys : List V} {Q : VK} (qa : SqT K H a xs) (qb : SqT K H b ys) (len : xs.length + ys.length ≤ sizeLine) (go : ∀ (p : Addr) (H' : Hp), Same H H' → SqT K H' p (xs ++ ys) → Q (.ref p) H') : rCatA K (.ref a) (.ref b) H Q := by
  refine ⟨a, b, xs, ys, rfl, rfl, qa, qb, len, fun e => go b H (Same.refl _) (by rw [e]; exact qb), fun _ e => go a H (Same.refl _) (by rw [e, List.append_nil]; exact qa), fun _ _ p np => go p _ (same_new np) (SqT.of upd_same)⟩
end
section
variable {P : Program} {w : World} {K : PySem.W.Frag} {mg : Str → Option Value} {base : Heap}
def zq : Str := "zqzqzqzq"
def spBadFin (K : PySem.W.Frag) : Sp := fun vs H Q _ => ∃ (st sc ls fc el pl : Addr) (c : Nat) (t m : Int) (s : Bd) (L : Lv) (es : List (Str × Int)) (ev : List V), vs = [.ref st, .ref ls, .int c, .ref fc] ∧ Sto sc st m H ∧ m ≤ 900000 ∧ LnAt (Off st H) ls L ∧ L.length ≤ 6 ∧ (jl L).length ≤ 100 ∧ RelL s (jbs L) ∧ s.order.Nodup ∧ s.order.length ≤ 12 ∧ c ≤ 8 ∧
  Off st H fc = some (.lst [.int t, .ref el, .ref pl]) ∧ Off st H el = some (.lst ev) ∧ DpAll K (Off st H) ev (es.map pairSI) ∧ es.length ≤ 300 ∧ (∀ p ∈ es, p.1 ∉ s.order) ∧ zq ∉ s.order ∧ ("" : Str) ∉ s.order ∧
  ∀ (p fa : Addr) (g1 g2 : List Str) (bad : Str) (H' : Hp), Sto sc st (m + 23) H' → Kept st H H' → H' p = some (.lst [.ref fa, .str bad]) → SqT K H' fa ((g1 ++ bad :: g2).map V.str) → (g1 ++ bad :: g2).length ≤ 1000 → g1.Nodup → (∀ x ∈ g1, x ∈ s.run c) → (bad ∈ s.run c → bad ∈ g1) →
    (bad ∈ s.order ∨ bad ∈ es.map (·.1) ∨ bad = zq ∨ bad = ("" : Str)) → Q (.ref p) H'
theorem scBadFin : FnScope NBF ["store", "lines", "cores", "facts"] (defScope sBadFinish) := ⟨rfl, rfl, rfl, by decide +kernel, rfl, by decide +kernel, by decide +kernel⟩
theorem ok_badFin (D : Df K mg "_law_bad_finish" sBadFinish ["store", "lines", "cores", "facts"]) (B : Blt mg) (PK : Cl P w K mg base CX0 2 "_law_pick" ["store", "count"] spPick) (SM : Cl P w K mg base CX0 3 "_law_some" ["store", "names"] (spSome K)) (OR : Cl P w K mg base CX0 1 "_law_order" ["lines"] (spOrderL K)) :
    Cl P w K mg base CX0 4 "_law_bad_finish" ["store", "lines", "cores", "facts"] (spBadFin K) := by
  refine cl0 D scBadFin (fun vs H Q E h => ?_) (fun f cdv Ar outer s0 H vs Q E hr h => ?_)
  · obtain ⟨st, sc, ls, fc, el, pl, c, t, m, s, L, es, ev, rfl, _⟩ := h
    rfl
  · obtain ⟨st, sc, ls, fc, el, pl, c, t, m, s, L, es, ev, rfl, S0, m9, hL, l6, j100, R, ond, olen, c8, hfc, hel, dev, elen, edis, nz, ne, k⟩ := h
    refine ⟨_, pss_cons (ps_setLc (i := 4) (own := [("level", 9), ("job", 10)]) (g := gTup K 2 (gCons (gName 9) (gCons (gName 10) gNil))) (tt := tYes) (te := tOp (rIxL K) (tVar 10) (tC (.int 0))) rfl scBadFin.nd rfl rfl (sw_true rfl rfl rfl (by decide +kernel)) (pi_list (pc OR hr (by decide) (pa_cons (pv 1) pa_nil)))
          (blkOk_by (own := [("level", 9), ("job", 10)]) (N := NBF) (sc := defScope sBadFinish) (by decide +kernel)) (fun _ _ _ _ _ => pg_tup rfl (pgs_cons (pg_name (i := 9) scBadFin.nd rfl (.inl rfl)) (pgs_cons (pg_name (i := 10) scBadFin.nd rfl (.inl rfl)) pgs_nil))) (fun _ _ _ _ _ => pts_nil) (fun _ _ _ _ _ => pe_ix ix_list (pv 10) pe_int (fun _ _ => rfl)))
      (pss_cons (ps_set (i := 5) scBadFin.nd rfl (Or.inl rfl) (pc SM hr (by decide) (pa_cons (pv 0) (pa_cons (pe_callTy call_tuple_of (by rfl) B.tuple (by decide +kernel) (pa_cons (pe_slice sl_list (pv 4) po_none (po_some (pv 2))) pa_nil)) pa_nil))))
      (pss_cons (ps_set (i := 6) scBadFin.nd rfl (Or.inl rfl) (pe_op op_cat (pe_op op_cat (pe_op op_cat (pe_slice sl_list (pv 4) (po_some (pv 2)) po_none)
          (pe_lc (own := [("name", 11), ("length", 12)]) (g := gTup K 2 (gCons (gName 11) (gCons (gName 12) gNil))) (tt := tYes) (te := tVar 11) (by rfl) scBadFin.nd (pi_list (pe_ix ix_list (pv 3) pe_int (fun _ _ => rfl))) (blkOk_by (own := [("name", 11), ("length", 12)]) (N := NBF) (sc := defScope sBadFinish) (by decide +kernel))
            (fun _ _ _ _ _ => pg_tup rfl (pgs_cons (pg_name (i := 11) scBadFin.nd rfl (.inl rfl)) (pgs_cons (pg_name (i := 12) scBadFin.nd rfl (.inl rfl)) pgs_nil))) (fun _ _ _ _ _ => pts_nil) (fun _ _ _ _ _ => pv 11)))
          (pe_lst (pa_cons pe_str (pa_cons pe_str pa_nil)))) (pe_callTy call_list_of (by rfl) B.list (by decide +kernel) (pa_cons (pv 5) pa_nil))))
      (pss_cons (ps_set (i := 7) scBadFin.nd rfl (Or.inl rfl) (pe_ix ix_list (pv 6) (pc PK hr (by decide) (pa_cons (pv 0) (pa_cons (pe_callB call_len_seq (by rfl) B.len PySem.boot_len (pa_cons (pv 6) pa_nil)) pa_nil))) (fun _ _ => rfl)))
      (pss_cons (ps_set (i := 8) scBadFin.nd rfl (Or.inl rfl) (pc PK hr (by decide) (pa_cons (pv 0) (pa_cons (pe_op op_add (pe_callB call_len_seq (by rfl) B.len PySem.boot_len (pa_cons (pv 5) pa_nil)) pe_int) pa_nil))))
      (pss_cons (ps_if (pt_cmpR op_in_seq (pv 7) (pv 5) (by rfl)) (pss_one (ps_set (i := 8) scBadFin.nd rfl (Or.inl rfl) (pe_callB call_len_seq (by rfl) B.len PySem.boot_len (pa_cons (pv 5) pa_nil)))) pss_nil)
      (pss_one (ps_ret (pe_lst (pa_cons (pe_op op_catA (pe_op op_catA (pe_slice sl_tupA (pv 5) po_none (po_some (pv 8))) (pe_tup (pa_cons (pv 7) pa_nil))) (pe_slice sl_tupA (pv 5) (po_some (pv 8)) po_none)) (pa_cons (pv 7) pa_nil)))))))))), ?_⟩
    have hz : ∀ n : Nat, n ≤ 1000 → n < sizeLine := fun n hn => Nat.lt_of_le_of_lt hn (by decide)
    have sub0 := off_sub st H
    -- the order
    refine ⟨_, rfl, ls, L, rfl, hL.same sub0, l6, j100, fun o O H1 s1 no ho fo aO eO => ?_⟩
    refine ⟨o, rfl, ⟨_, SqL.of ho⟩, fun D2 nD2 => ?_⟩
    have hL1 := (hL.same sub0).same s1
    have inL : ∀ q ∈ O, q.2.2 ∈ jl L := fun q hq => by
      have m : q.2 ∈ ordL L := by rw [← eO]; exact List.mem_map.mpr ⟨q, hq, rfl⟩
      rw [← ordL_jobs]
      exact List.mem_map.mpr ⟨q.2, m, rfl⟩
    have lenO : O.length ≤ 100 := by
      have z := congrArg List.length eO
      have y := congrArg List.length (ordL_jobs (L := L))
      rw [List.length_map] at z y
      omega
    have eN : O.map (fun q => q.2.2.2.1) = s.order := by
      have z := congrArg (List.map fun q : Nat × (Addr × Jb) => q.2.2.1) eO
      rw [List.map_map] at z
      rw [← jl_names R, ← ordL_jobs, List.map_map]
      exact z
    refine lc_it (walk_list (K := K) (a := o) (xs := O.map fun q => V.ref q.1)) (fun i Hc => Hc = upd H1 D2 (.lst ((O.take i).map fun q => V.str q.2.2.2.1))) rfl (fun i Hc _ e => by rw [e]; exact SqL.of ((same_new nD2).at ho)) ?_ ?_
    · rintro i y Hc0 Hc hi rfl ⟨rfl, hy⟩
      rw [List.getElem?_map] at hy
      obtain ⟨q, hq, rfl⟩ := Option.map_eq_some_iff.mp hy
      have qm := List.mem_of_getElem? hq
      have sD := same_new (o := .lst ((O.take i).map fun q => V.str q.2.2.2.1)) nD2
      have hj := sD.at (hL1.jobs _ (inL q qm))
      refine ⟨q.1, _, rfl, SqT.of (sD.at (aO q qm)), rfl, _, _, rfl, _, _, rfl, rfl, rfl, ?_⟩
      refine ⟨_, rfl, q.2.2.1, _, _, _, rfl, rfl, SqL.of hj, rfl, _, upd_same, ?_, ?_⟩
      · rw [List.length_map, List.length_take]
        exact hz _ (Nat.le_trans (Nat.min_le_right _ _) (by omega))
      · rw [upd_upd, List.take_add_one, hq, List.map_append]
        rfl
    rintro Hc rfl
    have e1 : ((O.take (O.map fun q => V.ref q.1).length).map fun q => V.str q.2.2.2.1) = s.order.map V.str := by
      rw [List.length_map, List.take_length, ← eN, List.map_map]
      rfl
    rw [e1]
    have s2 := s1.trans (same_new (o := .lst (s.order.map V.str)) nD2)
    have hD2 : upd H1 D2 (.lst (s.order.map V.str)) D2 = some (.lst (s.order.map V.str)) := upd_same
    have nD : H D2 = none := s1.free nD2
    generalize upd H1 D2 (.lst (s.order.map V.str)) = H2 at s2 hD2 ⊢
    dsimp only [gName]
    have S2 := S0.same s2
    have Dst : D2 ≠ st := S0.ne nD
    -- the good ones
    refine ⟨_, rfl, _, rfl, ?_⟩
    dsimp only [tNoPart]
    refine ⟨_, rfl, _, rfl, D2, _, rfl, SqL.of hD2, fun cu ncu => ?_⟩
    have ecu : cutV (s.order.map V.str) none (some (c : Int)) = (s.run c).map V.str := by
      rw [cut_take (by omega), ← List.map_take]
      rfl
    rw [ecu]
    have s3 := same_new (o := .lst ((s.run c).map V.str)) ncu
    refine ⟨cu, _, rfl, .inl ⟨SqL.of upd_same, fun tu ntu => ?_⟩⟩
    have s4 := same_new (o := .tup ((s.run c).map V.str)) ntu
    have s14 := (s2.trans s3).trans s4
    have S4 := S0.same s14
    have tst : tu ≠ st := ((S2.same s3)).ne ntu
    have rnd : (s.run c).Nodup := (List.take_sublist _ _).nodup ond
    have rl : (s.run c).length ≤ 12 := Nat.le_trans (List.take_sublist _ _).length_le olen
    refine ⟨st, sc, tu, m, s.run c, rfl, S4, m9, SqT.of (by rw [off_ne tst]; exact upd_same), rnd, rl, fun tg gs H5 S5 K5 gnd gsub ntg htg => ?_⟩
    have k05 : Kept st H H5 := (kept_same s14).trans K5
    have stay : ∀ {X Y : Hp} {z : Addr} {o : HO}, Kept st X Y → z ≠ st → X z = some o → NoTbl o → Y z = some o := fun {X Y z o} kk zn e nt => by
      have y := (show Same (Off st X) (Off st Y) from kk).at_ z o (by rw [off_ne zn]; exact e) nt
      rw [off_ne zn] at y
      exact y
    have gst : tg ≠ st := S4.ne ntg
    have glen : gs.length ≤ 12 := Nat.le_trans (nd_len gnd gsub) rl
    have fst : fc ≠ st := fun e => by rw [e, off_same] at hfc; cases hfc
    have hfc5 := stay k05 fst (off_sub st H |>.at hfc) trivial
    have hD5 := stay K5 Dst ((s3.trans s4).at hD2) trivial
    have est : el ≠ st := fun e => by rw [e, off_same] at hel; cases hel
    have hel5 := stay k05 est ((off_sub st H).at hel) trivial
    have d5 := dps_same (show Same (Off st H) (Off st H5) from k05) dev
    have evl := dps_len dev
    rw [List.length_map] at evl
    -- all that are wrong
    refine ⟨_, rfl, _, rfl, _, rfl, ?_⟩
    dsimp only [tNoPart]
    refine ⟨D2, _, rfl, SqL.of hD5, fun c1 nc1 => ?_⟩
    rw [cut_dropV]
    have s6 := same_new (o := .lst ((s.order.map V.str).drop c)) nc1
    have hc1 : upd H5 c1 (.lst ((s.order.map V.str).drop c)) c1 = some (.lst ((s.order.map V.str).drop c)) := upd_same
    generalize upd H5 c1 (.lst ((s.order.map V.str).drop c)) = H6 at s6 hc1 ⊢
    refine ⟨_, rfl, fc, _, _, _, rfl, rfl, SqL.of (s6.at hfc5), rfl, ?_⟩
    refine ⟨el, rfl, ⟨_, SqL.of (s6.at hel5)⟩, fun D7 nD7 => ?_⟩
    have d6 : DpAll K H6 ev (es.map pairSI) := dps_same ((off_sub st H5).trans s6) d5
    refine lc_it (walk_list (K := K) (a := el) (xs := ev)) (fun i Hc => Hc = upd H6 D7 (.lst ((es.take i).map fun p => V.str p.1))) rfl (fun i Hc _ e => by rw [e]; exact SqL.of ((same_new nD7).at (s6.at hel5))) ?_ ?_
    · rintro i y Hc0 Hc hi rfl ⟨rfl, hy⟩
      have sD := same_new (o := .lst ((es.take i).map fun p => V.str p.1)) nD7
      obtain ⟨d, hd, dp⟩ := dps_getV d6 hy
      rw [List.getElem?_map] at hd
      obtain ⟨q, hq, rfl⟩ := Option.map_eq_some_iff.mp hd
      obtain ⟨a, x0, y0, rfl, qa, dx, dy⟩ := dp_two dp
      cases dp_str dx
      cases dp_int dy
      refine ⟨a, _, rfl, same_seqT sD qa, rfl, _, _, rfl, _, _, rfl, rfl, rfl, ?_⟩
      refine ⟨_, rfl, _, upd_same, ?_, ?_⟩
      · rw [List.length_map, List.length_take]
        exact hz _ (Nat.le_trans (Nat.min_le_right _ _) (by omega))
      · rw [upd_upd, List.take_add_one, hq, List.map_append]
        rfl
    rintro Hc rfl
    rw [evl, List.take_length]
    have s7 := same_new (o := .lst (es.map fun p => V.str p.1)) nD7
    have hD7 : upd H6 D7 (.lst (es.map fun p => V.str p.1)) D7 = some (.lst (es.map fun p => V.str p.1)) := upd_same
    have s57 := s6.trans s7
    have hc7 := s7.at hc1
    generalize upd H6 D7 (.lst (es.map fun p => V.str p.1)) = H7 at s7 hD7 s57 hc7 ⊢
    refine ⟨c1, D7, _, _, rfl, rfl, hc7, hD7, ?_, fun x8 nx8 => ?_⟩
    · rw [List.length_drop, List.length_map, List.length_map]
      exact Nat.le_of_lt (hz _ (by omega))
    have s8 := same_new (o := .lst ((s.order.map V.str).drop c ++ es.map fun p => V.str p.1)) nx8
    refine ⟨by show 2 ≤ sizeLine; decide, fun x9 nx9 => ?_⟩
    have s9 := same_new (o := .lst [V.str "zqzqzqzq", .str ""]) nx9
    refine ⟨x8, x9, _, _, rfl, rfl, s9.at upd_same, upd_same, ?_, fun xa nxa => ?_⟩
    · rw [List.length_append, List.length_drop, List.length_map, List.length_map]
      exact Nat.le_of_lt (hz _ (by show _ + 2 ≤ 1000; omega))
    have sa := same_new (o := .lst (((s.order.map V.str).drop c ++ es.map fun p => V.str p.1) ++ [V.str "zqzqzqzq", .str ""])) nxa
    have s7a := (s8.trans s9).trans sa
    have s5a := s57.trans s7a
    refine ⟨_, rfl, tg, _, rfl, .inr (SqT.of (s5a.at htg)), fun xb nxb => ?_⟩
    have sb := same_new (o := .lst (gs.map V.str)) nxb
    refine ⟨xa, xb, _, _, rfl, rfl, sb.at upd_same, upd_same, ?_, fun xc nxc => ?_⟩
    · rw [List.length_append, List.length_append, List.length_drop, List.length_map, List.length_map, List.length_map]
      exact Nat.le_of_lt (hz _ (by show _ + 2 + _ ≤ 1000; omega))
    have sc' := same_new (o := .lst ((((s.order.map V.str).drop c ++ es.map fun p => V.str p.1) ++ [V.str "zqzqzqzq", .str ""]) ++ gs.map V.str)) nxc
    have s5c := s5a.trans (sb.trans sc')
    obtain ⟨U, eU, uU⟩ : ∃ U : List Str, (((s.order.map V.str).drop c ++ es.map fun p => V.str p.1) ++ [V.str "zqzqzqzq", .str ""]) ++ gs.map V.str = U.map V.str ∧ U = ((s.order.drop c ++ es.map (·.1)) ++ [zq, ("" : Str)]) ++ gs := by
      refine ⟨_, ?_, rfl⟩
      rw [List.map_append, List.map_append, List.map_append, List.map_drop, List.map_map]
      rfl
    rw [eU] at s5c
    rw [eU]
    have ulen : U.length ≤ 400 := by
      rw [uU, List.length_append, List.length_append, List.length_append, List.length_drop, List.length_map]
      show _ + 2 + _ ≤ 400
      omega
    have upos : 0 < U.length := by
      rw [uU, List.length_append, List.length_append]
      show 0 < _ + 2 + _
      omega
    have Sc := S5.same s5c
    have xst : xc ≠ st := ((S5.same s5a).same sb).ne nxc
    refine ⟨_, rfl, _, rfl, _, rfl, xc, _, rfl, .inl (SqL.of upd_same), st, sc, _, _, rfl, ?_, ?_, Sc, by omega, fun rb Hb rb0 rb1 Sb Kb => ?_⟩
    · rw [List.length_map]; omega
    · rw [List.length_map]; omega
    rw [List.length_map] at rb1
    obtain ⟨bad, hbad⟩ : ∃ bad, U[rb.toNat]? = some bad := ⟨_, List.getElem?_eq_getElem (by omega)⟩
    have bU := List.mem_of_getElem? hbad
    have hat : atI (U.map V.str) rb = some (.str bad) := by
      have e : ((rb.toNat : Nat) : Int) = rb := Int.toNat_of_nonneg rb0
      rw [← e]
      exact atI_nat (by rw [List.getElem?_map, hbad]; rfl)
    have hxb : Hb xc = some (.lst (U.map V.str)) := stay Kb xst upd_same trivial
    refine ⟨xc, _, _, _, rfl, rfl, SqL.of hxb, hat, ?_⟩
    have htgb : Hb tg = some (.tup (gs.map V.str)) := stay Kb gst (s5c.at htg) trivial
    refine ⟨_, rfl, _, rfl, tg, _, rfl, .inr (SqT.of htgb), _, _, rfl, rfl, st, sc, _, _, rfl, ?_, ?_, Sb, by omega, fun rt Ht rt0 rt1 St Kt => ?_⟩
    · rw [List.length_map]; omega
    · rw [List.length_map]; omega
    rw [List.length_map] at rt1
    have htgt : Ht tg = some (.tup (gs.map V.str)) := stay Kt gst htgb trivial
    obtain ⟨j0, ej0⟩ : ∃ j0 : Nat, rt = (j0 : Int) := ⟨rt.toNat, (Int.toNat_of_nonneg rt0).symm⟩
    subst ej0
    have kHt : Kept st H Ht := (k05.trans ((kept_same s5c).trans Kb)).trans Kt
    refine ⟨_, rfl, _, rfl, tg, _, rfl, .inr (SqT.of htgt), rfl, all_flatS gs, _, rfl, ?_⟩
    rw [if_neg Bool.false_ne_true, inV_S]
    apply cutR (α := L2.St → Hp → Prop) (F := fun R => ∀ j : Nat, j ≤ gs.length → (bad ∈ gs → j = gs.length) → R [some (.ref st), some (.ref ls), some (.int c), some (.ref fc), some (.ref D2), some (.ref tg), some (.ref xc), some (.str bad), some (.int j), none, none, none, none] Ht)
    · intro cont
      refine ite2 (fun hm => ?_) (fun hm => ?_)
      · refine ⟨_, rfl, tg, _, rfl, .inr (SqT.of htgt), ?_⟩
        dsimp only [gName]
        rw [List.length_map]
        exact cont gs.length (Nat.le_refl _) (fun _ => rfl)
      · exact cont j0 (by omega) (fun h => by
          rw [decide_eq_true h] at hm
          exact absurd rfl hm)
    intro j jl jb
    have ej : ∀ {xs : List V}, cutV xs none (some (j : Int)) = xs.take j := fun {xs} => by
      rw [cut_take (by omega), Int.toNat_natCast]
    refine ⟨_, rfl, ?_⟩
    dsimp only [tNoPart]
    refine ⟨_, rfl, _, rfl, slA_go (SqT.of htgt) fun b1 G1 s1' q1 => ?_⟩
    rw [ej] at q1
    refine ⟨_, rfl, by show 1 ≤ sizeLine; decide, fun t2 nt2 => ?_⟩
    have s2' := same_new (o := .tup [V.str bad]) nt2
    have gl : (gs.map V.str).length ≤ 12 := by rw [List.length_map]; exact glen
    refine catA_go (same_seqT s2' q1) (SqT.of upd_same) ?_ fun p3 G3 s3' q3 => ?_
    · rw [List.length_take]
      exact Nat.le_of_lt (hz _ (by show _ + 1 ≤ 1000; omega))
    have s13 := (s1'.trans s2').trans s3'
    refine ⟨_, rfl, _, rfl, _, rfl, ?_⟩
    dsimp only [tNoPart]
    refine slA_go (SqT.of (s13.at htgt)) fun b4 G4 s4' q4 => ?_
    rw [cut_dropV] at q4
    refine catA_go (same_seqT s4' q3) q4 ?_ fun p5 G5 s5' q5 => ?_
    · rw [List.length_append, List.length_take, List.length_drop]
      exact Nat.le_of_lt (hz _ (by show _ + 1 + _ ≤ 1000; omega))
    have s15 := (s13.trans s4').trans s5'
    refine ⟨_, rfl, by show 2 ≤ sizeLine; decide, fun p6 np6 => ?_⟩
    have s6' := same_new (o := .lst [V.ref p5, .str bad]) np6
    have s16 := s15.trans s6'
    have rem : s.order.take c ++ s.order.drop c = s.order := List.take_append_drop _ _
    have run_e : s.run c = s.order.take c := rfl
    have inO : ∀ x, x ∈ s.run c → x ∈ s.order := fun x hx => List.mem_of_mem_take hx
    have inDr : ∀ x, x ∈ s.order.drop c → x ∉ s.run c := fun x hx hr => by
      have nd := ond
      rw [← rem] at nd
      exact (List.nodup_append.mp nd).2.2 x hr x hx rfl
    have cases4 : (bad ∈ s.order.drop c ∨ bad ∈ es.map (·.1) ∨ bad = zq ∨ bad = ("" : Str)) ∨ bad ∈ gs := by
      rw [uU] at bU
      rcases List.mem_append.mp bU with h | h
      · rcases List.mem_append.mp h with h | h
        · rcases List.mem_append.mp h with h | h
          · exact .inl (.inl h)
          · exact .inl (.inr (.inl h))
        · rcases List.mem_cons.mp h with h | h
          · exact .inl (.inr (.inr (.inl h)))
          · exact .inl (.inr (.inr (.inr (List.mem_singleton.mp h))))
      · exact .inr h
    refine k p6 p5 (gs.take j) (gs.drop j) bad _ ((St.same s16).more (by omega)) (kHt.trans (kept_same s16)) upd_same ?_ ?_ ((List.take_sublist _ _).nodup gnd) (fun x hx => gsub x (List.mem_of_mem_take hx)) (fun hr => ?_) ?_
    · have e : ((gs.take j ++ bad :: gs.drop j).map V.str) = (gs.map V.str).take j ++ [V.str bad] ++ (gs.map V.str).drop j := by
        rw [List.map_append, List.map_cons, List.map_take, List.map_drop, List.append_assoc]
        rfl
      rw [e]
      exact same_seqT s6' q5
    · rw [List.length_append, List.length_cons, List.length_take, List.length_drop]
      omega
    · rcases cases4 with (h | h | h | h) | h
      · exact absurd hr (inDr bad h)
      · obtain ⟨q, hq, rfl⟩ := List.mem_map.mp h
        exact absurd (inO _ hr) (edis q hq)
      · rw [h] at hr
        exact absurd (inO _ hr) nz
      · rw [h] at hr
        exact absurd (inO _ hr) ne
      · rw [jb h, List.take_length]
        exact h
    · rcases cases4 with (h | h | h | h) | h
      · exact .inl (List.mem_of_mem_drop h)
      · exact .inr (.inl h)
      · exact .inr (.inr (.inl h))
      · exact .inr (.inr (.inr h))
      · exact .inl (inO _ (gsub _ h))
end
end Vk
set_option maxHeartbeats 8000000
/-! names that may not arrive -/
namespace Vk
open PySem PySem.Spec PyProof.Rows L2 GxR
abbrev NBN : List Str := ["store", "lines", "facts", "good", "cut", "used", "bads", "level", "job", "name", "length"]
def sgs : Str := "AZ09 -_\n"
theorem cutS_mem {z : Str} {lo hi : Option Int} {c : Nat} (h : c ∈ (cutS z lo hi).cps.toList) : c ∈ z.cps.toList := by
  unfold cutS at h
  rw [List.toList_toArray] at h
  exact List.mem_of_mem_drop (List.mem_of_mem_take h)
theorem strOk_of {s : Str} (hs : ∀ c ∈ s.cps.toList, c < 256) : PyData.strOk s = true := by
  unfold PyData.strOk
  first
  | (rw [← Array.all_toList, List.all_eq_true]; intro c hc; have := hs c hc; simp; omega)
  | (simp; intro c hc; have := hs c hc; omega)
/-- a text with a sign that is no letter -/
theorem bad_text {g w u : Str} {c : Nat} (hg : nameD (.str g) = true) (hu : ∀ x ∈ u.cps.toList, x ∈ g.cps.toList) (hw : ∀ x ∈ w.cps.toList, x ∈ g.cps.toList) (hc : between "a" "z" c = false) (c6 : c < 256) :
    nameD (.str ((w ++ ⟨#[c]⟩) ++ u)) = false ∧ PyData.strOk ((w ++ ⟨#[c]⟩) ++ u) = true := by
  have e : ((w ++ ⟨#[c]⟩) ++ u).cps.toList = (w.cps.toList ++ [c]) ++ u.cps.toList := by rw [cps_app, cps_app]
  obtain ⟨_, _, az⟩ := nameD_iff.mp hg
  refine ⟨?_, strOk_of fun x hx => ?_⟩
  · cases h : nameD (.str ((w ++ ⟨#[c]⟩) ++ u)) with
    | false => rfl
    | true =>
      obtain ⟨_, _, z⟩ := nameD_iff.mp h
      have y := z c (by rw [e]; simp)
      rw [hc] at y
      cases y
  · rw [e] at hx
    have lt : ∀ x ∈ g.cps.toList, x < 256 := fun x hx => by
      have y := az x hx
      rw [between_az] at y
      have := of_decide_eq_true y
      omega
    rcases List.mem_append.mp hx with h | h
    · rcases List.mem_append.mp h with h | h
      · exact lt x (hw x h)
      · rw [List.mem_singleton.mp h]; exact c6
    · exact lt x (hu x h)
theorem sgs_at {r : Int} (h0 : 0 ≤ r) (h8 : r < 8) : ∃ c, atI sgs.cps.toList r = some c ∧ between "a" "z" c = false ∧ c < 256 := by
  have all : ∀ i : Fin 8, ∃ c, sgs.cps.toList[i.1]? = some c ∧ between "a" "z" c = false ∧ c < 256 := fun i => by
    have h : ∀ i : Fin 8, (match sgs.cps.toList[i.1]? with | some c => !between "a" "z" c && decide (c < 256) | none => false) = true := by decide +kernel
    have y := h i
    cases e : sgs.cps.toList[i.1]? with
    | none => rw [e] at y; cases y
    | some c =>
      rw [e] at y
      obtain ⟨y1, y2⟩ := Bool.and_eq_true_iff.mp y
      exact ⟨c, rfl, by simpa using y1, of_decide_eq_true y2⟩
  obtain ⟨c, e, h1, h2⟩ := all ⟨r.toNat, by omega⟩
  have er : ((r.toNat : Nat) : Int) = r := Int.toNat_of_nonneg h0
  exact ⟨c, by rw [← er]; exact atI_nat e, h1, h2⟩
section
variable {P : Program} {w : World} {K : PySem.W.Frag} {mg : Str → Option Value} {base : Heap}
def spBadNam (K : PySem.W.Frag) : Sp := fun vs H Q _ => ∃ (st sc ls fc el pl : Addr) (t m : Int) (s : Bd) (L : Lv) (es : List (Str × Int)) (ev : List V), vs = [.ref st, .ref ls, .ref fc] ∧ Sto sc st m H ∧ m ≤ 900000 ∧ LnAt (Off st H) ls L ∧ L.length ≤ 6 ∧ (jl L).length ≤ 100 ∧ RelL s (jbs L) ∧
  Off st H fc = some (.lst [.int t, .ref el, .ref pl]) ∧ Off st H el = some (.lst ev) ∧ DpAll K (Off st H) ev (es.map pairSI) ∧ es.length ≤ 300 ∧ (∀ x, x ∈ s.order ∨ x ∈ es.map (·.1) → nameD (.str x) = true) ∧
  ∀ (v : V) (d : PyData) (H' : Hp), Sto sc st (m + 4) H' → Kept st H H' → Dp K H' v d → smallS d → SeqAt.shaped (.tuple [.str ("name" : Str), d]) = true → (nameD d = true → ∃ x, v = .str x ∧ (x ∈ s.order ∨ x ∈ es.map (·.1))) → Q v H'
theorem scBadNam : FnScope NBN ["store", "lines", "facts"] (defScope sBadNames) := ⟨rfl, rfl, rfl, by decide +kernel, rfl, by decide +kernel, by decide +kernel⟩
theorem ok_badNam (D : Df K mg "_law_bad_names" sBadNames ["store", "lines", "facts"]) (B : Blt mg) (PK : Cl P w K mg base CX0 2 "_law_pick" ["store", "count"] spPick) (OR : Cl P w K mg base CX0 1 "_law_order" ["lines"] (spOrderL K)) :
    Cl P w K mg base CX0 4 "_law_bad_names" ["store", "lines", "facts"] (spBadNam K) := by
  refine cl0 D scBadNam (fun vs H Q E h => ?_) (fun f cdv Ar outer s0 H vs Q E hr h => ?_)
  · obtain ⟨st, sc, ls, fc, el, pl, t, m, s, L, es, ev, rfl, _⟩ := h
    rfl
  · obtain ⟨st, sc, ls, fc, el, pl, t, m, s, L, es, ev, rfl, S0, m9, hL, l6, j100, R, hfc, hel, dev, elen, nok, k⟩ := h
    refine ⟨_, pss_cons (ps_set (i := 3) scBadNam.nd rfl (Or.inl rfl) (pe_ix ix_list (pe_lst (pa_cons pe_str (pa_cons pe_str (pa_cons pe_str pa_nil)))) (pc PK hr (by decide) (pa_cons (pv 0) (pa_cons pe_int pa_nil))) (fun _ _ => rfl)))
      (pss_cons (ps_set (i := 4) scBadNam.nd rfl (Or.inl rfl) (pc PK hr (by decide) (pa_cons (pv 0) (pa_cons (pe_op op_add (pe_callB call_len (by rfl) B.len PySem.boot_len (pa_cons (pv 3) pa_nil)) pe_int) pa_nil))))
      (pss_cons (ps_set (i := 5) scBadNam.nd rfl (Or.inl rfl) (pe_op op_cat
          (pe_lc (own := [("level", 7), ("job", 8)]) (g := gTup K 2 (gCons (gName 7) (gCons (gName 8) gNil))) (tt := tYes) (te := tOp (rIxL K) (tVar 8) (tC (.int 0))) (by rfl) scBadNam.nd (pi_list (pc OR hr (by decide) (pa_cons (pv 1) pa_nil))) (blkOk_by (own := [("level", 7), ("job", 8)]) (N := NBN) (sc := defScope sBadNames) (by decide +kernel))
            (fun _ _ _ _ _ => pg_tup rfl (pgs_cons (pg_name (i := 7) scBadNam.nd rfl (.inl rfl)) (pgs_cons (pg_name (i := 8) scBadNam.nd rfl (.inl rfl)) pgs_nil))) (fun _ _ _ _ _ => pts_nil) (fun _ _ _ _ _ => pe_ix ix_list (pv 8) pe_int (fun _ _ => rfl)))
          (pe_lc (own := [("name", 9), ("length", 10)]) (g := gTup K 2 (gCons (gName 9) (gCons (gName 10) gNil))) (tt := tYes) (te := tVar 9) (by rfl) scBadNam.nd (pi_list (pe_ix ix_list (pv 2) pe_int (fun _ _ => rfl))) (blkOk_by (own := [("name", 9), ("length", 10)]) (N := NBN) (sc := defScope sBadNames) (by decide +kernel))
            (fun _ _ _ _ _ => pg_tup rfl (pgs_cons (pg_name (i := 9) scBadNam.nd rfl (.inl rfl)) (pgs_cons (pg_name (i := 10) scBadNam.nd rfl (.inl rfl)) pgs_nil))) (fun _ _ _ _ _ => pts_nil) (fun _ _ _ _ _ => pv 9))))
      (pss_cons (ps_set (i := 6) scBadNam.nd rfl (Or.inl rfl) (pe_lst (pa_cons pe_str (pa_cons pe_str (pa_cons (pe_op op_add_str (pe_op op_add_str (pe_slice sl_str (pv 3) po_none (po_some (pv 4))) (pe_ix ix_str pe_str (pc PK hr (by decide) (pa_cons (pv 0) (pa_cons pe_int pa_nil))) (fun _ _ => rfl))) (pe_slice sl_str (pe_slice sl_str (pv 3) (po_some (pv 4)) po_none) po_none (po_some (pe_op op_sub pe_int (pv 4)))))
          (pa_cons pe_non (pa_cons pe_int (pa_cons (pe_tup (pa_cons pe_str pa_nil)) pa_nil))))))))
      (pss_one (ps_ret (pe_ix ix_list (pe_op op_cat (pv 6) (pv 5)) (pc PK hr (by decide) (pa_cons (pv 0) (pa_cons (pe_op op_add (pe_callB call_len_seq (by rfl) B.len PySem.boot_len (pa_cons (pv 6) pa_nil)) (pe_callB call_len_seq (by rfl) B.len PySem.boot_len (pa_cons (pv 5) pa_nil))) pa_nil))) (fun _ _ => rfl))))))), ?_⟩
    have hz : ∀ n : Nat, n ≤ 1000 → n < sizeLine := fun n hn => Nat.lt_of_le_of_lt hn (by decide)
    have sub0 := off_sub st H
    have stay : ∀ {X Y : Hp} {z : Addr} {o : HO}, Kept st X Y → z ≠ st → X z = some o → NoTbl o → Y z = some o := fun {X Y z o} kk zn e nt => by
      have y := (show Same (Off st X) (Off st Y) from kk).at_ z o (by rw [off_ne zn]; exact e) nt
      rw [off_ne zn] at y
      exact y
    -- a good one
    refine ⟨by show 3 ≤ sizeLine; decide, fun q1 nq1 => ?_⟩
    have s1 := same_new (o := .lst [V.str "ab", .str "abcdefgh", .str "q"]) nq1
    have q1st := S0.ne nq1
    refine ⟨_, rfl, st, sc, 3, _, rfl, by decide, by decide, S0.same s1, by omega, fun ra Ha ra0 ra3 Sa Ka => ?_⟩
    obtain ⟨g, hat, gok⟩ : ∃ g : Str, atI [V.str "ab", .str "abcdefgh", .str "q"] ra = some (.str g) ∧ nameD (.str g) = true := by
      rcases (show ra = 0 ∨ ra = 1 ∨ ra = 2 by omega) with e | e | e
      · exact ⟨_, by rw [e]; rfl, by decide +kernel⟩
      · exact ⟨_, by rw [e]; rfl, by decide +kernel⟩
      · exact ⟨_, by rw [e]; rfl, by decide +kernel⟩
    refine ⟨q1, _, _, _, rfl, rfl, SqL.of (stay Ka q1st upd_same trivial), hat, ?_⟩
    obtain ⟨g1, g8, _⟩ := nameD_iff.mp gok
    have gl : g.length = g.cps.toList.length := by rw [Array.length_toList]; rfl
    have gsm : g.length ≤ sizeLine := Nat.le_trans (show g.length ≤ 8 by omega) (by decide)
    refine ⟨_, rfl, _, rfl, .str g, g.length, rfl, ⟨gsm, rfl⟩, _, _, rfl, rfl, st, sc, _, _, rfl, by omega, by omega, Sa, by omega, fun rc Hc rc0 rc1 Sc Kc => ?_⟩
    have k0c : Kept st H Hc := ((kept_same s1).trans Ka).trans Kc
    have kS : Same (Off st H) (Off st Hc) := k0c
    have hLc := hL.same kS
    have hfcc := kS.at hfc
    have helc := kS.at hel
    have devc := dps_same kS dev
    have subc := off_sub st Hc
    have evl := dps_len dev
    rw [List.length_map] at evl
    -- the used ones
    refine ⟨_, rfl, ls, L, rfl, hLc.same subc, l6, j100, fun o O H1 s1' no ho fo aO eO => ?_⟩
    refine ⟨o, rfl, ⟨_, SqL.of ho⟩, fun D2 nD2 => ?_⟩
    have hL1 := (hLc.same subc).same s1'
    have inL : ∀ q ∈ O, q.2.2 ∈ jl L := fun q hq => by
      have m : q.2 ∈ ordL L := by rw [← eO]; exact List.mem_map.mpr ⟨q, hq, rfl⟩
      rw [← ordL_jobs]
      exact List.mem_map.mpr ⟨q.2, m, rfl⟩
    have lenO : O.length ≤ 100 := by
      have z := congrArg List.length eO
      have y := congrArg List.length (ordL_jobs (L := L))
      rw [List.length_map] at z y
      omega
    have eN : O.map (fun q => q.2.2.2.1) = s.order := by
      have z := congrArg (List.map fun q : Nat × (Addr × Jb) => q.2.2.1) eO
      rw [List.map_map] at z
      rw [← jl_names R, ← ordL_jobs, List.map_map]
      exact z
    refine lc_it (walk_list (K := K) (a := o) (xs := O.map fun q => V.ref q.1)) (fun i Hx => Hx = upd H1 D2 (.lst ((O.take i).map fun q => V.str q.2.2.2.1))) rfl (fun i Hx _ e => by rw [e]; exact SqL.of ((same_new nD2).at ho)) ?_ ?_
    · rintro i y Hc0 Hx hi rfl ⟨rfl, hy⟩
      rw [List.getElem?_map] at hy
      obtain ⟨q, hq, rfl⟩ := Option.map_eq_some_iff.mp hy
      have qm := List.mem_of_getElem? hq
      have sD := same_new (o := .lst ((O.take i).map fun q => V.str q.2.2.2.1)) nD2
      have hj := sD.at (hL1.jobs _ (inL q qm))
      refine ⟨q.1, _, rfl, SqT.of (sD.at (aO q qm)), rfl, _, _, rfl, _, _, rfl, rfl, rfl, ?_⟩
      refine ⟨_, rfl, q.2.2.1, _, _, _, rfl, rfl, SqL.of hj, rfl, _, upd_same, ?_, ?_⟩
      · rw [List.length_map, List.length_take]
        exact hz _ (Nat.le_trans (Nat.min_le_right _ _) (by omega))
      · rw [upd_upd, List.take_add_one, hq, List.map_append]
        rfl
    rintro Hx rfl
    have olen : s.order.length ≤ 100 := by rw [← eN, List.length_map]; exact lenO
    have e1 : ((O.take (O.map fun q => V.ref q.1).length).map fun q => V.str q.2.2.2.1) = s.order.map V.str := by
      rw [List.length_map, List.take_length, ← eN, List.map_map]
      rfl
    rw [e1]
    have s2 := s1'.trans (same_new (o := .lst (s.order.map V.str)) nD2)
    have hD2 : upd H1 D2 (.lst (s.order.map V.str)) D2 = some (.lst (s.order.map V.str)) := upd_same
    generalize upd H1 D2 (.lst (s.order.map V.str)) = H2 at s2 hD2 ⊢
    refine ⟨_, rfl, fc, _, _, _, rfl, rfl, SqL.of (s2.at (subc.at hfcc)), rfl, ?_⟩
    refine ⟨el, rfl, ⟨_, SqL.of (s2.at (subc.at helc))⟩, fun D7 nD7 => ?_⟩
    have d6 : DpAll K H2 ev (es.map pairSI) := dps_same (subc.trans s2) devc
    refine lc_it (walk_list (K := K) (a := el) (xs := ev)) (fun i Hx => Hx = upd H2 D7 (.lst ((es.take i).map fun p => V.str p.1))) rfl (fun i Hx _ e => by rw [e]; exact SqL.of ((same_new nD7).at (s2.at (subc.at helc)))) ?_ ?_
    · rintro i y Hc0 Hx hi rfl ⟨rfl, hy⟩
      have sD := same_new (o := .lst ((es.take i).map fun p => V.str p.1)) nD7
      obtain ⟨d, hd, dp⟩ := dps_getV d6 hy
      rw [List.getElem?_map] at hd
      obtain ⟨q, hq, rfl⟩ := Option.map_eq_some_iff.mp hd
      obtain ⟨a, x0, y0, rfl, qa, dx, dy⟩ := dp_two dp
      cases dp_str dx
      cases dp_int dy
      refine ⟨a, _, rfl, same_seqT sD qa, rfl, _, _, rfl, _, _, rfl, rfl, rfl, ?_⟩
      refine ⟨_, rfl, _, upd_same, ?_, ?_⟩
      · rw [List.length_map, List.length_take]
        exact hz _ (Nat.le_trans (Nat.min_le_right _ _) (by omega))
      · rw [upd_upd, List.take_add_one, hq, List.map_append]
        rfl
    rintro Hx rfl
    rw [evl, List.take_length]
    have s7 := same_new (o := .lst (es.map fun p => V.str p.1)) nD7
    refine ⟨D2, D7, _, _, rfl, rfl, s7.at hD2, upd_same, ?_, fun D8 nD8 => ?_⟩
    · rw [List.length_map, List.length_map]
      exact Nat.le_of_lt (hz _ (by omega))
    have s8 := same_new (o := .lst (s.order.map V.str ++ es.map fun p => V.str p.1)) nD8
    have eU : (s.order.map V.str ++ es.map fun p => V.str p.1) = (s.order ++ es.map (·.1)).map V.str := by
      rw [List.map_append, List.map_map]
      rfl
    rw [eU] at s8 ⊢
    have s28 := (s2.trans s7).trans s8
    have D8st : D8 ≠ st := (Sc.same (s2.trans s7)).ne nD8
    have S8 := Sc.same s28
    dsimp only [gName]
    -- the six
    refine ⟨_, rfl, ?_⟩
    dsimp only [tNoPart]
    refine ⟨_, rfl, _, rfl, g, rfl, gsm, ?_⟩
    refine ⟨_, rfl, st, sc, 8, _, rfl, by decide, by decide, S8, by omega, fun rd Hd rd0 rd8 Sd Kd => ?_⟩
    obtain ⟨ch, hch, cbad, c256⟩ := sgs_at rd0 rd8
    have cl : ∀ {z : Str} {lo hi : Option Int}, z.length ≤ 8 → (cutS z lo hi).length ≤ 8 := fun h => Nat.le_trans (cutS_length _ _ _) h
    have gl8 : g.length ≤ 8 := by omega
    refine ⟨sgs, rd, ch, rfl, rfl, by decide +kernel, hch, _, _, rfl, rfl, ?_, ?_⟩
    · exact Nat.le_trans (Nat.add_le_add_right (cl gl8) 1) (by decide)
    refine ⟨_, rfl, _, rfl, _, rfl, ?_⟩
    dsimp only [tNoPart]
    refine ⟨g, rfl, gsm, ?_⟩
    refine ⟨_, rfl, _, _, rfl, rfl, _, rfl, _, rfl, Nat.le_trans (cl gl8) (by decide), ?_⟩
    have len1 : ∀ {a b : Str}, (a ++ b).length = a.length + b.length := fun {a b} => by
      have e : ∀ s : Str, s.length = s.cps.toList.length := fun s => by rw [Array.length_toList]; rfl
      rw [e, cps_app, List.length_append, ← e, ← e]
    have one : (⟨#[ch]⟩ : Str).length = 1 := rfl
    have bt := bad_text (g := g) (w := cutS g none (some rc)) (u := cutS (cutS g (some rc) none) none (some (7 - rc))) gok (fun x hx => cutS_mem (cutS_mem hx)) (fun x hx => cutS_mem hx) cbad c256
    have l17 : ((cutS g none (some rc) ++ ⟨#[ch]⟩) ++ cutS (cutS g (some rc) none) none (some (7 - rc))).length ≤ 17 := by
      rw [len1, len1, one]
      have a1 := cl (z := g) (lo := none) (hi := some rc) gl8
      have a2 := cl (lo := none) (hi := some (7 - rc)) (cl (z := g) (lo := some rc) (hi := none) gl8)
      omega
    refine ⟨_, _, rfl, rfl, ?_, ?_⟩
    · rw [← len1]
      exact Nat.le_trans l17 (by decide)
    generalize (cutS g none (some rc) ++ ⟨#[ch]⟩) ++ cutS (cutS g (some rc) none) none (some (7 - rc)) = bw at bt l17 ⊢
    refine ⟨by show 1 ≤ sizeLine; decide, fun ta nta => ?_⟩
    have s9 := same_new (o := .tup [V.str "a"]) nta
    refine ⟨by show 6 ≤ sizeLine; decide, fun D9 nD9 => ?_⟩
    have s10 := same_new (o := .lst [V.str "", .str "abcdefghi", .str bw, .non, .int 7, .ref ta]) nD9
    have hD8d := stay Kd D8st upd_same trivial
    have s910 := s9.trans s10
    refine ⟨_, rfl, _, rfl, D9, D8, _, _, rfl, rfl, upd_same, s910.at hD8d, ?_, fun DA nDA => ?_⟩
    · rw [List.length_map, List.length_append, List.length_map]
      exact Nat.le_of_lt (hz _ (by show 6 + _ ≤ 1000; omega))
    have s11 := same_new (o := .lst ([V.str "", .str "abcdefghi", .str bw, .non, .int 7, .ref ta] ++ (s.order ++ es.map (·.1)).map V.str)) nDA
    have s9A := s910.trans s11
    have DAst : DA ≠ st := (Sd.same s910).ne nDA
    have hD9A := s11.at (b := D9) upd_same
    have hD8A := s9A.at hD8d
    refine ⟨_, rfl, _, rfl, D9, _, rfl, .inl (SqL.of hD9A), _, rfl, D8, _, rfl, .inl (SqL.of hD8A), _, _, rfl, rfl, st, sc, _, _, rfl, ?_, ?_, Sd.same s9A, by omega, fun rf Hf rf0 rf1 Sf Kf => ?_⟩
    · rw [List.length_map]; show (0 : Int) < 6 + _; omega
    · rw [List.length_map, List.length_append, List.length_map]; show (6 : Int) + _ < _; omega
    rw [List.length_map] at rf1
    have rf1 : rf < 6 + ((s.order ++ es.map (·.1)).length : Int) := rf1
    have hDAf := stay Kf DAst upd_same trivial
    have hta : Hf ta = some (.tup [V.str "a"]) := stay Kf ((Sd).ne nta) ((s10.trans s11).at upd_same) trivial
    have kHf : Kept st H Hf := (((k0c.trans (kept_same s28)).trans Kd).trans (kept_same s9A)).trans Kf
    have shS : ∀ x : Str, PyData.strOk x = true → SeqAt.shaped (.tuple [.str ("name" : Str), .str x]) = true := fun x hx => by
      simp [SeqAt.shaped, PyData.canLay0, PyData.canLayAll0, PyData.depth, PyData.depthAll, hx]
      decide +kernel
    obtain ⟨v, d, hv, dv, sv, shv, bv⟩ : ∃ (v : V) (d : PyData), atI ([V.str "", .str "abcdefghi", .str bw, .non, .int 7, .ref ta] ++ (s.order ++ es.map (·.1)).map V.str) rf = some v ∧ Dp K Hf v d ∧ smallS d ∧ SeqAt.shaped (.tuple [.str ("name" : Str), d]) = true ∧ (nameD d = true → ∃ x, v = .str x ∧ (x ∈ s.order ∨ x ∈ es.map (·.1))) := by
      have er : ((rf.toNat : Nat) : Int) = rf := Int.toNat_of_nonneg rf0
      rcases Nat.lt_or_ge rf.toNat 6 with h | h
      · rcases (show rf.toNat = 0 ∨ rf.toNat = 1 ∨ rf.toNat = 2 ∨ rf.toNat = 3 ∨ rf.toNat = 4 ∨ rf.toNat = 5 by omega) with e | e | e | e | e | e
        · exact ⟨.str "", .str "", by rw [← er, e]; exact atI_nat rfl, .str _, by show ("" : Str).length ≤ 1000; decide +kernel, shS _ (by decide +kernel), fun h => absurd h (by decide +kernel)⟩
        · exact ⟨.str "abcdefghi", .str "abcdefghi", by rw [← er, e]; exact atI_nat rfl, .str _, by show ("abcdefghi" : Str).length ≤ 1000; decide +kernel, shS _ (by decide +kernel), fun h => absurd h (by decide +kernel)⟩
        · exact ⟨.str bw, .str bw, by rw [← er, e]; exact atI_nat rfl, .str _, Nat.le_trans l17 (by decide), shS _ bt.2, fun h => absurd (bt.1.symm.trans h) (by decide)⟩
        · exact ⟨.non, .none, by rw [← er, e]; exact atI_nat rfl, .non, trivial, by simp [SeqAt.shaped, PyData.canLay0, PyData.canLayAll0, PyData.depth, PyData.depthAll]; decide +kernel, fun h => by cases h⟩
        · exact ⟨.int 7, .int 7, by rw [← er, e]; exact atI_nat rfl, .int _, trivial, by simp [SeqAt.shaped, PyData.canLay0, PyData.canLayAll0, PyData.depth, PyData.depthAll]; decide +kernel, fun h => by cases h⟩
        · exact ⟨.ref ta, .tuple [.str "a"], by rw [← er, e]; exact atI_nat rfl, .tup (SqT.of hta) (.cons (.str _) .nil), trivial, by simp [SeqAt.shaped, PyData.canLay0, PyData.canLayAll0, PyData.depth, PyData.depthAll]; decide +kernel, fun h => by cases h⟩
      · obtain ⟨x, hx⟩ : ∃ x, (s.order ++ es.map (·.1))[rf.toNat - 6]? = some x := ⟨_, List.getElem?_eq_getElem (by omega)⟩
        have xm := List.mem_append.mp (List.mem_of_getElem? hx)
        have xn := nok x xm
        obtain ⟨_, x8, _⟩ := nameD_iff.mp xn
        rw [Array.length_toList] at x8
        refine ⟨.str x, .str x, ?_, .str _, Nat.le_trans (show x.length ≤ 8 from x8) (by decide), shS _ (name_strOk xn), fun _ => ⟨x, rfl, xm⟩⟩
        rw [← er]
        refine atI_nat ?_
        rw [List.getElem?_append_right h, List.getElem?_map]
        show Option.map V.str ((s.order ++ es.map (·.1))[rf.toNat - 6]?) = _
        rw [hx]
        rfl
    refine ⟨DA, _, _, _, rfl, rfl, SqL.of hDAf, hv, ?_⟩
    exact k v d Hf (Sf.more (by omega)) kHf dv sv shv bv
end
end Vk
set_option maxHeartbeats 4000000
/-! undo, where there is something to take back -/
namespace Vk
open PySem PySem.Spec PyProof.Rows L2 GxR
section
variable {P : Program} {w : World} {K : PySem.W.Frag} {mg : Str → Option Value} {base : Heap} {CN CB : Addr}
/-- t is the latest board of the past -/
def spUndo (K : PySem.W.Frag) (CN CB : Addr) : Sp := fun vs H Q _ => ∃ (n : Addr) (rv : V) (c : Int) (N : BnA) (s s0 : Bd) (r : Rl) (t : Addr) (At : BdA) (ps : List Addr), vs = [.ref n] ∧ BnAt CN CB K H n rv c N s r (t :: ps) ∧ BdAt CB K H t rv c At s0 ∧ s0.Ok ∧ r.levels.length = s0.lines.length ∧ n ∉ ftB t At ∧ N.p ∉ ftB t At ∧
  ∀ H' : Hp, BnAt CN CB K H' n rv c ⟨N.dn, t, N.p, At⟩ s0 r ps → Same (OffL [n, N.p] H) (OffL [n, N.p] H') → Q .non H'
theorem scUndo : FnScope ["self"] ["self"] (defScope sBnUndo) := ⟨rfl, rfl, rfl, by decide +kernel, rfl, by decide +kernel, by decide +kernel⟩
theorem ok_undo (D : MDf K CN "undo" "Bench.undo" sBnUndo ["self"]) (TN : BnC K CN) : MCl P w K mg base CX0 1 CN "undo" ["self"] (spUndo K CN CB) := by
  refine mcl0 D scUndo (fun vs H Q E h => ?_) (fun f cdv Ar outer s0 H vs Q E hr h => ?_)
  · obtain ⟨n, rv, c, N, s, s0, r, t, At, ps, rfl, _⟩ := h
    rfl
  · obtain ⟨n, rv, c, N, s, s0, r, t, At, ps, rfl, B, Bt, ok0, lev0, nt, pt, k⟩ := h
    refine ⟨_, pss_cons (ps_if (pt_not (pt_truth (pe_fld (pv 0) rfl) (fun _ => rfl))) (pss_one ps_never) pss_nil)
      (pss_one (ps_fld (pv 0) (pe_bm0 PySem.F.plainAttrs_list PySem.F.slot_list_pop PySem.F.type_list_pop mt_pop (pe_fld (pv 0) rfl)) rfl)), ?_⟩
    have ep : ((t :: ps).map V.ref).reverse = (ps.map V.ref).reverse ++ [V.ref t] := by simp
    have hp := B.past
    rw [ep] at hp
    refine ⟨_, rfl, n, CN, N.dn, _, _, rfl, B.ob, TN.cl, TN.nP, nf_past, _, .inl ⟨_, SqL.of hp, rfl⟩, ?_⟩
    have e : ((ps.map V.ref).reverse ++ [V.ref t]).isEmpty = false := by
      simp
    rw [e]
    refine iteF ?_
    refine ⟨_, rfl, n, CN, N.dn, _, _, rfl, B.ob, TN.cl, TN.nP, nf_past, .inl ⟨rfl, _, SqL.of hp⟩, N.p, _, .ref t, rfl, rfl, hp, ?_, ?_⟩
    · simp
    have ob1 : upd H N.p (.lst ((ps.map V.ref).reverse ++ [V.ref t]).dropLast) n = some (.ins CN N.dn (nfl N)) := by
      rw [upd_ne B.np]
      exact B.ob
    refine ⟨_, rfl, n, CN, N.dn, _, rfl, ob1, TN.cl, TN.nB, by show 2 < 1000; decide, ?_⟩
    have ef : putF "_board" (.ref t) (nfl N) = nfl ⟨N.dn, t, N.p, At⟩ := by kernel_rfl
    rw [ef, List.dropLast_concat]
    have put : ∀ {a : Addr} {xs : List V}, SqT K H a xs → SqT K (upd (upd H N.p (.lst (ps.map V.ref).reverse)) n (.ins CN N.dn (nfl ⟨N.dn, t, N.p, At⟩))) a xs := fun q => sqt_put (by rw [upd_ne B.np]; exact B.ob) noTup_ins (sqt_put hp noTup_lst q)
    have B2 : BdAt CB K (upd (upd H N.p (.lst (ps.map V.ref).reverse)) n (.ins CN N.dn (nfl ⟨N.dn, t, N.p, At⟩))) t rv c At s0 := Bt.keepT (fun z hz => by
      rw [upd_ne (fun e => nt (by rw [← e]; exact hz)), upd_ne (fun e => pt (by rw [← e]; exact hz))]) (fun a xs q => by
      rw [offL_put nt, offL_put pt]
      exact sqt_put (by rw [upd_ne B.np, offL_out nt]; exact B.ob) noTup_ins (sqt_put (by rw [offL_out pt]; exact hp) noTup_lst q))
    have hob : upd (upd H N.p (.lst (ps.map V.ref).reverse)) n (.ins CN N.dn (nfl ⟨N.dn, t, N.p, At⟩)) n = some (.ins CN N.dn (nfl ⟨N.dn, t, N.p, At⟩)) := upd_same
    have hps : upd (upd H N.p (.lst (ps.map V.ref).reverse)) n (.ins CN N.dn (nfl ⟨N.dn, t, N.p, At⟩)) N.p = some (.lst (ps.map V.ref).reverse) := by
      rw [upd_ne B.np.symm, upd_same]
    refine k _ ⟨hob, hps, B2, ok0, rul_keep (fun a xs q => sqt_off (fun z hz o e => ?_) (put (same_seqT (offL_sub _ _) q))) B.rule, lev0, nt, pt⟩ ?_
    · simp only [ftN, List.mem_cons] at hz
      rcases hz with rfl | rfl | h
      · rw [hob] at e; cases e; exact noTup_ins
      · rw [hps] at e; cases e; exact noTup_lst
      · exact B2.noTup z h o e
    · rw [offL_upd (by simp), offL_upd (by simp)]
      exact Same.refl _
end
end Vk
set_option maxHeartbeats 8000000
/-! arrive and end_unit with a wrong name -/
namespace Vk
open PySem PySem.Spec PyProof.Rows L2 GxR
section
variable {P : Program} {w : World} {K : PySem.W.Frag} {mg : Str → Option Value} {base : Heap} {CN CB : Addr}
theorem mclKX {C : Addr} {m qual kn : Str} {st : Stmt} {N ps : List Str} {k : Nat} {dv : V} {sp : Sp} (D : MDfK K C m qual st ps kn dv) (S : FnScope N (ps ++ [kn]) (defScope st)) (len : ∀ vs H Q E, sp vs H Q E → vs.length = (ps ++ [kn]).length)
    (body : ∀ (f : Addr) (cdv : Value) (A : Around) (outer : List Env) (s : Shared) (H : Hp) (vs : List V) (Q : VK) (E : XK), Room k (A.deeper (envOfC qual (defScope st) s.heap.objs.size f cdv)) → sp vs H Q E →
      ∃ t, PSs (cxOf (L2.CX P w) P w K mg base N qual (defScope st) f cdv A outer s H E) (defBody st) t ∧ t { nx := fun _ H' => Q .non H', rt := Q } (start N vs) H) : MClK P w K mg base (L2.CX P w) (k + 1) C m ps kn dv sp := by
  obtain ⟨f, fd, M, F, kb, db⟩ := D.ex
  exact ⟨f, fd, M, kb, db, F.ok S len fun cdv A outer s H vs Q E hr h => body f cdv A outer s H vs Q E hr h⟩
theorem mclPX {C : Addr} {m qual : Str} {st : Stmt} {N ps : List Str} {k : Nat} {dv : V} {sp : Sp} (D : MDfP K C m qual st ps dv) (S : FnScope N ps (defScope st)) (len : ∀ vs H Q E, sp vs H Q E → vs.length = ps.length)
    (body : ∀ (f : Addr) (cdv : Value) (A : Around) (outer : List Env) (s : Shared) (H : Hp) (vs : List V) (Q : VK) (E : XK), Room k (A.deeper (envOfC qual (defScope st) s.heap.objs.size f cdv)) → sp vs H Q E →
      ∃ t, PSs (cxOf (L2.CX P w) P w K mg base N qual (defScope st) f cdv A outer s H E) (defBody st) t ∧ t { nx := fun _ H' => Q .non H', rt := Q } (start N vs) H) : MClP P w K mg base (L2.CX P w) (k + 1) C m ps dv sp := by
  obtain ⟨f, fd, M, F, b0, db⟩ := D.ex
  exact ⟨f, fd, M, b0, db, F.ok S len fun cdv A outer s H vs Q E hr h => body f cdv A outer s H vs Q E hr h⟩
def spArrX (K : PySem.W.Frag) (T CN CB C : Addr) : Sp := fun vs H _ E => ∃ (n : Addr) (rv : V) (c : Int) (N : BnA) (s : Bd) (r : Rl) (ps : List Addr) (v : V) (d : PyData) (e : Nat), vs = [.ref n, v, .int e] ∧ BnAt CN CB K H n rv c N s r ps ∧ Dp K H v d ∧ smallS d ∧ TabG H T ∧ (nameD d = true → ∃ x, v = .str x ∧ x ∈ s.ran.map (·.1)) ∧
  ∀ (dx : Addr) (H' : Hp), Same H H' → H' dx = some (.xd [("name", v)]) → E (.ref C) (some dx) H'
theorem ok_arrX {T C : Addr} (D : MDfK K CN "arrive" "Bench.arrive" sBnArrive ["self", "name"] "entry" (.int 0)) (ER : ErC P w K mg base "NoName" "name" C) (TN : BnC K CN) (TB : BdC K CB) (NA : Cl P w K mg base CX0 1 "is_name" ["value"] (spName K T)) :
    MClK P w K mg base (L2.CX P w) 4 CN "arrive" ["self", "name"] "entry" (.int 0) (spArrX K T CN CB C) := by
  refine mclKX D scArrive (fun vs H Q E h => ?_) (fun f cdv Ar outer s0 H vs Q E hr h => ?_)
  · obtain ⟨n, rv, c, N, s, r, ps, v, d, e, rfl, _⟩ := h
    rfl
  · obtain ⟨n, rv, c, N, s, r, ps, v, d, e, rfl, B, hd, sm, tg, bad, k⟩ := h
    refine ⟨_, pss_cons (ps_if (PW.pt (pw_or (pt_not (pt_val (pc NA hr (by decide) (pa_cons (pv 1) pa_nil)))) (pw_or1 (pt_cmp (pc_din (hu_of hr) (pv 1) (pe_fld (pe_fld (pv 0) rfl) rfl)))))) (pss_one (ps_raiseE ER rfl hr (by decide) (takes_of rfl rfl rfl rfl) (pv 1))) pss_nil) pss_never, ?_⟩
    refine ⟨_, rfl, v, d, rfl, hd, sm, tg, fun H1 s1 => ?_⟩
    refine ⟨_, rfl, ?_⟩
    cases hn : nameD d with
    | false =>
      refine iteT (iteT ?_)
      exact ⟨_, rfl, raise_go fun dx H2 s2 _ hx => k dx H2 (s1.trans s2) hx⟩
    | true =>
      refine iteF ?_
      obtain ⟨x, rfl, hx⟩ := bad hn
      have B1 := B.same s1
      refine ⟨_, rfl, _, rfl, n, CN, N.dn, _, _, rfl, B1.ob, TN.cl, TN.nB, nf_board, N.b, CB, N.A.dx, _, _, rfl, B1.bd.ob, TB.cl, TB.nA, bf_ran, N.A.n, some (.int (getS s.ran x)), rfl, ?_, _, rfl, ?_⟩
      · have z := DGet.k (k := (.inr x : Key)) B1.bd.ran
        rw [valS, lookS hx] at z
        exact z
      refine iteT ?_
      exact ⟨_, rfl, raise_go fun dx H2 s2 _ hx => k dx H2 (s1.trans s2) hx⟩
/-- the first wrong name stands behind g1 -/
def spEndX (K : PySem.W.Frag) (CN CB C : Addr) : Sp := fun vs H _ E => ∃ (n : Addr) (rv : V) (c : Int) (N : BnA) (s : Bd) (r : Rl) (ps : List Addr) (fa : Addr) (g1 g2 : List Str) (bad : Str), vs = [.ref n, .ref fa] ∧ BnAt CN CB K H n rv c N s r ps ∧ 0 ≤ c ∧ SqT K H fa ((g1 ++ bad :: g2).map V.str) ∧ (g1 ++ bad :: g2).length ≤ 1000 ∧ g1.Nodup ∧ (∀ x ∈ g1, x ∈ s.run c) ∧ (bad ∈ s.run c → bad ∈ g1) ∧
  ∀ (dx : Addr) (H' : Hp), Same H H' → H' dx = some (.xd [("name", .str bad)]) → E (.ref C) (some dx) H'
theorem ok_endX {dv : V} {C : Addr} (D : MDfP K CN "end_unit" "Bench.end_unit" sBnEnd ["self", "finishing"] dv) (ER : ErC P w K mg base "NoName" "name" C) (TN : BnC K CN) (TB : BdC K CB) (B0 : Blt mg) (RU : MCl P w K mg base CX0 2 CB "running" ["self"] (spRun K CB)) :
    MClP P w K mg base (L2.CX P w) 4 CN "end_unit" ["self", "finishing"] dv (spEndX K CN CB C) := by
  refine mclPX D scEnd (fun vs H Q E h => ?_) (fun f cdv Ar outer s0 H vs Q E hr h => ?_)
  · obtain ⟨n, rv, c, N, s, r, ps, fa, g1, g2, bad, rfl, _⟩ := h
    rfl
  · obtain ⟨n, rv, c, N, s, r, ps, fa, g1, g2, bad, rfl, B, c0, hfa, fle, fnd, frun, hb, k⟩ := h
    obtain ⟨fR, fdR, MR, bR, FR⟩ := RU.ex
    refine ⟨_, pss_cons (ps_set (i := 2) scEnd.nd rfl (Or.inl rfl) (pe_meth0 (pe_fld (pv 0) rfl) TB.cl MR FR (hr.mono (by decide)) bR .nil pass0))
      (pss_cons (ps_for (passes_of rfl) rfl (pi_enumT B0.enum (pa_cons (pv 1) pa_nil)) (pg_tup rfl (pgs_cons (pg_name (i := 3) scEnd.nd rfl (.inl rfl)) (pgs_cons (pg_name (i := 4) scEnd.nd rfl (.inl rfl)) pgs_nil)))
        (pss_one (ps_if (PW.pt (pw_or (pt_cmpR op_notIn_seq (pv 4) (pv 2) (by rfl)) (pw_or1 (pt_cmpR op_in_seq (pv 4) (pe_slice sl_tupA (pv 1) po_none (po_some (pv 3))) (by rfl))))) (pss_one (ps_raiseE ER rfl hr (by decide) (takes_of rfl rfl rfl rfl) (pv 4))) pss_nil)))
      pss_never), ?_⟩
    have ok := B.ok
    have l2 : (g1 ++ bad :: g2).length = g1.length + (g2.length + 1) := by rw [List.length_append, List.length_cons]
    refine ⟨_, rfl, n, CN, N.dn, _, _, rfl, B.ob, TN.cl, TN.nB, nf_board, N.b, N.A.dx, _, rfl, B.bd.ob, by kernel_rfl, N.b, rv, c, N.A, s, rfl, B.bd, ok.toOk0, c0, fun D H1 nD s1 hD => ?_⟩
    have hfa1 := same_seqT s1 hfa
    refine ⟨_, rfl, fa, (g1 ++ bad :: g2).map V.str, rfl, hfa1, ?_⟩
    refine for_it (D := { nx := _, rt := _ }) (walk_enumT (K := K) (a := fa) (xs := (g1 ++ bad :: g2).map V.str)) (fun i σ G => i ≤ g1.length ∧ ∃ (u3 u4 : Option V), σ = [some (.ref n), some (.ref fa), some (.ref D), u3, u4] ∧ Same H1 G)
      ⟨Nat.zero_le _, none, none, rfl, Same.refl _⟩ (fun i σ G _ ⟨_, _, _, _, sG⟩ => same_seqT sG hfa1) ?_ ?_
    · rintro i v1 σ G0 G hi ⟨ig, u3, u4, rfl, sG⟩ ⟨TT, x1, y1, rfl, nT, rfl, ex, ey⟩
      cases ex
      replace ey : ((g1 ++ bad :: g2).map V.str)[i]? = some y1 := ey
      rw [List.getElem?_map] at ey
      obtain ⟨x, hx, rfl⟩ := Option.map_eq_some_iff.mp ey
      have sT := same_new (o := .tup [V.int (i : Nat), V.str x]) nT
      refine ⟨TT, _, rfl, SqT.of upd_same, rfl, _, _, rfl, _, _, rfl, rfl, ?_⟩
      refine ⟨_, rfl, _, rfl, D, _, rfl, .inr (SqT.of ((sG.trans sT).at hD)), rfl, all_flatS _, _, rfl, ?_⟩
      rw [if_pos rfl, inV_S]
      rcases Nat.lt_or_ge i g1.length with hlt | hge
      · rw [List.getElem?_append_left hlt] at hx
        rw [decide_eq_true (frun x (List.mem_of_getElem? hx))]
        refine iteF ?_
        refine ⟨_, rfl, _, rfl, ?_⟩
        dsimp only [tNoPart]
        refine ⟨_, rfl, _, rfl, fa, _, rfl, same_seqT (sG.trans sT) hfa1, fun z => ?_, fun _ p np => ?_⟩
        · have z2 := z.2
          rw [HT.sIx_nat, List.length_map] at z2
          omega
        · rw [cut_take (by omega)]
          refine ⟨p, _, rfl, .inr (SqT.of upd_same), rfl, ?_, _, rfl, ?_⟩
          · rw [← List.map_take]
            exact all_flatS _
          · rw [if_neg Bool.false_ne_true, ← List.map_take, inV_S, Int.toNat_natCast, List.take_append_of_le_length (Nat.le_of_lt hlt), decide_eq_false (nd_take fnd hx)]
            refine iteF ?_
            exact ⟨hlt, _, _, rfl, sG.trans (sT.trans (same_new np))⟩
      · have ei : i = g1.length := Nat.le_antisymm ig hge
        subst ei
        rw [List.getElem?_append_right (Nat.le_refl _), Nat.sub_self] at hx
        cases hx
        by_cases hm : bad ∈ s.run c
        · rw [decide_eq_true hm]
          refine iteF ?_
          refine ⟨_, rfl, _, rfl, ?_⟩
          dsimp only [tNoPart]
          refine ⟨_, rfl, _, rfl, fa, _, rfl, same_seqT (sG.trans sT) hfa1, fun z => ?_, fun _ p np => ?_⟩
          · have z2 := z.2
            rw [HT.sIx_nat, List.length_map] at z2
            omega
          · rw [cut_take (by omega)]
            refine ⟨p, _, rfl, .inr (SqT.of upd_same), rfl, ?_, _, rfl, ?_⟩
            · rw [← List.map_take]
              exact all_flatS _
            · rw [if_neg Bool.false_ne_true, ← List.map_take, inV_S, Int.toNat_natCast, List.take_append_of_le_length (Nat.le_refl _), List.take_length, decide_eq_true (hb hm)]
              refine iteT ?_
              exact ⟨_, rfl, raise_go fun dx H2 s2 _ hx => k dx H2 (((s1.trans sG).trans (sT.trans (same_new np))).trans s2) hx⟩
        · rw [decide_eq_false hm]
          refine iteT (iteT ?_)
          exact ⟨_, rfl, raise_go fun dx H2 s2 _ hx => k dx H2 (((s1.trans sG).trans sT).trans s2) hx⟩
    · rintro σ G ⟨hle, _⟩
      exact absurd hle (by simp)
end
end Vk
set_option maxHeartbeats 4000000
/-! X(), an own error without an own __init__ -/
namespace Vk
open PySem PySem.Spec PyProof.Rows L2
section
variable {X : Cx} {C : Addr} {bmB : List Value} {B newId initId : String}
theorem pmk_own0 {x : Str} {p pos : Pos} (F : ExcBaseFacts B newId initId bmB) (q : PySem.W.excIn X.K C bmB newId = true) (gC : X.mg x = some (.ref C)) (kC : PySem.W.keepIn X.K (.ref C) = true) (r : Raises X (.ref C)) (hg : Gl X x)
    (hdb : (x == ("__debug__" : Str)) = false := by decide) : PMk X (.Call (.Name x p) [] [] pos) (fun _ H Q => Q (.ref C) none H) := by
  intro pins s σ H Q I h
  refine wpAny_Call_Name_kw (ld_glob I hg gC ?_ hdb)
  refine PySem.W.callWith_K0 I.kIn kC ?_
  show wpAny _ _ (call (.ref C) []) _ _ _
  obtain ⟨bm, N, nm, qn, bs, hdct, sn, sub, ab, col, dd, k0, k1, k2, k3, k5, mN, hC, hN, hni, T⟩ := exc_obj I.kIn q
  refine wpAny_call_exc_subT F T hC hN hni (fun h' e hm => ?_) (by show 0 ≤ sizeLine; exact Nat.zero_le _)
  exact mk_of I hm r h (I.hok.gone hm.new)
end
end Vk
set_option maxHeartbeats 4000000
/-! undo, where nothing is left to take back -/
namespace Vk
open PySem PySem.Spec PyProof.Rows L2 GxR
/-- an own error without an own __init__, of ValueError's kind -/
structure EuC (K : PySem.W.Frag) (mg : Str → Option Value) (x : Str) (C : Addr) : Prop where
  gC : mg x = some (.ref C)
  q : PySem.W.excIn K C [.type "ValueError", .type "Exception", .type "BaseException", .type "object"] "ValueError.__new__" = true
  kC : PySem.W.keepIn K (.ref C) = true
  s1 : PySem.W.subIn K (.ref C) (.type "BaseException") = some true
  s2 : PySem.W.typeIn K (.ref C) = some (.type "type")
section
variable {P : Program} {w : World} {K : PySem.W.Frag} {mg : Str → Option Value} {base : Heap} {CN CB : Addr}
theorem mclX0 {C : Addr} {m qual : Str} {st : Stmt} {N ps : List Str} {k : Nat} {sp : Sp} (D : MDf K C m qual st ps) (S : FnScope N ps (defScope st)) (len : ∀ vs H Q E, sp vs H Q E → vs.length = ps.length)
    (body : ∀ (f : Addr) (cdv : Value) (A : Around) (outer : List Env) (s : Shared) (H : Hp) (vs : List V) (Q : VK) (E : XK), Room k (A.deeper (envOfC qual (defScope st) s.heap.objs.size f cdv)) → sp vs H Q E →
      ∃ t, PSs (cxOf (L2.CX P w) P w K mg base N qual (defScope st) f cdv A outer s H E) (defBody st) t ∧ t { nx := fun _ H' => Q .non H', rt := Q } (start N vs) H) : MCl P w K mg base (L2.CX P w) (k + 1) C m ps sp := by
  obtain ⟨f, fd, M, F, b⟩ := D.ex
  exact ⟨f, fd, M, b, F.okX S len (body f)⟩
def spUndoX (CN CB C : Addr) (K : PySem.W.Frag) : Sp := fun vs H _ E => ∃ (n : Addr) (rv : V) (c : Int) (N : BnA) (s : Bd) (r : Rl), vs = [.ref n] ∧ BnAt CN CB K H n rv c N s r [] ∧ E (.ref C) none H
theorem ok_undoX {C : Addr} (D : MDf K CN "undo" "Bench.undo" sBnUndo ["self"]) (TN : BnC K CN) (T : EuC K mg "NoUndo" C) : MCl P w K mg base (L2.CX P w) 1 CN "undo" ["self"] (spUndoX CN CB C K) := by
  refine mclX0 D scUndo (fun vs H Q E h => ?_) (fun f cdv Ar outer s0 H vs Q E hr h => ?_)
  · obtain ⟨n, rv, c, N, s, r, rfl, _⟩ := h
    rfl
  · obtain ⟨n, rv, c, N, s, r, rfl, B, k⟩ := h
    refine ⟨_, pss_cons (ps_if (pt_not (pt_truth (pe_fld (pv 0) rfl) (fun _ => rfl))) (pss_one (ps_raise rfl (takes_of rfl rfl rfl rfl) (pmk_own0 PySem.F.excBase_ValueError T.q T.gC T.kC (raises_own T.s1 T.s2) rfl))) pss_nil) pss_never, ?_⟩
    refine ⟨_, rfl, n, CN, N.dn, _, _, rfl, B.ob, TN.cl, TN.nP, nf_past, _, .inl ⟨_, SqL.of B.past, rfl⟩, ?_⟩
    refine iteT ?_
    exact k
end
end Vk
set_option maxHeartbeats 4000000
/-! xs.count(y) of flat items -/
namespace Vk
open PySem PySem.Spec PyProof.Rows L2
theorem cnt_flat {y : V} : ∀ {ys : List V} {us : List Value}, Vals ys us → ys.all flatV = true → us.countP (eqU y) = ys.countP (fun z => eqV z y)
  | _, _, .nil, _ => rfl
  | _, _, .cons r t, f => by
    have f2 := Bool.and_eq_true_iff.mp f
    rw [List.countP_cons, List.countP_cons, cnt_flat t f2.2, eqU_of r f2.1]
def rCntV (K : PySem.W.Frag) : V → List V → Hp → VK → Prop := fun x xs H Q => ∃ (p : Addr) (ys : List V) (y : V), x = .ref p ∧ xs = [y] ∧ SqL K H p ys ∧ flatV y = true ∧ ys.all flatV = true ∧ Q (.int (ys.countP (fun z => eqV z y) : Nat)) H
theorem mt_countV {X : Cx} : MtR X "list.count" (rCntV X.K) := by
  intro pins s σ H x xs v us Q I rx rxs h
  obtain ⟨p, ys, y, rfl, rfl, hs, fy, fys, q⟩ := h
  cases rx
  obtain ⟨u, rfl, ru⟩ := rxs.one
  obtain ⟨its, rv, ⟨⟨cls, dd, data, sl⟩, n, ho, hc, hdn, hd⟩, hlen⟩ := I.list hs
  simp only at hc hd
  subst hc hd
  refine call_meets PySem.F.slot_list_count ⟨_, ho, rfl⟩ PySem.F.entry_list_count (PySem.F.args_list_count_2 _ _)
    (SeqAt.list_countAt p its.toArray n dd sl u (eqU y)) ⟨ho, fun z hz => mem_eqAt ru fy rv fys z (by simpa using hz), ?_⟩
  refine ⟨.int (ys.countP (fun z => eqV z y) : Nat), H, I.tok _, ⟨s.toks, ?_⟩, q⟩
  show Value.int ((its.toArray.toList.countP (eqU y) : Nat) : Int) s.toks = _
  rw [show its.toArray.toList = its from rfl, cnt_flat rv fys]
end Vk
set_option maxHeartbeats 4000000
namespace Vk
open PySem PySem.Spec PyProof.Rows L2
/-- the truth of the twelve questions, for the class with number i -/
def bits (i : Nat) : List V := (List.range 12).map fun j => V.bl (decide (j = i))
def words7 : List Str := ["jobs", "rule", "lengths", "log", "marks", "named", "order"]
theorem bits_len (i : Nat) : (bits i).length = 12 := by simp [bits]
theorem bits_get {i m : Nat} (h : m < 12) : (bits i)[m]? = some (V.bl (decide (m = i))) := by
  unfold bits
  rw [List.getElem?_map, List.getElem?_range h]
  rfl
theorem bits_flat (i : Nat) : (bits i).all flatV = true := by
  unfold bits
  rw [List.all_eq_true]
  intro x hx
  obtain ⟨j, _, rfl⟩ := List.mem_map.mp hx
  rfl
theorem bits_cnt : ∀ i : Fin 12, (bits i.1).countP (fun z => eqV z (.bl true)) = 1 := by decide +kernel
structure Kn (K : PySem.W.Frag) (mg : Str → Option Value) (C : Addr) (i : Nat) : Prop where
  ex : ExcC K C
  xf : XfC K C
  noP : PySem.W.findIn K (.ref C) "place" = some none
  ve : mg "ValueError" = none
  kv : PySem.W.kitOne K (.ref C) (.type "ValueError") = some true
  se : ∃ S, mg "SlotError" = some (.ref S) ∧ PySem.W.kitOne K (.ref C) (.ref S) = some true ∧ PySem.W.exmOne K (.ref C) (.ref S) = some true
  c0 : ∃ D, mg "NoJobs" = some (.ref D) ∧ PySem.W.kitOne K (.ref C) (.ref D) = some (decide (0 = i))
  c1 : ∃ D, mg "NoRule" = some (.ref D) ∧ PySem.W.kitOne K (.ref C) (.ref D) = some (decide (1 = i))
  c2 : ∃ D, mg "NoLengths" = some (.ref D) ∧ PySem.W.kitOne K (.ref C) (.ref D) = some (decide (2 = i))
  c3 : ∃ D, mg "NoLog" = some (.ref D) ∧ PySem.W.kitOne K (.ref C) (.ref D) = some (decide (3 = i))
  c4 : ∃ D, mg "NoMarks" = some (.ref D) ∧ PySem.W.kitOne K (.ref C) (.ref D) = some (decide (4 = i))
  c5 : ∃ D, mg "NoNamed" = some (.ref D) ∧ PySem.W.kitOne K (.ref C) (.ref D) = some (decide (5 = i))
  c6 : ∃ D, mg "NoOrder" = some (.ref D) ∧ PySem.W.kitOne K (.ref C) (.ref D) = some (decide (6 = i))
  c7 : ∃ D, mg "NoText" = some (.ref D) ∧ PySem.W.kitOne K (.ref C) (.ref D) = some (decide (7 = i))
  c8 : ∃ D, mg "NoNumber" = some (.ref D) ∧ PySem.W.kitOne K (.ref C) (.ref D) = some (decide (8 = i))
  c9 : ∃ D, mg "NoName" = some (.ref D) ∧ PySem.W.kitOne K (.ref C) (.ref D) = some (decide (9 = i))
  c10 : ∃ D, mg "NoUndo" = some (.ref D) ∧ PySem.W.kitOne K (.ref C) (.ref D) = some (decide (10 = i))
  c11 : ∃ D, mg "NoLine" = some (.ref D) ∧ PySem.W.kitOne K (.ref C) (.ref D) = some (decide (11 = i))
section
variable {P : Program} {w : World} {K : PySem.W.Frag} {mg : Str → Option Value} {base : Heap}
def spKind (C : Addr) (i : Nat) : Sp := fun vs H Q _ => ∃ (a dd : Addr) (v : V), vs = [.ref a] ∧ H a = some (Xco a (.ref C) (some dd)) ∧ H dd = some (.xd [(("place" : Str), v)]) ∧
  ∀ (t : Addr) (H' : Hp), Same H H' → H' t = some (.tup [.str (words7.getD i ""), v]) → Q (.ref t) H'
theorem scKind : FnScope ["caught", "kinds", "at"] ["caught"] (defScope sKind) := ⟨rfl, rfl, rfl, by decide +kernel, rfl, by decide +kernel, by decide +kernel⟩
theorem ok_kind {C : Addr} {i : Nat} (hi : i < 7) (D : Df K mg "_law_kind" sKind ["caught"]) (B : Blt mg) (N : Kn K mg C i) : Cl P w K mg base CX0 1 "_law_kind" ["caught"] (spKind C i) := by
  refine cl0 D scKind (fun vs H Q E h => ?_) (fun f cdv A outer s H vs Q E hr h => ?_)
  · obtain ⟨a, dd, v, rfl, _⟩ := h
    rfl
  · obtain ⟨a, dd, v, rfl, ha, hdd, k⟩ := h
    obtain ⟨S, mS, kS, _⟩ := N.se
    obtain ⟨D0, m0, k0⟩ := N.c0
    obtain ⟨D1, m1, k1⟩ := N.c1
    obtain ⟨D2, m2, k2⟩ := N.c2
    obtain ⟨D3, m3, k3⟩ := N.c3
    obtain ⟨D4, m4, k4⟩ := N.c4
    obtain ⟨D5, m5, k5⟩ := N.c5
    obtain ⟨D6, m6, k6⟩ := N.c6
    obtain ⟨D7, m7, k7⟩ := N.c7
    obtain ⟨D8, m8, k8⟩ := N.c8
    obtain ⟨D9, m9, k9⟩ := N.c9
    obtain ⟨D10, m10, k10⟩ := N.c10
    obtain ⟨D11, m11, k11⟩ := N.c11
    refine ⟨_, pss_cons (ps_set (i := 1) scKind.nd rfl (Or.inl rfl) (pe_lst (pa_cons (pe_callB call_isX (by rfl) B.isi (by decide +kernel) (pa_cons (pv 0) (pa_cons (pe_glob rfl m0 (show RelV (.ref _) _ from rfl)) pa_nil))) (pa_cons (pe_callB call_isX (by rfl) B.isi (by decide +kernel) (pa_cons (pv 0) (pa_cons (pe_glob rfl m1 (show RelV (.ref _) _ from rfl)) pa_nil))) (pa_cons (pe_callB call_isX (by rfl) B.isi (by decide +kernel) (pa_cons (pv 0) (pa_cons (pe_glob rfl m2 (show RelV (.ref _) _ from rfl)) pa_nil))) pa_nil)))))
      (pss_cons (ps_set (i := 1) scKind.nd rfl (Or.inl rfl) (pe_op op_cat (pv 1) (pe_lst (pa_cons (pe_callB call_isX (by rfl) B.isi (by decide +kernel) (pa_cons (pv 0) (pa_cons (pe_glob rfl m3 (show RelV (.ref _) _ from rfl)) pa_nil))) (pa_cons (pe_callB call_isX (by rfl) B.isi (by decide +kernel) (pa_cons (pv 0) (pa_cons (pe_glob rfl m4 (show RelV (.ref _) _ from rfl)) pa_nil))) (pa_cons (pe_callB call_isX (by rfl) B.isi (by decide +kernel) (pa_cons (pv 0) (pa_cons (pe_glob rfl m5 (show RelV (.ref _) _ from rfl)) pa_nil))) pa_nil))))))
      (pss_cons (ps_set (i := 1) scKind.nd rfl (Or.inl rfl) (pe_op op_cat (pv 1) (pe_lst (pa_cons (pe_callB call_isX (by rfl) B.isi (by decide +kernel) (pa_cons (pv 0) (pa_cons (pe_glob rfl m6 (show RelV (.ref _) _ from rfl)) pa_nil))) (pa_cons (pe_callB call_isX (by rfl) B.isi (by decide +kernel) (pa_cons (pv 0) (pa_cons (pe_glob rfl m7 (show RelV (.ref _) _ from rfl)) pa_nil))) (pa_cons (pe_callB call_isX (by rfl) B.isi (by decide +kernel) (pa_cons (pv 0) (pa_cons (pe_glob rfl m8 (show RelV (.ref _) _ from rfl)) pa_nil))) pa_nil))))))
      (pss_cons (ps_set (i := 1) scKind.nd rfl (Or.inl rfl) (pe_op op_cat (pv 1) (pe_lst (pa_cons (pe_callB call_isX (by rfl) B.isi (by decide +kernel) (pa_cons (pv 0) (pa_cons (pe_glob rfl m9 (show RelV (.ref _) _ from rfl)) pa_nil))) (pa_cons (pe_callB call_isX (by rfl) B.isi (by decide +kernel) (pa_cons (pv 0) (pa_cons (pe_glob rfl m10 (show RelV (.ref _) _ from rfl)) pa_nil))) (pa_cons (pe_callB call_isX (by rfl) B.isi (by decide +kernel) (pa_cons (pv 0) (pa_cons (pe_glob rfl m11 (show RelV (.ref _) _ from rfl)) pa_nil))) pa_nil))))))
      (pss_cons (ps_if (PW.pt (pw_or (pt_not (pt_val (pe_callB call_isX (by rfl) B.isi (by decide +kernel) (pa_cons (pv 0) (pa_cons (pe_glob rfl mS (show RelV (.ref _) _ from rfl)) pa_nil))))) (pw_or (pt_not (pt_val (pe_callB call_isX (by rfl) B.isi (by decide +kernel) (pa_cons (pv 0) (pa_cons (pe_bltn (v := .ty "ValueError") (u := .type "ValueError") (by rfl) N.ve (by decide +kernel) rfl) pa_nil)))))
        (pw_or1 (pt_cmpR op_ne (pe_bm PySem.F.plainAttrs_list PySem.F.slot_list_count PySem.F.type_list_count mt_countV (pv 1) (pa_cons pe_bl pa_nil)) pe_int (nomark _)))))) (pss_one (ps_ret (pe_tup (pa_cons pe_str (pa_cons pe_int pa_nil))))) pss_nil)
      (pss_cons (ps_set (i := 2) scKind.nd rfl (Or.inl rfl) (pe_bm PySem.F.plainAttrs_list PySem.F.slot_list_index PySem.F.type_list_index mt_index (pv 1) (pa_cons pe_bl pa_nil)))
      (pss_cons (ps_if (pt_cmpR op_lt (pv 2) pe_int (nomark _)) (pss_one (ps_ret (pe_tup (pa_cons (pe_ix ix_list (pe_lst (pa_cons pe_str (pa_cons pe_str (pa_cons pe_str (pa_cons pe_str (pa_cons pe_str (pa_cons pe_str (pa_cons pe_str pa_nil)))))))) (pv 2) (fun _ _ => rfl)) (pa_cons (pe_xp (pv 0)) pa_nil))))) pss_nil)
      (pss_cons ps_never (pss_cons ps_never (pss_cons ps_never (pss_one ps_never)))))))))), ?_⟩
    refine ⟨_, rfl, a, C, some dd, _, _, _, rfl, (Same.refl H).at ha, (fun d2 e2 => by cases e2; exact ⟨_, (Same.refl H).at hdd⟩), N.ex, .own _, k0,
      _, rfl, a, C, some dd, _, _, _, rfl, (Same.refl H).at ha, (fun d2 e2 => by cases e2; exact ⟨_, (Same.refl H).at hdd⟩), N.ex, .own _, k1,
      _, rfl, a, C, some dd, _, _, _, rfl, (Same.refl H).at ha, (fun d2 e2 => by cases e2; exact ⟨_, (Same.refl H).at hdd⟩), N.ex, .own _, k2, (by show 3 ≤ sizeLine; decide), fun p1 n1 => ?_⟩
    have s1 := same_new (o := .lst [.bl (decide (0 = i)), .bl (decide (1 = i)), .bl (decide (2 = i))]) n1
    refine ⟨_, rfl, _, rfl, a, C, some dd, _, _, _, rfl, s1.at ha, (fun d2 e2 => by cases e2; exact ⟨_, s1.at hdd⟩), N.ex, .own _, k3,
      _, rfl, a, C, some dd, _, _, _, rfl, s1.at ha, (fun d2 e2 => by cases e2; exact ⟨_, s1.at hdd⟩), N.ex, .own _, k4,
      _, rfl, a, C, some dd, _, _, _, rfl, s1.at ha, (fun d2 e2 => by cases e2; exact ⟨_, s1.at hdd⟩), N.ex, .own _, k5, (by show 3 ≤ sizeLine; decide), fun q1 m1' => ?_⟩
    have t1 := same_new (o := .lst [.bl (decide (3 = i)), .bl (decide (4 = i)), .bl (decide (5 = i))]) m1'
    refine ⟨p1, q1, _, _, rfl, rfl, t1.at upd_same, upd_same, (by show 3 + 3 ≤ sizeLine; decide), fun p2 n2 => ?_⟩
    have s2 := (s1.trans t1).trans (same_new (o := .lst ([.bl (decide (0 = i)), .bl (decide (1 = i)), .bl (decide (2 = i))] ++ [.bl (decide (3 = i)), .bl (decide (4 = i)), .bl (decide (5 = i))])) n2)
    refine ⟨_, rfl, _, rfl, a, C, some dd, _, _, _, rfl, s2.at ha, (fun d2 e2 => by cases e2; exact ⟨_, s2.at hdd⟩), N.ex, .own _, k6,
      _, rfl, a, C, some dd, _, _, _, rfl, s2.at ha, (fun d2 e2 => by cases e2; exact ⟨_, s2.at hdd⟩), N.ex, .own _, k7,
      _, rfl, a, C, some dd, _, _, _, rfl, s2.at ha, (fun d2 e2 => by cases e2; exact ⟨_, s2.at hdd⟩), N.ex, .own _, k8, (by show 3 ≤ sizeLine; decide), fun q2 m2' => ?_⟩
    have t2 := same_new (o := .lst [.bl (decide (6 = i)), .bl (decide (7 = i)), .bl (decide (8 = i))]) m2'
    refine ⟨p2, q2, _, _, rfl, rfl, t2.at upd_same, upd_same, (by show 6 + 3 ≤ sizeLine; decide), fun p3 n3 => ?_⟩
    have s3 := (s2.trans t2).trans (same_new (o := .lst (([.bl (decide (0 = i)), .bl (decide (1 = i)), .bl (decide (2 = i))] ++ [.bl (decide (3 = i)), .bl (decide (4 = i)), .bl (decide (5 = i))]) ++ [.bl (decide (6 = i)), .bl (decide (7 = i)), .bl (decide (8 = i))])) n3)
    refine ⟨_, rfl, _, rfl, a, C, some dd, _, _, _, rfl, s3.at ha, (fun d2 e2 => by cases e2; exact ⟨_, s3.at hdd⟩), N.ex, .own _, k9,
      _, rfl, a, C, some dd, _, _, _, rfl, s3.at ha, (fun d2 e2 => by cases e2; exact ⟨_, s3.at hdd⟩), N.ex, .own _, k10,
      _, rfl, a, C, some dd, _, _, _, rfl, s3.at ha, (fun d2 e2 => by cases e2; exact ⟨_, s3.at hdd⟩), N.ex, .own _, k11, (by show 3 ≤ sizeLine; decide), fun q3 m3' => ?_⟩
    have t3 := same_new (o := .lst [.bl (decide (9 = i)), .bl (decide (10 = i)), .bl (decide (11 = i))]) m3'
    refine ⟨p3, q3, _, _, rfl, rfl, t3.at upd_same, upd_same, (by show 9 + 3 ≤ sizeLine; decide), fun p4 n4 => ?_⟩
    have s4 := (s3.trans t3).trans (same_new (o := .lst ((([.bl (decide (0 = i)), .bl (decide (1 = i)), .bl (decide (2 = i))] ++ [.bl (decide (3 = i)), .bl (decide (4 = i)), .bl (decide (5 = i))]) ++ [.bl (decide (6 = i)), .bl (decide (7 = i)), .bl (decide (8 = i))]) ++ [.bl (decide (9 = i)), .bl (decide (10 = i)), .bl (decide (11 = i))])) n4)
    have e12 : ((([.bl (decide (0 = i)), .bl (decide (1 = i)), .bl (decide (2 = i))] ++ [.bl (decide (3 = i)), .bl (decide (4 = i)), .bl (decide (5 = i))]) ++ [.bl (decide (6 = i)), .bl (decide (7 = i)), .bl (decide (8 = i))]) ++ [.bl (decide (9 = i)), .bl (decide (10 = i)), .bl (decide (11 = i))]) = bits i := rfl
    refine ⟨_, rfl, a, C, some dd, _, _, _, rfl, s4.at ha, (fun d2 e2 => by cases e2; exact ⟨_, s4.at hdd⟩), N.ex, .own _, kS, _, rfl, iteF ?_⟩
    refine ⟨_, rfl, a, C, some dd, _, _, _, rfl, s4.at ha, (fun d2 e2 => by cases e2; exact ⟨_, s4.at hdd⟩), N.ex, .ty "ValueError", N.kv, _, rfl, iteF ?_⟩
    refine ⟨_, rfl, .inl ⟨rfl, _, SqL.of upd_same⟩, p4, _, _, rfl, rfl, SqL.of upd_same, rfl, ?_, ?_⟩
    · rw [e12]
      exact bits_flat i
    rw [e12]
    have ec : (bits i).countP (fun z => eqV z (.bl true)) = 1 := bits_cnt ⟨i, by omega⟩
    rw [ec]
    refine ⟨rfl, _, rfl, iteF ?_⟩
    refine ⟨_, rfl, .inl ⟨rfl, _, SqL.of upd_same⟩, p4, _, _, i, .bl (decide (i = i)), rfl, rfl, SqL.of upd_same, rfl, bits_flat i, bits_get (by omega), by rw [decide_eq_true rfl]; rfl, fun m z' hm hz => ?_, ?_⟩
    · rw [bits_get (by omega)] at hz
      cases hz
      rw [decide_eq_false (by omega)]
      rfl
    refine ⟨_, rfl, _, _, rfl, rfl, _, rfl, ?_⟩
    rw [decide_eq_true (show (i : Int) < 7 by omega)]
    refine iteT ⟨(by show 7 ≤ sizeLine; decide), fun l nl => ?_⟩
    have s5 := s4.trans (same_new (o := .lst (words7.map V.str)) nl)
    have ew : (words7.map V.str)[i]? = some (.str (words7.getD i "")) := by
      rw [List.getElem?_map, List.getD_eq_getElem?_getD]
      have hl : i < words7.length := hi
      rw [List.getElem?_eq_getElem hl]
      rfl
    refine ⟨_, rfl, l, _, _, _, rfl, rfl, SqL.of upd_same, atI_nat ew, _, rfl, a, C, dd, _, v, rfl, s5.at ha, s5.at hdd, by simp [List.lookup], N.xf, N.noP, (by show 2 ≤ sizeLine; decide), fun t nt => ?_⟩
    exact k t _ (s5.trans (same_new nt)) upd_same
end
end Vk
set_option maxHeartbeats 8000000
namespace Vk
open PySem PySem.Spec PyProof.Rows L2
section
variable {P : Program} {w : World} {K : PySem.W.Frag} {mg : Str → Option Value} {base : Heap}
def spKind9 (C : Addr) : Sp := fun vs H Q _ => ∃ (a dd : Addr) (v : V), vs = [.ref a] ∧ H a = some (Xco a (.ref C) (some dd)) ∧ H dd = some (.xd [("name", v)]) ∧
  ∀ (t : Addr) (H' : Hp), Same H H' → H' t = some (.tup [.str "name", v]) → Q (.ref t) H'
theorem ok_kind9 {C : Addr} {i : Nat} (h9 : i = 9) (D : Df K mg "_law_kind" sKind ["caught"]) (B : Blt mg) (N : Kn K mg C i) (noN : PySem.W.findIn K (.ref C) "name" = some none) : Cl P w K mg base CX0 1 "_law_kind" ["caught"] (spKind9 C) := by
  refine cl0 D scKind (fun vs H Q E h => ?_) (fun f cdv A outer s H vs Q E hr h => ?_)
  · obtain ⟨a, dd, v, rfl, _⟩ := h
    rfl
  obtain ⟨a, dd, v, rfl, ha, hdd, k⟩ := h
  obtain ⟨S, mS, kS, _⟩ := N.se
  obtain ⟨D0, m0, k0⟩ := N.c0
  obtain ⟨D1, m1, k1⟩ := N.c1
  obtain ⟨D2, m2, k2⟩ := N.c2
  obtain ⟨D3, m3, k3⟩ := N.c3
  obtain ⟨D4, m4, k4⟩ := N.c4
  obtain ⟨D5, m5, k5⟩ := N.c5
  obtain ⟨D6, m6, k6⟩ := N.c6
  obtain ⟨D7, m7, k7⟩ := N.c7
  obtain ⟨D8, m8, k8⟩ := N.c8
  obtain ⟨D9, m9, k9⟩ := N.c9
  obtain ⟨D10, m10, k10⟩ := N.c10
  obtain ⟨D11, m11, k11⟩ := N.c11
  refine ⟨_, pss_cons (ps_set (i := 1) scKind.nd rfl (Or.inl rfl) (pe_lst (pa_cons (pe_callB call_isX (by rfl) B.isi (by decide +kernel) (pa_cons (pv 0) (pa_cons (pe_glob rfl m0 (show RelV (.ref _) _ from rfl)) pa_nil))) (pa_cons (pe_callB call_isX (by rfl) B.isi (by decide +kernel) (pa_cons (pv 0) (pa_cons (pe_glob rfl m1 (show RelV (.ref _) _ from rfl)) pa_nil))) (pa_cons (pe_callB call_isX (by rfl) B.isi (by decide +kernel) (pa_cons (pv 0) (pa_cons (pe_glob rfl m2 (show RelV (.ref _) _ from rfl)) pa_nil))) pa_nil)))))
    (pss_cons (ps_set (i := 1) scKind.nd rfl (Or.inl rfl) (pe_op op_cat (pv 1) (pe_lst (pa_cons (pe_callB call_isX (by rfl) B.isi (by decide +kernel) (pa_cons (pv 0) (pa_cons (pe_glob rfl m3 (show RelV (.ref _) _ from rfl)) pa_nil))) (pa_cons (pe_callB call_isX (by rfl) B.isi (by decide +kernel) (pa_cons (pv 0) (pa_cons (pe_glob rfl m4 (show RelV (.ref _) _ from rfl)) pa_nil))) (pa_cons (pe_callB call_isX (by rfl) B.isi (by decide +kernel) (pa_cons (pv 0) (pa_cons (pe_glob rfl m5 (show RelV (.ref _) _ from rfl)) pa_nil))) pa_nil))))))
    (pss_cons (ps_set (i := 1) scKind.nd rfl (Or.inl rfl) (pe_op op_cat (pv 1) (pe_lst (pa_cons (pe_callB call_isX (by rfl) B.isi (by decide +kernel) (pa_cons (pv 0) (pa_cons (pe_glob rfl m6 (show RelV (.ref _) _ from rfl)) pa_nil))) (pa_cons (pe_callB call_isX (by rfl) B.isi (by decide +kernel) (pa_cons (pv 0) (pa_cons (pe_glob rfl m7 (show RelV (.ref _) _ from rfl)) pa_nil))) (pa_cons (pe_callB call_isX (by rfl) B.isi (by decide +kernel) (pa_cons (pv 0) (pa_cons (pe_glob rfl m8 (show RelV (.ref _) _ from rfl)) pa_nil))) pa_nil))))))
    (pss_cons (ps_set (i := 1) scKind.nd rfl (Or.inl rfl) (pe_op op_cat (pv 1) (pe_lst (pa_cons (pe_callB call_isX (by rfl) B.isi (by decide +kernel) (pa_cons (pv 0) (pa_cons (pe_glob rfl m9 (show RelV (.ref _) _ from rfl)) pa_nil))) (pa_cons (pe_callB call_isX (by rfl) B.isi (by decide +kernel) (pa_cons (pv 0) (pa_cons (pe_glob rfl m10 (show RelV (.ref _) _ from rfl)) pa_nil))) (pa_cons (pe_callB call_isX (by rfl) B.isi (by decide +kernel) (pa_cons (pv 0) (pa_cons (pe_glob rfl m11 (show RelV (.ref _) _ from rfl)) pa_nil))) pa_nil))))))
    (pss_cons (ps_if (PW.pt (pw_or (pt_not (pt_val (pe_callB call_isX (by rfl) B.isi (by decide +kernel) (pa_cons (pv 0) (pa_cons (pe_glob rfl mS (show RelV (.ref _) _ from rfl)) pa_nil))))) (pw_or (pt_not (pt_val (pe_callB call_isX (by rfl) B.isi (by decide +kernel) (pa_cons (pv 0) (pa_cons (pe_bltn (v := .ty "ValueError") (u := .type "ValueError") (by rfl) N.ve (by decide +kernel) rfl) pa_nil)))))
      (pw_or1 (pt_cmpR op_ne (pe_bm PySem.F.plainAttrs_list PySem.F.slot_list_count PySem.F.type_list_count mt_countV (pv 1) (pa_cons pe_bl pa_nil)) pe_int (nomark _)))))) (pss_one (ps_ret (pe_tup (pa_cons pe_str (pa_cons pe_int pa_nil))))) pss_nil)
    (pss_cons (ps_set (i := 2) scKind.nd rfl (Or.inl rfl) (pe_bm PySem.F.plainAttrs_list PySem.F.slot_list_index PySem.F.type_list_index mt_index (pv 1) (pa_cons pe_bl pa_nil)))
    (pss_cons (ps_if (pt_cmpR op_lt (pv 2) pe_int (nomark _)) (pss_one ps_never) pss_nil)
    (pss_cons (ps_if (pt_cmpR op_eq (pv 2) pe_int (nomark _)) (pss_one ps_never) pss_nil) (pss_cons (ps_if (pt_cmpR op_eq (pv 2) pe_int (nomark _)) (pss_one ps_never) pss_nil) (pss_cons (ps_if (pt_cmpR op_eq (pv 2) pe_int (nomark _)) (pss_one (ps_ret (pe_tup (pa_cons pe_str (pa_cons (pe_xp (pv 0)) pa_nil))))) pss_nil) (pss_one ps_never)))))))))), ?_⟩
  refine ⟨_, rfl, a, C, some dd, _, _, _, rfl, (Same.refl H).at ha, (fun d2 e2 => by cases e2; exact ⟨_, (Same.refl H).at hdd⟩), N.ex, .own _, k0,
    _, rfl, a, C, some dd, _, _, _, rfl, (Same.refl H).at ha, (fun d2 e2 => by cases e2; exact ⟨_, (Same.refl H).at hdd⟩), N.ex, .own _, k1,
    _, rfl, a, C, some dd, _, _, _, rfl, (Same.refl H).at ha, (fun d2 e2 => by cases e2; exact ⟨_, (Same.refl H).at hdd⟩), N.ex, .own _, k2, (by show 3 ≤ sizeLine; decide), fun p1 n1 => ?_⟩
  have s1 := same_new (o := .lst [.bl (decide (0 = i)), .bl (decide (1 = i)), .bl (decide (2 = i))]) n1
  refine ⟨_, rfl, _, rfl, a, C, some dd, _, _, _, rfl, s1.at ha, (fun d2 e2 => by cases e2; exact ⟨_, s1.at hdd⟩), N.ex, .own _, k3,
    _, rfl, a, C, some dd, _, _, _, rfl, s1.at ha, (fun d2 e2 => by cases e2; exact ⟨_, s1.at hdd⟩), N.ex, .own _, k4,
    _, rfl, a, C, some dd, _, _, _, rfl, s1.at ha, (fun d2 e2 => by cases e2; exact ⟨_, s1.at hdd⟩), N.ex, .own _, k5, (by show 3 ≤ sizeLine; decide), fun q1 m1' => ?_⟩
  have t1 := same_new (o := .lst [.bl (decide (3 = i)), .bl (decide (4 = i)), .bl (decide (5 = i))]) m1'
  refine ⟨p1, q1, _, _, rfl, rfl, t1.at upd_same, upd_same, (by show 3 + 3 ≤ sizeLine; decide), fun p2 n2 => ?_⟩
  have s2 := (s1.trans t1).trans (same_new (o := .lst ([.bl (decide (0 = i)), .bl (decide (1 = i)), .bl (decide (2 = i))] ++ [.bl (decide (3 = i)), .bl (decide (4 = i)), .bl (decide (5 = i))])) n2)
  refine ⟨_, rfl, _, rfl, a, C, some dd, _, _, _, rfl, s2.at ha, (fun d2 e2 => by cases e2; exact ⟨_, s2.at hdd⟩), N.ex, .own _, k6,
    _, rfl, a, C, some dd, _, _, _, rfl, s2.at ha, (fun d2 e2 => by cases e2; exact ⟨_, s2.at hdd⟩), N.ex, .own _, k7,
    _, rfl, a, C, some dd, _, _, _, rfl, s2.at ha, (fun d2 e2 => by cases e2; exact ⟨_, s2.at hdd⟩), N.ex, .own _, k8, (by show 3 ≤ sizeLine; decide), fun q2 m2' => ?_⟩
  have t2 := same_new (o := .lst [.bl (decide (6 = i)), .bl (decide (7 = i)), .bl (decide (8 = i))]) m2'
  refine ⟨p2, q2, _, _, rfl, rfl, t2.at upd_same, upd_same, (by show 6 + 3 ≤ sizeLine; decide), fun p3 n3 => ?_⟩
  have s3 := (s2.trans t2).trans (same_new (o := .lst (([.bl (decide (0 = i)), .bl (decide (1 = i)), .bl (decide (2 = i))] ++ [.bl (decide (3 = i)), .bl (decide (4 = i)), .bl (decide (5 = i))]) ++ [.bl (decide (6 = i)), .bl (decide (7 = i)), .bl (decide (8 = i))])) n3)
  refine ⟨_, rfl, _, rfl, a, C, some dd, _, _, _, rfl, s3.at ha, (fun d2 e2 => by cases e2; exact ⟨_, s3.at hdd⟩), N.ex, .own _, k9,
    _, rfl, a, C, some dd, _, _, _, rfl, s3.at ha, (fun d2 e2 => by cases e2; exact ⟨_, s3.at hdd⟩), N.ex, .own _, k10,
    _, rfl, a, C, some dd, _, _, _, rfl, s3.at ha, (fun d2 e2 => by cases e2; exact ⟨_, s3.at hdd⟩), N.ex, .own _, k11, (by show 3 ≤ sizeLine; decide), fun q3 m3' => ?_⟩
  have t3 := same_new (o := .lst [.bl (decide (9 = i)), .bl (decide (10 = i)), .bl (decide (11 = i))]) m3'
  refine ⟨p3, q3, _, _, rfl, rfl, t3.at upd_same, upd_same, (by show 9 + 3 ≤ sizeLine; decide), fun p4 n4 => ?_⟩
  have s4 := (s3.trans t3).trans (same_new (o := .lst ((([.bl (decide (0 = i)), .bl (decide (1 = i)), .bl (decide (2 = i))] ++ [.bl (decide (3 = i)), .bl (decide (4 = i)), .bl (decide (5 = i))]) ++ [.bl (decide (6 = i)), .bl (decide (7 = i)), .bl (decide (8 = i))]) ++ [.bl (decide (9 = i)), .bl (decide (10 = i)), .bl (decide (11 = i))])) n4)
  have e12 : ((([.bl (decide (0 = i)), .bl (decide (1 = i)), .bl (decide (2 = i))] ++ [.bl (decide (3 = i)), .bl (decide (4 = i)), .bl (decide (5 = i))]) ++ [.bl (decide (6 = i)), .bl (decide (7 = i)), .bl (decide (8 = i))]) ++ [.bl (decide (9 = i)), .bl (decide (10 = i)), .bl (decide (11 = i))]) = bits i := rfl
  refine ⟨_, rfl, a, C, some dd, _, _, _, rfl, s4.at ha, (fun d2 e2 => by cases e2; exact ⟨_, s4.at hdd⟩), N.ex, .own _, kS, _, rfl, iteF ?_⟩
  refine ⟨_, rfl, a, C, some dd, _, _, _, rfl, s4.at ha, (fun d2 e2 => by cases e2; exact ⟨_, s4.at hdd⟩), N.ex, .ty "ValueError", N.kv, _, rfl, iteF ?_⟩
  refine ⟨_, rfl, .inl ⟨rfl, _, SqL.of upd_same⟩, p4, _, _, rfl, rfl, SqL.of upd_same, rfl, ?_, ?_⟩
  · rw [e12]
    exact bits_flat i
  rw [e12]
  have ec : (bits i).countP (fun z => eqV z (.bl true)) = 1 := bits_cnt ⟨i, by omega⟩
  rw [ec]
  refine ⟨rfl, _, rfl, iteF ?_⟩
  refine ⟨_, rfl, .inl ⟨rfl, _, SqL.of upd_same⟩, p4, _, _, i, .bl (decide (i = i)), rfl, rfl, SqL.of upd_same, rfl, bits_flat i, bits_get (by omega), by rw [decide_eq_true rfl]; rfl, fun m z' hm hz => ?_, ?_⟩
  · rw [bits_get (by omega)] at hz
    cases hz
    rw [decide_eq_false (by omega)]
    rfl
  refine ⟨_, rfl, _, _, rfl, rfl, _, rfl, ?_⟩
  rw [decide_eq_false (show ¬ (i : Int) < 7 by omega)]
  refine iteF ⟨_, rfl, rfl, _, rfl, ?_⟩
  rw [show decide (V.int (i : Int) = V.int 7) = false from decide_eq_false (fun z => by have z2 := V.int.inj z; omega)]
  refine iteF ⟨_, rfl, rfl, _, rfl, ?_⟩
  rw [show decide (V.int (i : Int) = V.int 8) = false from decide_eq_false (fun z => by have z2 := V.int.inj z; omega)]
  refine iteF ⟨_, rfl, rfl, _, rfl, ?_⟩
  rw [show decide (V.int (i : Int) = V.int 9) = true from decide_eq_true (by rw [h9]; rfl)]
  refine iteT ⟨_, rfl, a, C, dd, _, v, rfl, s4.at ha, s4.at hdd, by simp [List.lookup], N.xf, noN, (by show 2 ≤ sizeLine; decide), fun t nt => ?_⟩
  exact k t _ (s4.trans (same_new nt)) upd_same
def spKind10 (C : Addr) : Sp := fun vs H Q _ => ∃ (a : Addr), vs = [.ref a] ∧ H a = some (Xco a (.ref C) none) ∧
  ∀ (t : Addr) (H' : Hp), Same H H' → H' t = some (.tup [.str "undo", .int 0]) → Q (.ref t) H'
theorem ok_kind10 {C : Addr} {i : Nat} (h10 : i = 10) (D : Df K mg "_law_kind" sKind ["caught"]) (B : Blt mg) (N : Kn K mg C i) : Cl P w K mg base CX0 1 "_law_kind" ["caught"] (spKind10 C) := by
  refine cl0 D scKind (fun vs H Q E h => ?_) (fun f cdv A outer s H vs Q E hr h => ?_)
  · obtain ⟨a, rfl, _⟩ := h
    rfl
  obtain ⟨a, rfl, ha, k⟩ := h
  obtain ⟨S, mS, kS, _⟩ := N.se
  obtain ⟨D0, m0, k0⟩ := N.c0
  obtain ⟨D1, m1, k1⟩ := N.c1
  obtain ⟨D2, m2, k2⟩ := N.c2
  obtain ⟨D3, m3, k3⟩ := N.c3
  obtain ⟨D4, m4, k4⟩ := N.c4
  obtain ⟨D5, m5, k5⟩ := N.c5
  obtain ⟨D6, m6, k6⟩ := N.c6
  obtain ⟨D7, m7, k7⟩ := N.c7
  obtain ⟨D8, m8, k8⟩ := N.c8
  obtain ⟨D9, m9, k9⟩ := N.c9
  obtain ⟨D10, m10, k10⟩ := N.c10
  obtain ⟨D11, m11, k11⟩ := N.c11
  refine ⟨_, pss_cons (ps_set (i := 1) scKind.nd rfl (Or.inl rfl) (pe_lst (pa_cons (pe_callB call_isX (by rfl) B.isi (by decide +kernel) (pa_cons (pv 0) (pa_cons (pe_glob rfl m0 (show RelV (.ref _) _ from rfl)) pa_nil))) (pa_cons (pe_callB call_isX (by rfl) B.isi (by decide +kernel) (pa_cons (pv 0) (pa_cons (pe_glob rfl m1 (show RelV (.ref _) _ from rfl)) pa_nil))) (pa_cons (pe_callB call_isX (by rfl) B.isi (by decide +kernel) (pa_cons (pv 0) (pa_cons (pe_glob rfl m2 (show RelV (.ref _) _ from rfl)) pa_nil))) pa_nil)))))
    (pss_cons (ps_set (i := 1) scKind.nd rfl (Or.inl rfl) (pe_op op_cat (pv 1) (pe_lst (pa_cons (pe_callB call_isX (by rfl) B.isi (by decide +kernel) (pa_cons (pv 0) (pa_cons (pe_glob rfl m3 (show RelV (.ref _) _ from rfl)) pa_nil))) (pa_cons (pe_callB call_isX (by rfl) B.isi (by decide +kernel) (pa_cons (pv 0) (pa_cons (pe_glob rfl m4 (show RelV (.ref _) _ from rfl)) pa_nil))) (pa_cons (pe_callB call_isX (by rfl) B.isi (by decide +kernel) (pa_cons (pv 0) (pa_cons (pe_glob rfl m5 (show RelV (.ref _) _ from rfl)) pa_nil))) pa_nil))))))
    (pss_cons (ps_set (i := 1) scKind.nd rfl (Or.inl rfl) (pe_op op_cat (pv 1) (pe_lst (pa_cons (pe_callB call_isX (by rfl) B.isi (by decide +kernel) (pa_cons (pv 0) (pa_cons (pe_glob rfl m6 (show RelV (.ref _) _ from rfl)) pa_nil))) (pa_cons (pe_callB call_isX (by rfl) B.isi (by decide +kernel) (pa_cons (pv 0) (pa_cons (pe_glob rfl m7 (show RelV (.ref _) _ from rfl)) pa_nil))) (pa_cons (pe_callB call_isX (by rfl) B.isi (by decide +kernel) (pa_cons (pv 0) (pa_cons (pe_glob rfl m8 (show RelV (.ref _) _ from rfl)) pa_nil))) pa_nil))))))
    (pss_cons (ps_set (i := 1) scKind.nd rfl (Or.inl rfl) (pe_op op_cat (pv 1) (pe_lst (pa_cons (pe_callB call_isX (by rfl) B.isi (by decide +kernel) (pa_cons (pv 0) (pa_cons (pe_glob rfl m9 (show RelV (.ref _) _ from rfl)) pa_nil))) (pa_cons (pe_callB call_isX (by rfl) B.isi (by decide +kernel) (pa_cons (pv 0) (pa_cons (pe_glob rfl m10 (show RelV (.ref _) _ from rfl)) pa_nil))) (pa_cons (pe_callB call_isX (by rfl) B.isi (by decide +kernel) (pa_cons (pv 0) (pa_cons (pe_glob rfl m11 (show RelV (.ref _) _ from rfl)) pa_nil))) pa_nil))))))
    (pss_cons (ps_if (PW.pt (pw_or (pt_not (pt_val (pe_callB call_isX (by rfl) B.isi (by decide +kernel) (pa_cons (pv 0) (pa_cons (pe_glob rfl mS (show RelV (.ref _) _ from rfl)) pa_nil))))) (pw_or (pt_not (pt_val (pe_callB call_isX (by rfl) B.isi (by decide +kernel) (pa_cons (pv 0) (pa_cons (pe_bltn (v := .ty "ValueError") (u := .type "ValueError") (by rfl) N.ve (by decide +kernel) rfl) pa_nil)))))
      (pw_or1 (pt_cmpR op_ne (pe_bm PySem.F.plainAttrs_list PySem.F.slot_list_count PySem.F.type_list_count mt_countV (pv 1) (pa_cons pe_bl pa_nil)) pe_int (nomark _)))))) (pss_one (ps_ret (pe_tup (pa_cons pe_str (pa_cons pe_int pa_nil))))) pss_nil)
    (pss_cons (ps_set (i := 2) scKind.nd rfl (Or.inl rfl) (pe_bm PySem.F.plainAttrs_list PySem.F.slot_list_index PySem.F.type_list_index mt_index (pv 1) (pa_cons pe_bl pa_nil)))
    (pss_cons (ps_if (pt_cmpR op_lt (pv 2) pe_int (nomark _)) (pss_one ps_never) pss_nil)
    (pss_cons (ps_if (pt_cmpR op_eq (pv 2) pe_int (nomark _)) (pss_one ps_never) pss_nil) (pss_cons (ps_if (pt_cmpR op_eq (pv 2) pe_int (nomark _)) (pss_one ps_never) pss_nil) (pss_cons (ps_if (pt_cmpR op_eq (pv 2) pe_int (nomark _)) (pss_one ps_never) pss_nil) (pss_one (ps_ret (pe_tup (pa_cons (pe_ix ix_list (pe_lst (pa_cons pe_str (pa_cons pe_str pa_nil))) (pe_op op_sub (pv 2) pe_int) (fun _ _ => rfl)) (pa_cons pe_int pa_nil)))))))))))))), ?_⟩
  refine ⟨_, rfl, a, C, none, _, _, _, rfl, (Same.refl H).at ha, (fun d2 e2 => by cases e2), N.ex, .own _, k0,
    _, rfl, a, C, none, _, _, _, rfl, (Same.refl H).at ha, (fun d2 e2 => by cases e2), N.ex, .own _, k1,
    _, rfl, a, C, none, _, _, _, rfl, (Same.refl H).at ha, (fun d2 e2 => by cases e2), N.ex, .own _, k2, (by show 3 ≤ sizeLine; decide), fun p1 n1 => ?_⟩
  have s1 := same_new (o := .lst [.bl (decide (0 = i)), .bl (decide (1 = i)), .bl (decide (2 = i))]) n1
  refine ⟨_, rfl, _, rfl, a, C, none, _, _, _, rfl, s1.at ha, (fun d2 e2 => by cases e2), N.ex, .own _, k3,
    _, rfl, a, C, none, _, _, _, rfl, s1.at ha, (fun d2 e2 => by cases e2), N.ex, .own _, k4,
    _, rfl, a, C, none, _, _, _, rfl, s1.at ha, (fun d2 e2 => by cases e2), N.ex, .own _, k5, (by show 3 ≤ sizeLine; decide), fun q1 m1' => ?_⟩
  have t1 := same_new (o := .lst [.bl (decide (3 = i)), .bl (decide (4 = i)), .bl (decide (5 = i))]) m1'
  refine ⟨p1, q1, _, _, rfl, rfl, t1.at upd_same, upd_same, (by show 3 + 3 ≤ sizeLine; decide), fun p2 n2 => ?_⟩
  have s2 := (s1.trans t1).trans (same_new (o := .lst ([.bl (decide (0 = i)), .bl (decide (1 = i)), .bl (decide (2 = i))] ++ [.bl (decide (3 = i)), .bl (decide (4 = i)), .bl (decide (5 = i))])) n2)
  refine ⟨_, rfl, _, rfl, a, C, none, _, _, _, rfl, s2.at ha, (fun d2 e2 => by cases e2), N.ex, .own _, k6,
    _, rfl, a, C, none, _, _, _, rfl, s2.at ha, (fun d2 e2 => by cases e2), N.ex, .own _, k7,
    _, rfl, a, C, none, _, _, _, rfl, s2.at ha, (fun d2 e2 => by cases e2), N.ex, .own _, k8, (by show 3 ≤ sizeLine; decide), fun q2 m2' => ?_⟩
  have t2 := same_new (o := .lst [.bl (decide (6 = i)), .bl (decide (7 = i)), .bl (decide (8 = i))]) m2'
  refine ⟨p2, q2, _, _, rfl, rfl, t2.at upd_same, upd_same, (by show 6 + 3 ≤ sizeLine; decide), fun p3 n3 => ?_⟩
  have s3 := (s2.trans t2).trans (same_new (o := .lst (([.bl (decide (0 = i)), .bl (decide (1 = i)), .bl (decide (2 = i))] ++ [.bl (decide (3 = i)), .bl (decide (4 = i)), .bl (decide (5 = i))]) ++ [.bl (decide (6 = i)), .bl (decide (7 = i)), .bl (decide (8 = i))])) n3)
  refine ⟨_, rfl, _, rfl, a, C, none, _, _, _, rfl, s3.at ha, (fun d2 e2 => by cases e2), N.ex, .own _, k9,
    _, rfl, a, C, none, _, _, _, rfl, s3.at ha, (fun d2 e2 => by cases e2), N.ex, .own _, k10,
    _, rfl, a, C, none, _, _, _, rfl, s3.at ha, (fun d2 e2 => by cases e2), N.ex, .own _, k11, (by show 3 ≤ sizeLine; decide), fun q3 m3' => ?_⟩
  have t3 := same_new (o := .lst [.bl (decide (9 = i)), .bl (decide (10 = i)), .bl (decide (11 = i))]) m3'
  refine ⟨p3, q3, _, _, rfl, rfl, t3.at upd_same, upd_same, (by show 9 + 3 ≤ sizeLine; decide), fun p4 n4 => ?_⟩
  have s4 := (s3.trans t3).trans (same_new (o := .lst ((([.bl (decide (0 = i)), .bl (decide (1 = i)), .bl (decide (2 = i))] ++ [.bl (decide (3 = i)), .bl (decide (4 = i)), .bl (decide (5 = i))]) ++ [.bl (decide (6 = i)), .bl (decide (7 = i)), .bl (decide (8 = i))]) ++ [.bl (decide (9 = i)), .bl (decide (10 = i)), .bl (decide (11 = i))])) n4)
  have e12 : ((([.bl (decide (0 = i)), .bl (decide (1 = i)), .bl (decide (2 = i))] ++ [.bl (decide (3 = i)), .bl (decide (4 = i)), .bl (decide (5 = i))]) ++ [.bl (decide (6 = i)), .bl (decide (7 = i)), .bl (decide (8 = i))]) ++ [.bl (decide (9 = i)), .bl (decide (10 = i)), .bl (decide (11 = i))]) = bits i := rfl
  refine ⟨_, rfl, a, C, none, _, _, _, rfl, s4.at ha, (fun d2 e2 => by cases e2), N.ex, .own _, kS, _, rfl, iteF ?_⟩
  refine ⟨_, rfl, a, C, none, _, _, _, rfl, s4.at ha, (fun d2 e2 => by cases e2), N.ex, .ty "ValueError", N.kv, _, rfl, iteF ?_⟩
  refine ⟨_, rfl, .inl ⟨rfl, _, SqL.of upd_same⟩, p4, _, _, rfl, rfl, SqL.of upd_same, rfl, ?_, ?_⟩
  · rw [e12]
    exact bits_flat i
  rw [e12]
  have ec : (bits i).countP (fun z => eqV z (.bl true)) = 1 := bits_cnt ⟨i, by omega⟩
  rw [ec]
  refine ⟨rfl, _, rfl, iteF ?_⟩
  refine ⟨_, rfl, .inl ⟨rfl, _, SqL.of upd_same⟩, p4, _, _, i, .bl (decide (i = i)), rfl, rfl, SqL.of upd_same, rfl, bits_flat i, bits_get (by omega), by rw [decide_eq_true rfl]; rfl, fun m z' hm hz => ?_, ?_⟩
  · rw [bits_get (by omega)] at hz
    cases hz
    rw [decide_eq_false (by omega)]
    rfl
  refine ⟨_, rfl, _, _, rfl, rfl, _, rfl, ?_⟩
  rw [decide_eq_false (show ¬ (i : Int) < 7 by omega)]
  refine iteF ⟨_, rfl, rfl, _, rfl, ?_⟩
  rw [show decide (V.int (i : Int) = V.int 7) = false from decide_eq_false (fun z => by have z2 := V.int.inj z; omega)]
  refine iteF ⟨_, rfl, rfl, _, rfl, ?_⟩
  rw [show decide (V.int (i : Int) = V.int 8) = false from decide_eq_false (fun z => by have z2 := V.int.inj z; omega)]
  refine iteF ⟨_, rfl, rfl, _, rfl, ?_⟩
  rw [show decide (V.int (i : Int) = V.int 9) = false from decide_eq_false (fun z => by have z2 := V.int.inj z; omega)]
  refine iteF ⟨(by show 2 ≤ sizeLine; decide), fun l nl => ?_⟩
  have s5 := s4.trans (same_new (o := .lst [V.str "undo", .str "line"]) nl)
  refine ⟨_, rfl, _, _, rfl, rfl, l, _, _, _, rfl, rfl, SqL.of upd_same, (by rw [h10]; rfl), (by show 2 ≤ sizeLine; decide), fun t nt => ?_⟩
  exact k t _ (s5.trans (same_new nt)) upd_same
end
end Vk
set_option maxHeartbeats 4000000
/-! o.m(a, .., k = v) of a method with one keyword-only parameter -/
namespace Vk
open PySem PySem.Spec PyProof.Rows L2
def tMethK (C : Addr) (m : Str) (n : Nat) (sp : Sp) (E : XK) (ta : TE) (t tk : TA) : TE := fun σ H Q => ta σ H fun x H1 => ∃ a dx fs, x = .ref a ∧ H1 a = some (.ins C dx fs) ∧ fs.lookup m = none ∧ t σ H1 fun vs H2 => tk σ H2 fun zs H3 => vs.length = n ∧ zs.length = 1 ∧ sp (.ref a :: (vs ++ zs)) H3 Q E
section
variable {X : Cx} {CX : CXT} {k n : Nat} {f C : Addr} {fd : FuncData} {ps : List Str} {kn : Str} {sp : Sp} {E : XK} {m : Str} {pos apos : Pos} {e o : Expr} {es : List Expr} {kws : List Keyword} {ta : TE} {t tk : TA}
theorem pe_methK {pl : Sem Bool} (he : PE X o ta) (c : Cls X.K C) (hm : Meth X.K C m f) (F : FnOk X.prog X.w X.K X.mg X.base CX k f fd ps sp) (hr : Room k X.A) (kb : KBn X.K fd ps (n + 1) [kn] (fun us ws => us ++ ws) (fun vs zs => vs ++ zs)) (hx : Passes CX X E) (ha : PA X (e :: es) t) (kargs : PK X kws tk)
    (all1 : (backToKw pos (keywordEach kws X.env)).all (·.1.isSome) = true := by rfl) (names1 : (backToKw pos (keywordEach kws X.env)).filterMap (·.1) = [kn] := by rfl)
    (hst : starEach (e :: es) X.env = (false, eval e X.env) :: starEach es X.env := by rfl)
    (plain1 : ((backTo pos (starEach (e :: es) X.env)).any (·.1) || (backToKw pos (keywordEach kws X.env)).any (·.1.isNone)) = false := by rfl)
    (ht : eval (.Call (.Attribute o m apos) (e :: es) kws pos) X.env = (do
      let ov ← eval o X.env
      standAt apos.atName
      let (f, first) ← holding [ov] (getMethod ov m pl)
      callWith pos f first (backTo pos (starEach (e :: es) X.env)) (backToKw pos (keywordEach kws X.env))) := by rfl) :
    PE X (.Call (.Attribute o m apos) (e :: es) kws pos) (tMethK C m n sp E ta t tk) := by
  refine ⟨fun pins s σ H Q I h => ?_⟩
  refine PySem.W.methodCall_KW (pl := pl) (thn (he.run pins s σ H _ I h) fun u s1 ⟨x, H1, I1, rx, a, dx, fs, ex, ea, l, q⟩ => ?_) ht
  subst ex
  obtain rfl : u = Value.ref a := rx
  refine getmeth_ok I1 ea c hm l ?_
  refine PySem.W.callWith_KW (first := [.ref a]) (h₀ := X.base) I.ok.mod.kin hm.kp all1 (thn (ha.run pos pins s1 σ H1 _ I1 q) fun us s2 ⟨vs, H2, I2, rv, q2⟩ => ?_) plain1 hst
  refine thn (kargs.run pos pins s2 σ H2 _ I2 q2) fun ws s3 ⟨zs, H3, I3, rz, n1, n2, q3⟩ => ⟨I3.kIn, ?_⟩
  rw [names1]
  have rv' : Vals (.ref a :: vs) (.ref a :: us) := .cons rfl rv
  have len1 : (Value.ref a :: us).length = n + 1 := by rw [← rv'.length]; exact congrArg Nat.succ n1
  have len2 : ws.length = [kn].length := rz.length.symm.trans n2
  refine wpAny_call (codeAny_mono (F.run X.A X.stack s3 H3 ⟨.ref a :: us, [kn].zip ws⟩ ((.ref a :: us) ++ ws) ((.ref a :: vs) ++ zs) Q E hr I3.env0 (kb.to s3 (.ref a :: us) ws I3.kIn len1 len2) (kb.rel rv' rz) q3) fun r s' hq => ?_)
  cases r with
  | error er => exact hx pins σ H3 s3 er s' I3 hq
  | ok fl =>
    cases fl with
    | ret u => exact I3.after hq
    | next => exact False.elim hq
    | brk => exact False.elim hq
    | cont => exact False.elim hq
end
end Vk
set_option maxHeartbeats 4000000
/-! a method, a new instance: calls that may raise inside a try, with defaults -/
namespace Vk
open PySem PySem.Spec PyProof.Rows L2
section
variable {X : Cx} {CX : CXT} {k : Nat} {f C : Addr} {fd : FuncData} {ps : List Str} {sp : Sp} {dvs : List V} {ds : List Value} {E : L2.St → XK} {x m : Str} {p pos apos : Pos} {e o : Expr} {es : List Expr} {ta : TE} {t : TA}
theorem run_fnSD {pins : List (Addr × Obj)} {σ : L2.St} {H : Hp} {s : Shared} {Q : VK} {us : List Value} {vs : List V} (F : FnOk X.prog X.w X.K X.mg X.base CX k f fd ps sp) (hr : Room k X.A) (hb : Binds X.K fd ps ds) (hd : Vals dvs ds) (hx : PassesAt CX X σ (E σ))
    (I : Inv X pins σ H s) (r : Vals vs us) (h : sp (vs ++ dvs) H Q (E σ)) : wpAny (model X.prog X.w) X.A (call (.ref f) us) (EP X pins σ Q) X.xe s := by
  have r2 : Vals (vs ++ dvs) (us ++ ds) := r.append hd
  have hl : (us ++ ds).length = ps.length := by rw [← r2.length]; exact F.len _ _ _ _ h
  refine wpAny_call (codeAny_mono (F.run X.A X.stack s H ⟨us, []⟩ (us ++ ds) (vs ++ dvs) Q (E σ) hr I.env0 (hb s us I.kIn hl) r2 h) fun r s' hq => ?_)
  cases r with
  | error e => exact hx pins H s e s' I hq
  | ok fl =>
    cases fl with
    | ret u => exact I.after hq
    | next => exact False.elim hq
    | brk => exact False.elim hq
    | cont => exact False.elim hq
def tMethX (C : Addr) (m : Str) (sp : Sp) (dvs : List V) (E : L2.St → XK) (ta : TE) (t : TA) : TE := fun σ H Q => ta σ H fun x H1 => ∃ a dx fs, x = .ref a ∧ H1 a = some (.ins C dx fs) ∧ fs.lookup m = none ∧ t σ H1 fun vs H2 => sp (x :: (vs ++ dvs)) H2 Q (E σ)
theorem pe_methX {pl : Sem Bool} (he : PE X o ta) (c : Cls X.K C) (hm : Meth X.K C m f) (F : FnOk X.prog X.w X.K X.mg X.base CX k f fd ps sp) (hr : Room k X.A) (hb : Binds X.K fd ps ds) (hd : Vals dvs ds) (hx : ∀ σ, PassesAt CX X σ (E σ)) (ha : PA X (e :: es) t)
    (hst : starEach (e :: es) X.env = (false, eval e X.env) :: starEach es X.env := by rfl) (hpl : (backTo pos (starEach es X.env)).any (·.1) = false := by rfl)
    (ht : eval (.Call (.Attribute o m apos) (e :: es) [] pos) X.env = (do
      let ov ← eval o X.env
      standAt apos.atName
      let (f, first) ← holding [ov] (getMethod ov m pl)
      callWith pos f first (backTo pos (starEach (e :: es) X.env)) (backToKw pos (keywordEach [] X.env))) := by rfl) :
    PE X (.Call (.Attribute o m apos) (e :: es) [] pos) (tMethX C m sp dvs E ta t) := by
  refine ⟨fun pins s σ H Q I h => ?_⟩
  refine PySem.W.methodCall_KW (pl := pl) (thn (he.run pins s σ H _ I h) fun u s1 ⟨x, H1, I1, rx, a, dx, fs, ex, ea, l, q⟩ => ?_) ht
  subst ex
  obtain rfl : u = Value.ref a := rx
  refine getmeth_ok I1 ea c hm l ?_
  refine PySem.W.callWith_K (first := [.ref a]) (h₀ := X.base) I.ok.mod.kin hm.kp (thn (ha.run pos pins s1 σ H1 _ I1 q) fun us s2 ⟨vs, H2, I2, r, q2⟩ => ⟨I2.kIn, ?_⟩) hst hpl
  exact run_fnSD (us := .ref a :: us) (vs := .ref a :: vs) F hr hb hd (hx σ) I2 (.cons rfl r) q2
theorem pe_methX0 {pl : Sem Bool} (he : PE X o ta) (c : Cls X.K C) (hm : Meth X.K C m f) (F : FnOk X.prog X.w X.K X.mg X.base CX k f fd ps sp) (hr : Room k X.A) (hb : Binds X.K fd ps ds) (hd : Vals dvs ds) (hx : ∀ σ, PassesAt CX X σ (E σ))
    (ht : eval (.Call (.Attribute o m apos) [] [] pos) X.env = (do
      let ov ← eval o X.env
      standAt apos.atName
      let (f, first) ← holding [ov] (getMethod ov m pl)
      callWith pos f first (backTo pos (starEach [] X.env)) (backToKw pos (keywordEach [] X.env))) := by rfl) :
    PE X (.Call (.Attribute o m apos) [] [] pos) (tMethX C m sp dvs E ta tNil) := by
  refine ⟨fun pins s σ H Q I h => ?_⟩
  refine PySem.W.methodCall_KW (pl := pl) (thn (he.run pins s σ H _ I h) fun u s1 ⟨x, H1, I1, rx, a, dx, fs, ex, ea, l, q⟩ => ?_) ht
  subst ex
  obtain rfl : u = Value.ref a := rx
  refine getmeth_ok I1 ea c hm l ?_
  exact PySem.W.callWith_K0 (first := [.ref a]) I1.kIn hm.kp (run_fnSD (us := [.ref a]) (vs := [.ref a]) F hr hb hd (hx σ) I1 (.cons rfl .nil) q)
theorem run_makeX {pins : List (Addr × Obj)} {σ : L2.St} {H : Hp} {s : Shared} {Q : VK} {us : List Value} {vs : List V} (M : Mk X.K C f) (F : FnOk X.prog X.w X.K X.mg X.base CX k f fd ps sp) (hr : Room (k + 1) X.A) (hb : Binds X.K fd ps ds) (hd : Vals dvs ds)
    (hx : PassesAt CX X σ (E σ)) (I : Inv X pins σ H s) (r : Vals vs us)
    (h : ∀ x dx, H x = none → H dx = none → dx ≠ x → sp (.ref x :: (vs ++ dvs)) (upd (upd H dx (.own x)) x (.ins C dx [])) (fun v H2 => v = .non ∧ Q (.ref x) H2) (E σ)) :
    wpAny (model X.prog X.w) X.A (call (.ref C) us) (EP X pins σ Q) X.xe s := by
  have hq := h (s.heap.objs.size + 1) s.heap.objs.size (I.hok.fresh (Nat.le_succ _)) (I.hok.fresh (Nat.le_refl _)) (Nat.ne_of_lt (Nat.lt_succ_self _))
  have I2 := Inv.made (C := C) I
  have r2 : Vals (V.ref (s.heap.objs.size + 1) :: (vs ++ dvs)) (Value.ref (s.heap.objs.size + 1) :: (us ++ ds)) := .cons rfl (r.append hd)
  have hl : (Value.ref (s.heap.objs.size + 1) :: us ++ ds).length = ps.length := by
    have e := r2.length
    rw [F.len _ _ _ _ hq] at e
    exact e.symm
  refine wpAny_call (make_map (f := f) I.kIn M.makes M.init (beq_iff_eq.mp M.fn) (codeAny_mono (F.run _ X.stack _ _ ⟨Value.ref (s.heap.objs.size + 1) :: us, []⟩ (Value.ref (s.heap.objs.size + 1) :: (us ++ ds)) _ _ (E σ) (hr.make C us [])
    (I2.env0.make C us []) (hb _ (Value.ref (s.heap.objs.size + 1) :: us) I2.kIn hl) r2 hq) fun r s' hq' => ?_))
  cases r with
  | error e => exact hx pins _ _ e s' I2 hq'
  | ok fl =>
    cases fl with
    | ret u =>
      obtain ⟨v, H', I3, rv, ev, q3⟩ := I2.after hq'
      subst ev
      exact ⟨rv, ⟨V.ref (s.heap.objs.size + 1), H', I3, rfl, q3⟩⟩
    | next => exact False.elim hq'
    | brk => exact False.elim hq'
    | cont => exact False.elim hq'
def tMakeX (C : Addr) (sp : Sp) (dvs : List V) (E : L2.St → XK) (t : TA) : TE := fun σ H Q => t σ H fun vs H1 => ∀ x dx, H1 x = none → H1 dx = none → dx ≠ x →
  sp (.ref x :: (vs ++ dvs)) (upd (upd H1 dx (.own x)) x (.ins C dx [])) (fun v H2 => v = .non ∧ Q (.ref x) H2) (E σ)
theorem pe_makeX (M : Mk X.K C f) (F : FnOk X.prog X.w X.K X.mg X.base CX k f fd ps sp) (hr : Room (k + 1) X.A) (hg : Gl X x) (hm : X.mg x = some (.ref C)) (hb : Binds X.K fd ps ds) (hd : Vals dvs ds) (hx : ∀ σ, PassesAt CX X σ (E σ))
    (ha : PA X (e :: es) t) (hdb : (x == ("__debug__" : Str)) = false := by decide) (he : starEach (e :: es) X.env = (false, eval e X.env) :: starEach es X.env := by rfl) (hpl : (backTo pos (starEach es X.env)).any (·.1) = false := by rfl) :
    PE X (.Call (.Name x p) (e :: es) [] pos) (tMakeX C sp dvs E t) := by
  refine ⟨fun pins s σ H Q I h => ?_⟩
  refine wpAny_Call_Name_kw (ld_glob I hg hm ?_ hdb)
  refine PySem.W.callWith_K (h₀ := X.base) I.ok.mod.kin M.kp (thn (ha.run pos pins s σ H _ I h) fun us s1 ⟨vs, H1, I1, r, q⟩ => ⟨I1.kIn, ?_⟩) he hpl
  exact run_makeX M F hr hb hd (hx σ) I1 r q
end
end Vk
set_option maxHeartbeats 8000000
/-! a call that raises, caught -/
namespace Vk
open PySem PySem.Spec PyProof.Rows L2 GxR
section
variable {P : Program} {w : World} {K : PySem.W.Frag} {mg : Str → Option Value} {base : Heap} {CN CB : Addr}
theorem scCaught : FnScope ["bench", "way", "what", "caught", "e"] ["bench", "way", "what"] (defScope sCaught) := ⟨rfl, rfl, rfl, by decide +kernel, rfl, by decide +kernel, by decide +kernel⟩
def spCaught0 (K : PySem.W.Frag) (T CN CB : Addr) : Sp := fun vs H Q _ => ∃ (n : Addr) (rv : V) (c : Int) (N : BnA) (s : Bd) (r : Rl) (ps : List Addr) (v : V) (d : PyData), vs = [.ref n, .int 0, v] ∧ BnAt CN CB K H n rv c N s r ps ∧ Dp K H v d ∧ smallS d ∧ TabG H T ∧ (nameD d = true → ∃ x, v = .str x ∧ x ∈ s.ran.map (·.1)) ∧
  ∀ (t : Addr) (H' : Hp), Same H H' → H' t = some (.tup [.str "name", v]) → Q (.ref t) H'
theorem ok_caught0 {T C S : Addr} (D : Df K mg "_law_caught" sCaught ["bench", "way", "what"]) (TN : BnC K CN) (AX : MClK P w K mg base (L2.CX P w) 4 CN "arrive" ["self", "name"] "entry" (.int 0) (spArrX K T CN CB C)) (mS : mg "SlotError" = some (.ref S)) (exm : PySem.W.exmOne K (.ref C) (.ref S) = some true)
    (KI : Cl P w K mg base CX0 1 "_law_kind" ["caught"] (spKind9 C)) : Cl P w K mg base CX0 5 "_law_caught" ["bench", "way", "what"] (spCaught0 K T CN CB) := by
  refine cl0 D scCaught (fun vs H Q E h => ?_) (fun f cdv A outer s0 H vs Q E hr h => ?_)
  · obtain ⟨n, rv, c, N, s, r, ps, v, d, rfl, _⟩ := h
    rfl
  · obtain ⟨n, rv, c, N, s, r, ps, v, d, rfl, B, hd, sm, tg, bad, k⟩ := h
    obtain ⟨fA, fdA, MA, _, ⟨dA, vA, bA⟩, FA⟩ := AX.ex
    refine ⟨_, pss_cons (ps_set (i := 3) scCaught.nd rfl (Or.inl rfl) pe_non)
      (pss_cons (ps_try_keep (i := 4) (c := .ref S) (ts := fun _ _ _ => tAsg (tVar 4) (gName 3)) rfl rfl rfl scCaught.nd rfl rfl rfl mS (by decide)
          (fun W pn xe tk _ => pss_one (ps_if (pt_cmpR op_eq (pv 1) pe_int (nomark _)) (pss_one (ps_expr (pe_methX (pv 0) TN.cl MA FA hr bA vA (fun σ => passAt tk σ) (pa_cons (pv 2) pa_nil)))) (pss_one ps_never)))
          (fun a oe cls d pn _ _ => pss_one (ps_set (i := 3) scCaught.nd rfl (Or.inl rfl) (by exact (pv 4)))))
      (pss_one (ps_ret (pe_ifExp (pt_cmpR op_isN (pv 3) pe_non (nomark _)) pe_non (pc KI hr (by decide) (pa_cons (pv 3) pa_nil)))))), ?_⟩
    refine ⟨_, rfl, rfl, _, rfl, iteT ?_⟩
    refine ⟨_, rfl, n, N.dn, _, rfl, B.ob, by kernel_rfl, _, rfl, n, rv, c, N, s, r, ps, v, d, 0, rfl, B, hd, sm, tg, bad, fun dx H1 s1 hx => ?_⟩
    refine ⟨exm, fun a na => ⟨_, rfl, fun na2 => ?_⟩⟩
    have s2 := s1.trans (same_new (o := Xco a (.ref C) (some dx)) na2)
    have hx2 : upd H1 a (Xco a (.ref C) (some dx)) dx = some (.xd [(("name" : Str), v)]) := by
      rw [upd_ne (ne_of_none hx na2)]
      exact hx
    refine ⟨_, rfl, rfl, _, rfl, iteF ?_⟩
    exact ⟨_, rfl, a, dx, _, rfl, upd_same, hx2, fun t H4 s4 ht => k t H4 (s2.trans s4) ht⟩
def spCaught1 (K : PySem.W.Frag) (CN CB : Addr) : Sp := fun vs H Q _ => ∃ (n : Addr) (rv : V) (c : Int) (N : BnA) (s : Bd) (r : Rl) (ps : List Addr) (fa : Addr) (g1 g2 : List Str) (bad : Str), vs = [.ref n, .int 1, .ref fa] ∧ BnAt CN CB K H n rv c N s r ps ∧ 0 ≤ c ∧ SqT K H fa ((g1 ++ bad :: g2).map V.str) ∧ (g1 ++ bad :: g2).length ≤ 1000 ∧ g1.Nodup ∧ (∀ x ∈ g1, x ∈ s.run c) ∧ (bad ∈ s.run c → bad ∈ g1) ∧
  ∀ (t : Addr) (H' : Hp), Same H H' → H' t = some (.tup [.str "name", .str bad]) → Q (.ref t) H'
theorem ok_caught1 {C S : Addr} {dv : V} (D : Df K mg "_law_caught" sCaught ["bench", "way", "what"]) (TN : BnC K CN) (EX : MClP P w K mg base (L2.CX P w) 4 CN "end_unit" ["self", "finishing"] dv (spEndX K CN CB C)) (mS : mg "SlotError" = some (.ref S)) (exm : PySem.W.exmOne K (.ref C) (.ref S) = some true)
    (KI : Cl P w K mg base CX0 1 "_law_kind" ["caught"] (spKind9 C)) : Cl P w K mg base CX0 5 "_law_caught" ["bench", "way", "what"] (spCaught1 K CN CB) := by
  refine cl0 D scCaught (fun vs H Q E h => ?_) (fun f cdv A outer s0 H vs Q E hr h => ?_)
  · obtain ⟨n, rv, c, N, s, r, ps, fa, g1, g2, bad, rfl, _⟩ := h
    rfl
  · obtain ⟨n, rv, c, N, s, r, ps, fa, g1, g2, bad, rfl, B, c0, hfa, fle, fnd, frun, hb, k⟩ := h
    obtain ⟨fA, fdA, MA, bA, _, FA⟩ := EX.ex
    refine ⟨_, pss_cons (ps_set (i := 3) scCaught.nd rfl (Or.inl rfl) pe_non)
      (pss_cons (ps_try_keep (i := 4) (c := .ref S) (ts := fun _ _ _ => tAsg (tVar 4) (gName 3)) rfl rfl rfl scCaught.nd rfl rfl rfl mS (by decide)
          (fun W pn xe tk _ => pss_one (ps_if (pt_cmpR op_eq (pv 1) pe_int (nomark _)) (pss_one ps_never) (pss_one (ps_if (pt_cmpR op_eq (pv 1) pe_int (nomark _)) (pss_one (ps_expr (pe_methX (pv 0) TN.cl MA FA hr bA .nil (fun σ => passAt tk σ) (pa_cons (pv 2) pa_nil)))) (pss_one ps_never)))))
          (fun a oe cls d pn _ _ => pss_one (ps_set (i := 3) scCaught.nd rfl (Or.inl rfl) (by exact (pv 4)))))
      (pss_one (ps_ret (pe_ifExp (pt_cmpR op_isN (pv 3) pe_non (nomark _)) pe_non (pc KI hr (by decide) (pa_cons (pv 3) pa_nil)))))), ?_⟩
    refine ⟨_, rfl, rfl, _, rfl, iteF ?_⟩
    refine ⟨_, rfl, rfl, _, rfl, iteT ?_⟩
    refine ⟨_, rfl, n, N.dn, _, rfl, B.ob, by kernel_rfl, _, rfl, n, rv, c, N, s, r, ps, fa, g1, g2, bad, rfl, B, c0, hfa, fle, fnd, frun, hb, fun dx H1 s1 hx => ?_⟩
    refine ⟨exm, fun a na => ⟨_, rfl, fun na2 => ?_⟩⟩
    have s2 := s1.trans (same_new (o := Xco a (.ref C) (some dx)) na2)
    have hx2 : upd H1 a (Xco a (.ref C) (some dx)) dx = some (.xd [(("name" : Str), .str bad)]) := by
      rw [upd_ne (ne_of_none hx na2)]
      exact hx
    refine ⟨_, rfl, rfl, _, rfl, iteF ?_⟩
    exact ⟨_, rfl, a, dx, _, rfl, upd_same, hx2, fun t H4 s4 ht => k t H4 (s2.trans s4) ht⟩
def spCaught2 (K : PySem.W.Frag) (CN CB : Addr) : Sp := fun vs H Q _ => ∃ (n : Addr) (rv : V) (c : Int) (N : BnA) (s : Bd) (r : Rl) (what : V), vs = [.ref n, .int 2, what] ∧ BnAt CN CB K H n rv c N s r [] ∧
  ∀ (t : Addr) (H' : Hp), Same H H' → H' t = some (.tup [.str "undo", .int 0]) → Q (.ref t) H'
theorem ok_caught2 {C S : Addr} (D : Df K mg "_law_caught" sCaught ["bench", "way", "what"]) (TN : BnC K CN) (UX : MCl P w K mg base (L2.CX P w) 1 CN "undo" ["self"] (spUndoX CN CB C K)) (mS : mg "SlotError" = some (.ref S)) (exm : PySem.W.exmOne K (.ref C) (.ref S) = some true)
    (KI : Cl P w K mg base CX0 1 "_law_kind" ["caught"] (spKind10 C)) : Cl P w K mg base CX0 5 "_law_caught" ["bench", "way", "what"] (spCaught2 K CN CB) := by
  refine cl0 D scCaught (fun vs H Q E h => ?_) (fun f cdv A outer s0 H vs Q E hr h => ?_)
  · obtain ⟨n, rv, c, N, s, r, what, rfl, _⟩ := h
    rfl
  · obtain ⟨n, rv, c, N, s, r, what, rfl, B, k⟩ := h
    obtain ⟨fA, fdA, MA, bA, FA⟩ := UX.ex
    refine ⟨_, pss_cons (ps_set (i := 3) scCaught.nd rfl (Or.inl rfl) pe_non)
      (pss_cons (ps_try_keep (i := 4) (c := .ref S) (ts := fun _ _ _ => tAsg (tVar 4) (gName 3)) rfl rfl rfl scCaught.nd rfl rfl rfl mS (by decide)
          (fun W pn xe tk _ => pss_one (ps_if (pt_cmpR op_eq (pv 1) pe_int (nomark _)) (pss_one ps_never) (pss_one (ps_if (pt_cmpR op_eq (pv 1) pe_int (nomark _)) (pss_one ps_never) (pss_one (ps_expr (pe_methX0 (pv 0) TN.cl MA FA (hr.mono (by decide)) bA .nil (fun σ => passAt tk σ))))))))
          (fun a oe cls d pn _ _ => pss_one (ps_set (i := 3) scCaught.nd rfl (Or.inl rfl) (by exact (pv 4)))))
      (pss_one (ps_ret (pe_ifExp (pt_cmpR op_isN (pv 3) pe_non (nomark _)) pe_non (pc KI hr (by decide) (pa_cons (pv 3) pa_nil)))))), ?_⟩
    refine ⟨_, rfl, rfl, _, rfl, iteF ?_⟩
    refine ⟨_, rfl, rfl, _, rfl, iteF ?_⟩
    refine ⟨_, rfl, n, N.dn, _, rfl, B.ob, by kernel_rfl, n, rv, c, N, s, r, rfl, B, ?_⟩
    refine ⟨exm, fun a na => ⟨_, rfl, fun na2 => ?_⟩⟩
    have s2 := same_new (o := Xco a (.ref C) none) na2
    refine ⟨_, rfl, rfl, _, rfl, iteF ?_⟩
    exact ⟨_, rfl, a, rfl, upd_same, fun t H4 s4 ht => k t H4 (s2.trans s4) ht⟩
end
end Vk
set_option maxHeartbeats 8000000
namespace Vk
open PySem PySem.Spec PyProof.Rows L2 GxR
theorem cnt_ok {K : PySem.W.Frag} {x : V} (hx : x = .non ∨ ∃ i : Int, 1 ≤ i ∧ x = .int i) : ∃ d, countD d = true ∧ ∀ H, Dp K H x d := by
  rcases hx with rfl | ⟨i, h, rfl⟩
  · exact ⟨.none, rfl, fun _ => .non⟩
  · exact ⟨.int i, decide_eq_true h, fun _ => .int i⟩
theorem kind_ok {K : PySem.W.Frag} {x : V} (hx : x ∈ [V.str ("queue" : Str), .str ("stack" : Str)]) : ∃ d, kindD d = true ∧ ∀ H, Dp K H x d := by
  simp only [List.mem_cons, List.not_mem_nil, or_false] at hx
  rcases hx with rfl | rfl
  · exact ⟨.str ("queue" : Str), by decide +kernel, fun _ => .str _⟩
  · exact ⟨.str ("stack" : Str), by decide +kernel, fun _ => .str _⟩
section
variable {P : Program} {w : World} {K : PySem.W.Frag} {mg : Str → Option Value} {base : Heap}
def spRule (K : PySem.W.Frag) : Sp := fun vs H Q _ => ∃ (a sc : Addr) (n : Int), vs = [.ref a] ∧ Sto sc a n H ∧ n ≤ 900000 ∧
  ∀ (v : V) (ls : List PyData) (b : PyData) (H' : Hp), Sto sc a (n + 40) H' → Kept a H H' → Dp K (Off a H') v (.tuple [.tuple ls, b]) → 1 ≤ ls.length → ls.length ≤ 6 → ls.all levelD = true → countD b = true → Q v H'
theorem scRule : FnScope ["store", "count", "levels", "k", "few", "quantum", "boosts"] ["store"] (defScope sRule) := ⟨rfl, rfl, rfl, by decide +kernel, rfl, by decide +kernel, by decide +kernel⟩
theorem ok_rule (D : Df K mg "_law_rule" sRule ["store"]) (B : Blt mg) (PK : Cl P w K mg base CX0 2 "_law_pick" ["store", "count"] spPick) : Cl P w K mg base CX0 3 "_law_rule" ["store"] (spRule K) := by
  refine cl0 D scRule (fun vs H Q E h => ?_) (fun f cdv A outer s H vs Q E hr h => ?_)
  · obtain ⟨a, sc, n, rfl, _⟩ := h
    rfl
  · obtain ⟨a, sc, n, rfl, S, n1, k⟩ := h
    refine ⟨_, pss_cons (ps_set (i := 1) scRule.nd rfl (Or.inl rfl) (pe_op op_add pe_int (pc PK hr (by decide) (pa_cons (pv 0) (pa_cons (pe_ix ix_list (pe_lst (pa_cons pe_int (pa_cons pe_int (pa_cons pe_int (pa_cons pe_int (pa_cons pe_int (pa_cons pe_int (pa_cons pe_int (pa_cons pe_int pa_nil))))))))) (pc PK hr (by decide) (pa_cons (pv 0) (pa_cons pe_int pa_nil))) (fun _ _ => rfl)) pa_nil)))))
      (pss_cons (ps_set (i := 2) scRule.nd rfl (Or.inl rfl) (pe_lst pa_nil))
      (pss_cons (ps_for PassesOwn.never rfl (pi_range1 rfl B.range (pa_cons (pv 1) pa_nil)) (pg_name (i := 3) scRule.nd rfl (Or.inl rfl))
        (pss_cons (ps_set (i := 4) scRule.nd rfl (Or.inl rfl) (pe_op op_add pe_int (pc PK hr (by decide) (pa_cons (pv 0) (pa_cons pe_int pa_nil)))))
        (pss_cons (ps_set (i := 5) scRule.nd rfl (Or.inl rfl) (pe_ix ix_list (pe_lst (pa_cons pe_non (pa_cons pe_int (pa_cons (pv 4) (pa_cons (pv 4) (pa_cons (pe_op op_add pe_int (pc PK hr (by decide) (pa_cons (pv 0) (pa_cons pe_int pa_nil)))) (pa_cons (pe_op op_pow pe_int pe_int) pa_nil))))))) (pc PK hr (by decide) (pa_cons (pv 0) (pa_cons pe_int pa_nil))) (fun _ _ => rfl)))
        (pss_one (ps_expr (pe_bm PySem.F.plainAttrs_list PySem.F.slot_list_append PySem.F.type_list_append mt_append (pv 2)
          (pa_cons (pe_tup (pa_cons (pe_ix ix_list (pe_lst (pa_cons pe_str (pa_cons pe_str pa_nil))) (pc PK hr (by decide) (pa_cons (pv 0) (pa_cons pe_int pa_nil))) (fun _ _ => rfl)) (pa_cons (pv 5) pa_nil))) pa_nil)))))))
      (pss_cons (ps_set (i := 6) scRule.nd rfl (Or.inl rfl) (pe_lst (pa_cons pe_non (pa_cons pe_non (pa_cons (pe_op op_add pe_int (pc PK hr (by decide) (pa_cons (pv 0) (pa_cons pe_int pa_nil)))) (pa_cons (pe_op op_add pe_int (pc PK hr (by decide) (pa_cons (pv 0) (pa_cons pe_int pa_nil)))) (pa_cons (pe_op op_pow pe_int pe_int) pa_nil)))))))
      (pss_one (ps_ret (pe_tup (pa_cons (pe_callTy call_tuple_of (by rfl) B.tuple (by decide +kernel) (pa_cons (pv 2) pa_nil)) (pa_cons (pe_ix ix_list (pv 6) (pc PK hr (by decide) (pa_cons (pv 0) (pa_cons pe_int pa_nil))) (fun _ _ => rfl)) pa_nil)))))))), ?_⟩
    -- count
    refine ⟨_, rfl, (by show 8 ≤ sizeLine; decide), fun q0 nq0 => ?_⟩
    have sq0 := same_new (o := .lst [.int 3, .int 3, .int 3, .int 3, .int 3, .int 3, .int 3, .int 6]) nq0
    have q0a := S.ne nq0
    refine ⟨_, rfl, a, sc, 8, n, rfl, by decide, by decide, S.same sq0, by omega, fun r H1 r0 r8 S1 K1 => ?_⟩
    obtain ⟨mv, hmv, mem⟩ := atI_mem (xs := [V.int 3, .int 3, .int 3, .int 3, .int 3, .int 3, .int 3, .int 6]) r0 r8
    obtain ⟨m, rfl, m3, m6⟩ : ∃ m : Int, mv = .int m ∧ 3 ≤ m ∧ m ≤ 6 := by
      simp only [List.mem_cons, List.not_mem_nil, or_false] at mem
      rcases mem with rfl | rfl | rfl | rfl | rfl | rfl | rfl | rfl
      all_goals exact ⟨_, rfl, by decide, by decide⟩
    refine ⟨q0, _, _, .int m, rfl, rfl, SqL.of (K1.at upd_same q0a), hmv, a, sc, m, n + 1, rfl, by omega, by omega, S1, by omega, fun c H2 c0 cm S2 K2 => ?_⟩
    refine ⟨_, _, rfl, rfl, ?_⟩
    have K02 : Kept a H H2 := (kept_same sq0).trans (K1.trans K2)
    -- levels = []
    refine ⟨(by show 0 ≤ sizeLine; decide), fun l nl => ?_⟩
    have sl := same_new (o := .lst []) nl
    have l1 : l ≠ a := S2.ne nl
    have l2 : l ≠ sc := S2.ne2 nl
    have S3 := S2.same sl
    refine ⟨_, rfl, 1 + c, rfl, by omega, by omega, ?_⟩
    have l3 : upd H2 l (.lst []) l = some (.lst []) := upd_same
    have K23 : Kept a H2 (upd H2 l (.lst [])) := kept_same sl
    generalize upd H2 l (.lst []) = H3 at S3 l3 K23
    refine for_range (lo := 0) (n := (1 + c).toNat) (fun i σ H' => ∃ (u3 u4 u5 : Option V) (xs : List V) (ds : List PyData), σ = [some (.ref a), some (.int (1 + c)), some (.ref l), u3, u4, u5, none] ∧ Sto sc a (n + 2 + 4 * i) H' ∧ Same (Off l (Off a H3)) (Off l (Off a H')) ∧
        H' l = some (.lst xs) ∧ DpAll K (Off l (Off a H')) xs ds ∧ ds.length = i ∧ ds.all levelD = true)
      ⟨none, none, none, [], [], rfl, S3.more (by omega), Same.refl _, l3, .nil, rfl, rfl⟩ ?_ ?_
    · rintro i σ G hi ⟨u3, u4, u5, xs, ds, rfl, SG, KG, lG, dG, len, okG⟩
      refine ⟨_, rfl, a, sc, 4, _, rfl, by decide, by decide, SG, by omega, fun x4 G1 x40 x44 SG1 KG1 => ?_⟩
      refine ⟨_, _, rfl, rfl, ?_⟩
      refine ⟨_, rfl, _, rfl, _, rfl, a, sc, 40, _, rfl, by decide, by decide, SG1, by omega, fun x5 G2 x50 x54 SG2 KG2 => ?_⟩
      refine ⟨_, _, rfl, rfl, _, _, rfl, rfl, ⟨by decide, by decide, by decide⟩, (by show 6 ≤ sizeLine; decide), fun q nq => ?_⟩
      have sq := same_new (o := .lst [.non, .int 1, .int (1 + x4), .int (1 + x4), .int (5 + x5), .int (10 ^ Int.toNat 30)]) nq
      have qa := SG2.ne nq
      refine ⟨_, rfl, a, sc, 6, _, rfl, by decide, by decide, SG2.same sq, by omega, fun x6 G3 x60 x66 SG3 KG3 => ?_⟩
      obtain ⟨nv, hnv, mnv⟩ := atI_mem (xs := [V.non, .int 1, .int (1 + x4), .int (1 + x4), .int (5 + x5), .int (10 ^ Int.toNat 30)]) x60 x66
      refine ⟨q, _, _, nv, rfl, rfl, SqL.of (KG3.at upd_same qa), hnv, ?_⟩
      obtain ⟨nd, nd1, nd2⟩ := cnt_ok (K := K) (x := nv) (by
        simp only [List.mem_cons, List.not_mem_nil, or_false] at mnv
        rcases mnv with rfl | rfl | rfl | rfl | rfl | rfl
        · exact .inl rfl
        · exact .inr ⟨_, by decide, rfl⟩
        · exact .inr ⟨_, by omega, rfl⟩
        · exact .inr ⟨_, by omega, rfl⟩
        · exact .inr ⟨_, by omega, rfl⟩
        · exact .inr ⟨_, by decide +kernel, rfl⟩)
      have K3 : Kept a G G3 := KG1.trans (KG2.trans ((kept_same sq).trans KG3))
      have lG3 : G3 l = some (.lst xs) := K3.at lG l1
      refine ⟨_, rfl, .inl ⟨rfl, _, SqL.of lG3⟩, ?_⟩
      refine ⟨(by show 2 ≤ sizeLine; decide), fun q2 nq2 => ?_⟩
      have sq2 := same_new (o := .lst [.str ("queue" : Str), .str ("stack" : Str)]) nq2
      have q2a := SG3.ne nq2
      refine ⟨_, rfl, a, sc, 2, _, rfl, by decide, by decide, SG3.same sq2, by omega, fun x7 G4 x70 x72 SG4 KG4 => ?_⟩
      obtain ⟨kv, hkv, mkv⟩ := atI_mem (xs := [V.str ("queue" : Str), .str ("stack" : Str)]) x70 x72
      obtain ⟨kd, kd1, kd2⟩ := kind_ok (K := K) mkv
      refine ⟨q2, _, _, kv, rfl, rfl, SqL.of (KG4.at upd_same q2a), hkv, _, rfl, (by show 2 ≤ sizeLine; decide), fun t nt => ?_⟩
      have ta := SG4.ne nt
      have lG4 : G4 l = some (.lst xs) := KG4.at (sq2.at lG3) l1
      have tl : l ≠ t := ne_of_none lG4 nt
      have st := same_new (o := .tup [kv, nv]) nt
      have xl : xs.length = i := by rw [dps_len dG, len]
      refine ⟨l, _, _, rfl, rfl, st.at lG4, by rw [xl]; exact Nat.lt_of_lt_of_le (show i < 7 by omega) (by decide), ?_⟩
      have KK : Kept a G (upd G4 t (.tup [kv, nv])) := K3.trans ((kept_same sq2).trans (KG4.trans (kept_same st)))
      have offs : Off l (Off a (upd (upd G4 t (.tup [kv, nv])) l (.lst (xs ++ [.ref t])))) = Off l (Off a (upd G4 t (.tup [kv, nv]))) := by
        rw [off_other l1, off_upd]
      refine ⟨_, _, _, xs ++ [.ref t], ds ++ [.tuple [kd, nd]], rfl, ?_, ?_, upd_same, ?_, by rw [List.length_append, len]; rfl, ?_⟩
      · exact ((SG4.same st).other l1 l2).more (by omega)
      · rw [offs]
        exact KG.trans (off_mono KK)
      · rw [offs]
        refine dps_app (dps_same (off_mono KK) dG) (.cons (.tup (SqT.of ?_) (.cons (kd2 _) (.cons (nd2 _) .nil))) .nil)
        rw [off_ne (Ne.symm tl), off_ne ta, upd_same]
      · rw [List.all_append, okG]
        show (true && ((kindD kd && countD nd) && true)) = true
        rw [kd1, nd1]
        rfl
    · rintro σ G ⟨u3, u4, u5, xs, ds, rfl, SG, KG, lG, dG, len, okG⟩
      have KGf : Kept a H G := K02.trans (kept_of_off nl ((off_mono K23).trans KG))
      refine ⟨_, rfl, a, sc, 9, _, rfl, by decide, by decide, SG, by omega, fun y1 G1 y10 y19 SG1 KG1 => ?_⟩
      refine ⟨_, _, rfl, rfl, _, rfl, a, sc, 90, _, rfl, by decide, by decide, SG1, by omega, fun y2 G2 y20 y29 SG2 KG2 => ?_⟩
      refine ⟨_, _, rfl, rfl, _, _, rfl, rfl, ⟨by decide, by decide, by decide⟩, (by show 5 ≤ sizeLine; decide), fun q nq => ?_⟩
      have sq := same_new (o := .lst [.non, .non, .int (1 + y1), .int (10 + y2), .int (10 ^ Int.toNat 30)]) nq
      have qa := SG2.ne nq
      have lq : l ≠ q := ne_of_none (KG2.at (KG1.at lG l1) l1) nq
      have lG2 : upd G2 q (.lst [.non, .non, .int (1 + y1), .int (10 + y2), .int (10 ^ Int.toNat 30)]) l = some (.lst xs) := sq.at (KG2.at (KG1.at lG l1) l1)
      refine ⟨_, rfl, l, xs, rfl, .inl ⟨SqL.of lG2, fun tp ntp => ?_⟩⟩
      have stp := same_new (o := .tup xs) ntp
      have tpa := (SG2.same sq).ne ntp
      refine ⟨_, rfl, _, rfl, a, sc, 5, _, rfl, by decide, by decide, (SG2.same sq).same stp, by omega, fun y3 G3 y30 y35 SG3 KG3 => ?_⟩
      obtain ⟨nv, hnv, mnv⟩ := atI_mem (xs := [V.non, .non, .int (1 + y1), .int (10 + y2), .int (10 ^ Int.toNat 30)]) y30 y35
      refine ⟨q, _, _, nv, rfl, rfl, SqL.of (KG3.at (stp.at upd_same) qa), hnv, (by show 2 ≤ sizeLine; decide), fun p np => ?_⟩
      obtain ⟨nd, nd1, nd2⟩ := cnt_ok (K := K) (x := nv) (by
        simp only [List.mem_cons, List.not_mem_nil, or_false] at mnv
        rcases mnv with rfl | rfl | rfl | rfl | rfl
        · exact .inl rfl
        · exact .inl rfl
        · exact .inr ⟨_, by omega, rfl⟩
        · exact .inr ⟨_, by omega, rfl⟩
        · exact .inr ⟨_, by decide +kernel, rfl⟩)
      have sp := same_new (o := .tup [.ref tp, nv]) np
      have pa := SG3.ne np
      have KF : Kept a G (upd G3 p (.tup [.ref tp, nv])) := KG1.trans (KG2.trans ((kept_same sq).trans ((kept_same stp).trans (KG3.trans (kept_same sp)))))
      have dG' : DpAll K (Off a G) xs ds := dps_same (off_sub l _) dG
      refine k (.ref p) ds nd _ ((SG3.same sp).more (by omega)) (KGf.trans KF) (.tup (SqT.of ?_) (.cons (.tup (a := tp) (SqT.of ?_) (dps_same KF dG')) (.cons (nd2 _) .nil))) (by omega) (by omega) okG nd1
      · rw [off_ne pa, upd_same]
      · rw [off_ne tpa]
        exact sp.at (KG3.at upd_same tpa)
end
end Vk
set_option maxHeartbeats 16000000
/-! a step of the law -/
namespace Vk
open PySem PySem.Spec PyProof.Rows L2 GxR
abbrev NS : List Str := ["store", "bench", "lines", "policy", "cores", "facts", "names", "name", "door", "found", "active", "running", "finishing", "level", "job"]
def foot (st ls fc ln n : Addr) (N : BnA) (L : Lv) : List Addr := st :: ls :: fc :: ln :: (jas L ++ ftN n N)
theorem Wl.footAl {CN CB : Addr} {K : PySem.W.Frag} {T n st sc ls fc ln : Addr} {rv : V} {c : Int} {r : Rl} {F : List Addr} {m : Int} {G : Hp} {N : BnA} {s : Bd} {ps : List Addr} {L : Lv} {el pl : Addr} {t : Int} {es : List (Str × Int)} {gs : List PyData} {ws : List Str} (w : Wl CN CB K T n st sc ls fc ln rv c r F m G N s ps L el pl t es gs ws) : ∀ z ∈ foot st ls fc ln n N L, G z ≠ none := fun z hz => by
  have sub := offL_sub (F ++ ftN n N) G
  unfold foot at hz
  simp only [List.mem_cons, List.mem_append] at hz
  rcases hz with rfl | rfl | rfl | rfl | hz | hz
  · obtain ⟨_, _, _, _, _, g1, _⟩ := w.sto.ex
    rw [sub.at g1]
    exact fun w => nomatch w
  · rw [sub.at w.lines.top]
    exact fun w => nomatch w
  · rw [sub.at w.facts]
    exact fun w => nomatch w
  · rw [sub.at w.names]
    exact fun w => nomatch w
  · obtain ⟨a, ha, rfl⟩ := List.mem_map.mp hz
    rw [sub.at (w.lines.jobs a ha)]
    exact fun w => nomatch w
  · obtain ⟨u, e, _⟩ := w.bn.obj hz
    rw [e]
    exact fun w => nomatch w
/-- what is no job stands beside lines and jobs -/
theorem Wl.noJob {CN CB : Addr} {K : PySem.W.Frag} {T n st sc ls fc ln : Addr} {rv : V} {c : Int} {r : Rl} {F : List Addr} {m : Int} {G : Hp} {N : BnA} {s : Bd} {ps : List Addr} {L : Lv} {el pl : Addr} {t : Int} {es : List (Str × Int)} {gs : List PyData} {ws : List Str} (w : Wl CN CB K T n st sc ls fc ln rv c r F m G N s ps L el pl t es gs ws) {z : Addr} {o : HO} (h : OffL (F ++ ftN n N) G z = some o) (zl : z ≠ ls) (f : ∀ b : Jb, o = jv b → False) : OffL (ls :: jas L) G z = some o := by
  have zn : z ∉ ls :: jas L := fun q => by
    rcases List.mem_cons.mp q with q | q
    · exact zl q
    · obtain ⟨a, ha, rfl⟩ := List.mem_map.mp q
      rw [w.lines.jobs a ha] at h
      exact f _ (Option.some.inj h).symm
  rw [offL_out zn]
  exact (offL_some h).2
theorem Wl.jobNt {CN CB : Addr} {K : PySem.W.Frag} {T n st sc ls fc ln : Addr} {rv : V} {c : Int} {r : Rl} {F : List Addr} {m : Int} {G : Hp} {N : BnA} {s : Bd} {ps : List Addr} {L : Lv} {el pl : Addr} {t : Int} {es : List (Str × Int)} {gs : List PyData} {ws : List Str} (w : Wl CN CB K T n st sc ls fc ln rv c r F m G N s ps L el pl t es gs ws) : ∀ z ∈ ls :: jas L, ∃ xs, OffL (F ++ ftN n N) G z = some (.lst xs) := fun z hz => by
  rcases List.mem_cons.mp hz with rfl | hz
  · exact ⟨_, w.lines.top⟩
  · obtain ⟨a, ha, rfl⟩ := List.mem_map.mp hz
    exact ⟨_, w.lines.jobs a ha⟩
theorem Wl.jobTup {CN CB : Addr} {K : PySem.W.Frag} {T n st sc ls fc ln : Addr} {rv : V} {c : Int} {r : Rl} {F : List Addr} {m : Int} {G : Hp} {N : BnA} {s : Bd} {ps : List Addr} {L : Lv} {el pl : Addr} {t : Int} {es : List (Str × Int)} {gs : List PyData} {ws : List Str} (w : Wl CN CB K T n st sc ls fc ln rv c r F m G N s ps L el pl t es gs ws) {a : Addr} {xs : List V} (q : SqT K G a xs) : SqT K (OffL (ls :: jas L) G) a xs :=
  sqt_off (fun z hz o e => by
    obtain ⟨ys, h⟩ := w.jobNt z hz
    rw [(offL_some h).2] at e
    cases e
    exact noTup_lst) q
section
variable {P : Program} {w : World} {K : PySem.W.Frag} {mg : Str → Option Value} {base : Heap} {CN CB : Addr}
def spStep (K : PySem.W.Frag) (T CN CB : Addr) : Sp := fun vs H Q _ => ∃ (st n ls fc ln sc : Addr) (rv : V) (c : Nat) (r : Rl) (F : List Addr) (m : Int) (N : BnA) (s : Bd) (ps : List Addr) (L : Lv) (el pl : Addr) (ws : List Str) (i : Nat), vs = [.ref st, .ref n, .ref ls, rv, .int c, .ref fc, .ref ln] ∧ 1 ≤ c ∧ c ≤ 8 ∧ m ≤ 800000 ∧ i ≤ 300 ∧
  Wl CN CB K T n st sc ls fc ln rv c r F m H N s ps L el pl s.now (lensS s) (logD s) ws ∧ P12 i r s ps L ws ∧
  ∀ (N' : BnA) (s' : Bd) (t0 : Addr) (At : BdA) (L' : Lv) (el' pl' : Addr) (ws' : List Str) (H' : Hp), Wl CN CB K T n st sc ls fc ln rv c r F (m + 40) H' N' s' (t0 :: ps) L' el' pl' s'.now (lensS s') (logD s') ws' → P12 (i + 1) r s' (t0 :: ps) L' ws' →
    Same (OffL (foot st ls fc ln n N L) H) (OffL (foot st ls fc ln n N L) H') → (∀ z ∈ jas L', z ∈ foot st ls fc ln n N L ∨ H z = none) → (∀ z ∈ ftN n N', z ∈ foot st ls fc ln n N L ∨ H z = none) → BdAt CB K (OffL (ftN n N') H') t0 rv c At s → (∀ z ∈ ftB t0 At, H z = none) → (ln ≠ el → ln ≠ el') → (ln ≠ pl → ln ≠ pl') → (∀ x, x ∈ s'.ran.map (·.1) ∨ x ∈ ws' → x ∈ s.ran.map (·.1) ∨ x ∈ ws) → Q (.bl true) H'
theorem scStep : FnScope NS ["store", "bench", "lines", "policy", "cores", "facts", "names"] (defScope sStep) := ⟨rfl, rfl, rfl, by decide +kernel, rfl, by decide +kernel, by decide +kernel⟩
theorem ok_step {T : Addr} {e0v : V} (D : Df K mg "_law_step" sStep ["store", "bench", "lines", "policy", "cores", "facts", "names"]) (B : Blt mg) (TN : BnC K CN) (PK : Cl P w K mg base CX0 2 "_law_pick" ["store", "count"] spPick) (SM : Cl P w K mg base CX0 3 "_law_some" ["store", "names"] (spSome K))
    (AR : MClK P w K mg base CX0 4 CN "arrive" ["self", "name"] "entry" (.int 0) (spArrive K T CN CB)) (EU : MClP P w K mg base CX0 4 CN "end_unit" ["self", "finishing"] e0v (spEnd K CN CB))
    (EN : Cl P w K mg base CX0 1 "_law_enter" ["lines", "plan", "name", "door"] (spEnterL K)) (OR : Cl P w K mg base CX0 1 "_law_order" ["lines"] (spOrderL K)) (LE : Cl P w K mg base CX0 2 "_law_end" ["lines", "policy", "moment", "active", "finishing"] (spEndL K)) :
    Cl P w K mg base CX0 5 "_law_step" ["store", "bench", "lines", "policy", "cores", "facts", "names"] (spStep K T CN CB) := by
  refine cl0 D scStep (fun vs H Q E h => ?_) (fun f cdv Ar outer s0 H vs Q E hr h => ?_)
  · obtain ⟨st, n, ls, fc, ln, sc, rv, c, r, F, m, N, s, ps, L, el, pl, ws, i, rfl, _⟩ := h
    rfl
  · obtain ⟨st, n, ls, fc, ln, sc, rv, c, r, F, m, N, s, ps, L, el, pl, ws, i, rfl, c1, c8, m8, i3, W0, P0, k⟩ := h
    obtain ⟨fA, fdA, MA, kA, _, FA⟩ := AR.ex
    obtain ⟨fE, fdE, ME, bE, _, FE⟩ := EU.ex
    have main : ∃ t, PSs (cxOf CX0 P w K mg base NS "_law_step" (defScope sStep) f cdv Ar outer s0 H E).nox (defBody sStep) t ∧ t { nx := fun _ H' => Q .non H', rt := Q } (start NS [.ref st, .ref n, .ref ls, rv, .int c, .ref fc, .ref ln]) H := by
      refine ⟨_, pss_cons (ps_if (PW.pt (pw_and (pt_cmpR (op_neNilL (Nat.lt_of_succ_lt (hu_of hr))) (pv 6) (pe_lst pa_nil) (nomark _)) (pw_and1 (pt_cmpR op_eq (pc PK hr (by decide) (pa_cons (pv 0) (pa_cons pe_int pa_nil))) pe_int (nomark _)))))
          (pss_cons (ps_set (i := 7) scStep.nd rfl (Or.inl rfl) (pe_bm0 PySem.F.plainAttrs_list PySem.F.slot_list_pop PySem.F.type_list_pop mt_pop (pv 6)))
          (pss_cons (ps_set (i := 8) scStep.nd rfl (Or.inl rfl) (pe_ix ix_list (pe_lst (pa_cons pe_int (pa_cons (pc PK hr (by decide) (pa_cons (pv 0) (pa_cons pe_int pa_nil))) pa_nil))) (pc PK hr (by decide) (pa_cons (pv 0) (pa_cons pe_int pa_nil))) (fun _ _ => rfl)))
          (pss_cons (ps_set (i := 9) scStep.nd rfl (Or.inl rfl) (pe_methK (n := 1) (pv 1) TN.cl MA FA hr kA pass0 (pa_cons (pv 7) pa_nil) (pk_cons (pv 8) pk_nil)))
          (pss_cons (ps_expr (pc EN hr (by decide) (pa_cons (pv 2) (pa_cons (pe_ix ix_tup (pv 3) pe_int (fun _ _ => rfl)) (pa_cons (pv 7) (pa_cons (pv 8) pa_nil))))))
          (pss_one (ps_ret (pe_cmpR op_isN (pv 9) pe_non (nomark _)))))))) pss_nil)
        (pss_cons (ps_set (i := 10) scStep.nd rfl (Or.inl rfl) (pe_slice sl_list (pc OR hr (by decide) (pa_cons (pv 2) pa_nil)) po_none (po_some (pv 4))))
        (pss_cons (ps_set (i := 11) scStep.nd rfl (Or.inl rfl) (pe_callTy call_tuple_of (by rfl) B.tuple (by decide +kernel) (pa_cons
            (pe_lc (own := [("level", 13), ("job", 14)]) (g := gTup K 2 (gCons (gName 13) (gCons (gName 14) gNil))) (tt := tYes) (te := tOp (rIxL K) (tVar 14) (tC (.int 0))) (by rfl) scStep.nd (pi_list (pv 10)) (blkOk_by (own := [("level", 13), ("job", 14)]) (N := NS) (sc := defScope sStep) (by decide +kernel))
              (fun _ _ _ _ _ => pg_tup rfl (pgs_cons (pg_name (i := 13) scStep.nd rfl (.inl rfl)) (pgs_cons (pg_name (i := 14) scStep.nd rfl (.inl rfl)) pgs_nil))) (fun _ _ _ _ _ => pts_nil) (fun _ _ _ _ _ => pe_ix ix_list (pv 14) pe_int (fun _ _ => rfl))) pa_nil)))
        (pss_cons (ps_set (i := 12) scStep.nd rfl (Or.inr rfl) (pc SM hr (by decide) (pa_cons (pv 0) (pa_cons (pv 11) pa_nil))))
        (pss_cons (ps_asg (pe_op op_add (pe_ix ix_list (pv 5) pe_int (fun _ _ => rfl)) pe_int) (pg_sub (pv 5) pe_int set_list))
        (pss_cons (ps_set (i := 9) scStep.nd rfl (Or.inl rfl) (pe_meth (pv 1) TN.cl ME FE hr bE .nil pass0 (pa_cons (pv 12) pa_nil)))
        (pss_cons (ps_expr (pc LE hr (by decide) (pa_cons (pv 2) (pa_cons (pv 3) (pa_cons (pe_ix ix_list (pv 5) pe_int (fun _ _ => rfl)) (pa_cons (pv 10) (pa_cons (pv 12) pa_nil)))))))
        (pss_cons (ps_asg (pe_op op_cat (pe_ix ix_list (pv 5) pe_int (fun _ _ => rfl))
            (pe_lc (own := [("level", 13), ("job", 14)]) (g := gTup K 2 (gCons (gName 13) (gCons (gName 14) gNil))) (tt := tTest (tOp (rIn K false) (tOp (rIxL K) (tVar 14) (tC (.int 0))) (tVar 12))) (te := tTup (tCons (tOp (rIxL K) (tVar 14) (tC (.int 0))) (tCons (tOp (rIxL K) (tVar 14) (tC (.int 2))) tNil))) (by rfl) scStep.nd (pi_list (pv 10)) (blkOk_by (own := [("level", 13), ("job", 14)]) (N := NS) (sc := defScope sStep) (by decide +kernel))
              (fun _ _ _ _ _ => pg_tup rfl (pgs_cons (pg_name (i := 13) scStep.nd rfl (.inl rfl)) (pgs_cons (pg_name (i := 14) scStep.nd rfl (.inl rfl)) pgs_nil))) (fun _ _ _ _ _ => pts_one (pt_cmpR op_in_seq (pe_ix ix_list (pv 14) pe_int (fun _ _ => rfl)) (pv 12) (by rfl))) (fun _ _ _ _ _ => pe_tup (pa_cons (pe_ix ix_list (pv 14) pe_int (fun _ _ => rfl)) (pa_cons (pe_ix ix_list (pv 14) pe_int (fun _ _ => rfl)) pa_nil))))) (pg_sub (pv 5) pe_int set_list))
        (pss_cons (ps_if (pt_cmpR (op_neNilT (Nat.lt_of_succ_lt (hu_of hr))) (pv 12) (pe_tup pa_nil) (nomark _))
            (pss_one (ps_asg (pe_op op_cat (pe_ix ix_list (pv 5) pe_int (fun _ _ => rfl)) (pe_lst (pa_cons (pe_tup (pa_cons (pe_ix ix_list (pv 5) pe_int (fun _ _ => rfl)) (pa_cons (pe_callB call_len_seq (by rfl) B.len PySem.boot_len (pa_cons (pv 12) pa_nil)) pa_nil))) pa_nil))) (pg_sub (pv 5) pe_int set_list))) pss_nil)
        (pss_one (ps_ret (pe_cmpR (op_eqD hr.units) (pv 9) (pv 11) (nomark _)))))))))))), ?_⟩
      have i40 := i3
      have ok := W0.bn.ok
      have small : s.ran.length ≤ 12 := by have := P0.few; omega
      have psm := P0.psl
      have jl12 := P0.jlen ok
      obtain ⟨l1, l6⟩ := P0.llen ok
      have rok := P0.rok
      have lev : r.levels.length = L.length := by rw [W0.bn.lev, P0.rel.len, jbs_len]
      have hz : ∀ n : Nat, n ≤ 1000 → n < sizeLine := fun n hn => Nat.lt_of_le_of_lt hn (by decide)
      obtain ⟨pp, xp0, yp0, rfl, _, _, _⟩ := dp_two W0.rule
      have subX : ∀ {N : BnA} {G : Hp}, Same (OffL (F ++ ftN n N) G) G := offL_sub _ _
      have wS : ∀ {N' : BnA} {G G' : Hp}, Same (OffL (ftN n N) G) (OffL (ftN n N') G') → Same (OffL (foot st ls fc ln n N L) G) (OffL (foot st ls fc ln n N L) G') := fun k => k.widen fun z hz => by simp [foot, hz]
      have w1 : ∀ {a : Addr} {G G' : Hp}, a ∈ foot st ls fc ln n N L → Same (Off a G) (Off a G') → Same (OffL (foot st ls fc ln n N L) G) (OffL (foot st ls fc ln n N L) G') := fun {a G G'} ha k => by
        refine Same.widen (A := [a]) (A' := [a]) (by rw [offL_one, offL_one]; exact k) fun z hz => ?_
        rw [List.mem_singleton.mp hz]
        exact ha
      have w0 : ∀ {G G' : Hp}, Same G G' → Same (OffL (foot st ls fc ln n N L) G) (OffL (foot st ls fc ln n N L) G') := fun k => offL_mono k
      have mSt : st ∈ foot st ls fc ln n N L := by simp [foot]
      have mLs : ls ∈ foot st ls fc ln n N L := by simp [foot]
      have mFc : fc ∈ foot st ls fc ln n N L := by simp [foot]
      have mLn : ln ∈ foot st ls fc ln n N L := by simp [foot]
      refine ⟨_, rfl, Nat.zero_le _, fun q1 nq1 => ?_⟩
      have sq1 := same_new (o := .lst ([] : List V)) nq1
      have W1 := W0.same sq1
      refine ⟨ln, q1, _, rfl, rfl, SqL.of (subX.at W1.names), SqL.of upd_same, ?_⟩
      generalize upd H q1 (.lst ([] : List V)) = G1 at W1 sq1 ⊢
      refine ⟨_, rfl, ?_⟩
      apply cutR (α := Hp → Prop) (F := fun R => ∀ (G2 : Hp), Wl CN CB K T n st sc ls fc ln (.ref pp) c r F (m + 1) G2 N s ps L el pl s.now (lensS s) (logD s) ws → Same (OffL (foot st ls fc ln n N L) H) (OffL (foot st ls fc ln n N L) G2) → R G2)
      · intro other
        by_cases hw : ws = []
        · have he : (ws.map V.str).isEmpty = true := by rw [hw]; rfl
          rw [he]
          refine iteF ?_
          refine iteF ?_
          exact other G1 (W1.more (by omega)) (w0 sq1)
        · have he : (ws.map V.str).isEmpty = false := by
            cases ws with
            | nil => exact absurd rfl hw
            | cons _ _ => rfl
          rw [he]
          refine iteT ?_
          refine ⟨_, rfl, st, sc, 3, _, rfl, by decide, by decide, W1.sto.same subX, by omega, fun rp G2 rp0 rp3 S2 K2 => ?_⟩
          have W2 := W1.draw S2 K2
          have f2 := (w0 sq1).trans (w1 mSt K2)
          refine ⟨rfl, _, rfl, ite2 (fun hc => ?_) (fun hc => ?_)⟩
          rotate_left
          · exact other G2 W2 f2
          · obtain ⟨us, x, e⟩ : ∃ us x, ws = us ++ [x] := by
              obtain ⟨u, y, h⟩ := (List.eq_nil_or_concat ws).resolve_left hw
              exact ⟨u, y, by rw [h, List.concat_eq_append]⟩
            have P1 := P0
            rw [e] at P1
            have hln2 := subX.at W2.names
            rw [e, List.map_append] at hln2
            obtain ⟨xn, nx⟩ := P1.wok x (List.mem_append_right _ (List.mem_singleton_self x))
            obtain ⟨_, x8, _⟩ := nameD_iff.mp xn
            rw [Array.length_toList] at x8
            have x8 : x.length ≤ 8 := x8
            have W3 := W2.pop hw us
            have f3 : Same (OffL (foot st ls fc ln n N L) H) (OffL (foot st ls fc ln n N L) (upd G2 ln (.lst (us.map V.str)))) := f2.trans (w1 mLn (by rw [off_upd]; exact Same.refl _))
            refine ⟨_, rfl, .inl ⟨rfl, _, SqL.of hln2⟩, ln, _, .str x, rfl, rfl, hln2, ?_, ?_⟩
            · simp
            rw [show (us.map V.str ++ [x].map V.str).dropLast = us.map V.str by simp]
            generalize upd G2 ln (.lst (us.map V.str)) = G3 at W3 f3 ⊢
            -- the door
            refine ⟨_, rfl, st, sc, 10, _, rfl, by decide, by decide, W3.sto.same subX, by omega, fun rd G4 rd0 rd10 S4 K4 => ?_⟩
            have W4 := W3.draw S4 K4
            have f4 := f3.trans (w1 mSt K4)
            refine ⟨by show 2 ≤ sizeLine; decide, fun o no => ?_⟩
            have so := same_new (o := .lst [V.int 0, .int rd]) no
            have oa := S4.ne no
            have ho : upd G4 o (.lst [V.int 0, .int rd]) o = some (.lst [V.int 0, .int rd]) := upd_same
            have W5 := W4.same so
            have f5 := f4.trans (w0 so)
            generalize upd G4 o (.lst [V.int 0, .int rd]) = G5 at W5 f5 ho ⊢
            refine ⟨_, rfl, st, sc, 2, _, rfl, by decide, by decide, W5.sto.same subX, by omega, fun ri G6 ri0 ri2 S6 K6 => ?_⟩
            have W6 := W5.draw S6 K6
            have f6 := f5.trans (w1 mSt K6)
            obtain ⟨e0, he0⟩ : ∃ e0 : Nat, atI [V.int 0, .int rd] ri = some (V.int (e0 : Nat)) := by
              rcases (show ri = 0 ∨ ri = 1 by omega) with rfl | rfl
              · exact ⟨0, rfl⟩
              · refine ⟨rd.toNat, ?_⟩
                rw [Int.toNat_of_nonneg rd0]
                rfl
            have ho6 : G6 o = some (.lst [V.int 0, .int rd]) := by
              have y := (show Same (Off st G5) (Off st G6) from K6).at (o := .lst [V.int 0, .int rd]) (b := o) (by rw [off_ne oa]; exact ho)
              rw [off_ne oa] at y
              exact y
            refine ⟨o, _, _, _, rfl, rfl, SqL.of ho6, he0, ?_⟩
            -- arrives
            refine ⟨_, rfl, n, N.dn, _, rfl, W6.bn.ob, by kernel_rfl, _, rfl, _, rfl, rfl, rfl, n, .ref pp, c, N, s, _, ps, x, e0, rfl, W6.bn, xn, by omega, subX.tab T W6.tab, nx, by omega, by omega, fun t0 At G7 B7 S7 Bt7 fr7 => ?_⟩
            have W7 := W6.bench B7 S7
            have f7 := f6.trans (wS S7)
            -- enters
            obtain ⟨p, hp⟩ : ∃ p, L[min e0 (L.length - 1)]? = some p := ⟨_, List.getElem?_eq_getElem (by omega)⟩
            have drl : Dp K (Off ls G7) (.ref pp) (bRulD r) := rul_keep (fun a xs q => by
              rw [← offL_one]
              exact sqt_off (fun z hz o h => by
                rw [List.mem_singleton.mp hz, subX.at W7.lines.top] at h
                cases h
                exact noTup_lst) (same_seqT subX q)) W7.rule
            obtain ⟨pp', xp, yp, epp, qp, dxp, dyp⟩ := dp_two drl
            cases epp
            refine ⟨_, rfl, _, rfl, pp, _, _, _, rfl, rfl, same_seqT (off_sub ls G7) qp, rfl, _, rfl, _, rfl, ls, _, x, e0, r, L, p, rfl, W7.lines.same subX, dxp, lev, l1, l6, hp, Nat.le_trans (line_le (List.mem_of_getElem? hp)) (by omega), fun d a G8 nd na hL8 k8 => ?_⟩
            have W8 := W7.lvl (C := [ls]) (fun z hz => .inl (List.mem_singleton.mp hz)) (by rw [offL_one, offL_one]; exact k8) hL8 (List.length_set ..) (fun q hq => by
              rcases mem_set_or hq with ⟨k', _, e⟩ | rfl
              · exact .inr ⟨q, List.mem_of_getElem? e, rfl⟩
              · exact .inl nd) (fun z hz => by
              rcases jas_set_sub hz with h | h
              · exact .inl h
              · obtain ⟨b, hb, rfl⟩ := List.mem_map.mp h
                unfold inLv at hb
                have q : b ∈ p.2 ∨ b = (a, (x, 0, 0)) := by
                  split at hb
                  · exact (List.mem_cons.mp hb).symm
                  · exact (List.mem_append.mp hb).imp id List.mem_singleton.mp
                rcases q with q | rfl
                · exact .inl (List.mem_map.mpr ⟨b, jl_mem (List.mem_of_getElem? hp) q, rfl⟩)
                · exact .inr na)
            have f8 := f7.trans (w1 mLs k8)
            refine ⟨_, rfl, rfl, ?_⟩
            have eL : lensS (s.enter r x e0) = lensS s := lens_enter ok
            have P2 : P12 (i + 1) r (s.enter r x e0) (t0 :: ps) (L.set (min e0 (L.length - 1)) (d, inLv r (min e0 (L.length - 1)) x p.2 a)) us := P1.arr ok (l := p.2.map (·.2)) (by rw [jbs_len]; exact jbs_get hp) (by
              rw [jbs_set, jbs_len]
              congr 1
              unfold inLv
              split
              · rfl
              · rw [List.map_append]
                rfl)
            have freshH : ∀ {X : Hp} {z : Addr}, Same (OffL (foot st ls fc ln n N L) H) (OffL (foot st ls fc ln n N L) X) → (∀ y ∈ foot st ls fc ln n N L, X y ≠ none) → X z = none → H z = none := fun {X z} f al e => by
              have nf : z ∉ foot st ls fc ln n N L := fun m => al z m e
              have y := f.free (l := z) (by rw [offL_out nf]; exact e)
              rw [offL_out nf] at y
              exact y
            refine k N (s.enter r x e0) t0 At _ el pl us G8 ?_ P2 f8 (fun z hz => ?_) (fun z hz => .inl (by simp [foot, hz])) ?_ (fun z hz => freshH f6 W6.footAl (fr7 z hz)) id id (fun y hy => ?_)
            · rw [eL]
              exact W8.more (by omega)
            · rcases jas_set_sub hz with h | h
              · exact .inl (by simp [foot, h])
              · obtain ⟨b, hb, rfl⟩ := List.mem_map.mp h
                unfold inLv at hb
                have q : b ∈ p.2 ∨ b = (a, (x, 0, 0)) := by
                  split at hb
                  · exact (List.mem_cons.mp hb).symm
                  · exact (List.mem_append.mp hb).imp id List.mem_singleton.mp
                rcases q with q | rfl
                · have w : b.1 ∈ jas L := List.mem_map.mpr ⟨b, jl_mem (List.mem_of_getElem? hp) q, rfl⟩
                  exact .inl (by simp [foot, w])
                · exact .inr (freshH f7 W7.footAl na)
            · have ls7 : OffL (ftN n N) G7 ls = some (.lst (tops L)) := by
                have z := W7.lines.top
                rw [offF] at z
                exact (offL_some z).2
              refine past_kept (C := [ls]) Bt7 (fun z hz m => ?_) (fun z hz => ?_) (by rw [offL_one, offL_one]; exact k8)
              · rw [List.mem_singleton.mp hz] at m
                have y := fr7 ls m
                rw [subX.at W6.lines.top] at y
                cases y
              · rw [List.mem_singleton.mp hz]
                exact ⟨_, ls7⟩
            · rw [e]
              rcases hy with hy | hy
              · have hy : y ∈ (s.ran ++ [(x, (0 : Int))]).map (·.1) := hy
                rw [List.map_append] at hy
                rcases List.mem_append.mp hy with m | m
                · exact .inl m
                · exact .inr (List.mem_append_right _ m)
              · exact .inr (List.mem_append_left _ hy)
      intro G2 W2 f2
      -- the order
      refine ⟨_, rfl, ls, L, rfl, W2.lines.same subX, l6, by omega, fun o O G3 s3 no ho fo aO eO => ?_⟩
      dsimp only [tNoPart]
      refine ⟨_, rfl, _, rfl, o, _, rfl, SqL.of ho, fun ac nac => ?_⟩
      have ec : cutV (O.map fun q => V.ref q.1) none (some (c : Int)) = (O.take c).map fun q => V.ref q.1 := by
        rw [cut_take (by omega), Int.toNat_natCast]
        exact (List.map_take ..).symm
      rw [ec]
      have eOc : (O.take c).map (·.2) = (ordL L).take c := by rw [List.map_take, eO]
      have aOc : OrdAt G3 (O.take c) := fun q hq => aO q (List.mem_of_mem_take hq)
      have fOc : ∀ q ∈ O.take c, G2 q.1 = none := fun q hq => fo q (List.mem_of_mem_take hq)
      have lenO : (O.take c).length ≤ 12 := by
        have z := congrArg List.length eO
        have y := congrArg List.length (ordL_jobs (L := L))
        rw [List.length_map] at z y
        rw [List.length_take]
        omega
      generalize O.take c = Oc at eOc aOc fOc lenO ⊢
      have inL : ∀ q ∈ Oc, q.2.2 ∈ jl L := fun q hq => by
        have m : q.2 ∈ ordL L := by
          have z : q.2 ∈ Oc.map (·.2) := List.mem_map.mpr ⟨q, hq, rfl⟩
          rw [eOc] at z
          exact List.mem_of_mem_take z
        rw [← ordL_jobs]
        exact List.mem_map.mpr ⟨q.2, m, rfl⟩
      have eJ : Oc.map (fun q => q.2.2) = (jl L).take c := by
        have z := congrArg (List.map fun q : Nat × (Addr × Jb) => q.2) eOc
        rw [List.map_map, List.map_take] at z
        rw [← ordL_jobs]
        exact z
      have eN : Oc.map (fun q => q.2.2.2.1) = s.run c := by
        have z := congrArg (List.map fun a : Addr × Jb => a.2.1) eJ
        rw [List.map_map, List.map_take, jl_names P0.rel] at z
        unfold Bd.run
        rw [Int.toNat_natCast]
        exact z
      have s4 := same_new (o := .lst (Oc.map fun q => V.ref q.1)) nac
      have W4 := (W2.same s3).same s4
      have f4 := f2.trans (w0 (s3.trans s4))
      have xac : OffL (F ++ ftN n N) (upd G3 ac (.lst (Oc.map fun q => V.ref q.1))) ac = some (.lst (Oc.map fun q => V.ref q.1)) := by
        rw [(W2.same s3).at_new nac]
        exact upd_same
      have acl : ac ≠ ls := fun e => by
        have y := subX.at (W2.same s3).lines.top
        rw [← e, nac] at y
        cases y
      have xO : OrdAt (OffL (F ++ ftN n N) (upd G3 ac (.lst (Oc.map fun q => V.ref q.1)))) Oc := fun q hq => by
        rw [W2.at_new (fOc q hq)]
        exact s4.at (aOc q hq)
      generalize upd G3 ac (.lst (Oc.map fun q => V.ref q.1)) = G4 at W4 f4 xac xO ⊢
      have hac := subX.at xac
      have rnd := Bd.run_nd ok.toOk0 (c := (c : Int))
      have rle : (s.run c).length ≤ 12 := by
        rw [← eN, List.length_map]
        exact lenO
      -- the running ones
      refine ⟨_, rfl, ac, rfl, ⟨_, SqL.of hac⟩, fun D5 nD5 => ?_⟩
      refine lc_it (walk_list (K := K) (a := ac) (xs := Oc.map fun q => V.ref q.1)) (fun i Hc => Hc = upd G4 D5 (.lst ((Oc.take i).map fun q => V.str q.2.2.2.1))) rfl (fun i Hc _ e => by rw [e]; exact SqL.of ((same_new nD5).at hac)) ?_ ?_
      · rintro i y Hc0 Hc hi rfl ⟨rfl, hy⟩
        rw [List.getElem?_map] at hy
        obtain ⟨q, hq, rfl⟩ := Option.map_eq_some_iff.mp hy
        have qm := List.mem_of_getElem? hq
        have sD := same_new (o := .lst ((Oc.take i).map fun q => V.str q.2.2.2.1)) nD5
        have hj := sD.at (subX.at (W4.lines.jobs _ (inL q qm)))
        refine ⟨q.1, _, rfl, SqT.of (sD.at (subX.at (xO q qm))), rfl, _, _, rfl, _, _, rfl, rfl, rfl, ?_⟩
        refine ⟨_, rfl, q.2.2.1, _, _, _, rfl, rfl, SqL.of hj, rfl, _, upd_same, ?_, ?_⟩
        · rw [List.length_map, List.length_take]
          exact hz _ (Nat.le_trans (Nat.min_le_right _ _) (by omega))
        · rw [upd_upd, List.take_add_one, hq, List.map_append]
          rfl
      rintro Hc rfl
      have e1 : ((Oc.take (Oc.map fun q => V.ref q.1).length).map fun q => V.str q.2.2.2.1) = (s.run c).map V.str := by
        rw [List.length_map, List.take_length, ← eN, List.map_map]
        rfl
      rw [e1]
      refine ⟨D5, _, rfl, .inl ⟨SqL.of upd_same, fun ta nta => ?_⟩⟩
      have s5 := (same_new (o := .lst ((s.run c).map V.str)) nD5).trans (same_new (o := .tup ((s.run c).map V.str)) nta)
      have W5 := W4.same s5
      have f5 := f4.trans (w0 s5)
      have S5 := offL_mono (ft := F ++ ftN n N) s5
      have xac5 := S5.at xac
      have xO5 := xO.same S5
      have xta5 : OffL (F ++ ftN n N) (upd (upd G4 D5 (.lst ((s.run c).map V.str))) ta (.tup ((s.run c).map V.str))) ta = some (.tup ((s.run c).map V.str)) := by
        rw [(W4.same (same_new (o := .lst ((s.run c).map V.str)) nD5)).at_new nta]
        exact upd_same
      generalize upd (upd G4 D5 (.lst ((s.run c).map V.str))) ta (.tup ((s.run c).map V.str)) = G5 at W5 f5 xac5 xO5 xta5 ⊢
      have S5' := W5.sto.same subX
      have tas : ta ≠ st := fun e => by
        obtain ⟨_, _, _, _, _, g1, _⟩ := S5'.ex
        have y := subX.at xta5
        rw [e, g1] at y
        cases y
      -- some of them
      refine ⟨_, rfl, _, rfl, st, sc, ta, _, s.run c, rfl, S5', by omega, SqT.of (by rw [off_ne tas]; exact subX.at xta5), rnd, rle, fun tf fs G6 S6 K6 fnd fsub ntf htf => ?_⟩
      have W6 := W5.draw S6 K6
      have f6 := f5.trans (w1 mSt K6)
      have xac6 := W5.drawMv K6 xac5 trivial (fun a i tl e => by
        have e := HO.lst.inj e
        cases Oc with
        | nil => cases e
        | cons q r => cases r with
          | nil => cases e
          | cons u v => cases e)
      have xO6 : OrdAt (OffL (F ++ ftN n N) G6) Oc := fun q hq => W5.drawMv K6 (xO5 q hq) trivial (fun _ _ _ e => by cases e)
      have xta6 := W5.drawMv K6 xta5 trivial (fun _ _ _ e => by cases e)
      have xtf6 : OffL (F ++ ftN n N) G6 tf = some (.tup (fs.map V.str)) := by rw [W5.at_new ntf]; exact htf
      -- the moment
      have hfc6 := subX.at W6.facts
      refine ⟨_, rfl, fc, _, _, _, rfl, rfl, SqL.of hfc6, rfl, _, _, rfl, rfl, _, rfl, fc, _, 0, 0, rfl, rfl, hfc6, rfl, ?_⟩
      obtain ⟨pr6, p61, p62⟩ := W6.pairs
      obtain ⟨ev6, v61, v62⟩ := W6.ended
      have W7 := W6.fact (t' := s.now + 1) v61 v62 p61 p62 W6.flat W6.le W6.lp
      have xac7 := W6.factMv (u := .lst [.int (s.now + 1), .ref el, .ref pl]) xac6 trivial (fun i tl e => by
        have e := HO.lst.inj e
        cases Oc with
        | nil => cases e
        | cons q r => cases e)
      have xO7 : OrdAt (OffL (F ++ ftN n N) (upd G6 fc (.lst [.int (s.now + 1), .ref el, .ref pl]))) Oc := fun q hq => W6.factMv (xO6 q hq) trivial (fun _ _ e => by cases e)
      have xta7 := W6.factMv (u := .lst [.int (s.now + 1), .ref el, .ref pl]) xta6 trivial (fun _ _ e => by cases e)
      have xtf7 := W6.factMv (u := .lst [.int (s.now + 1), .ref el, .ref pl]) xtf6 trivial (fun _ _ e => by cases e)
      have f7 : Same (OffL (foot st ls fc ln n N L) H) (OffL (foot st ls fc ln n N L) (upd G6 fc (.lst [.int (s.now + 1), .ref el, .ref pl]))) := f6.trans (w1 mFc (by rw [off_upd]; exact Same.refl _))
      -- the unit
      have tf7 : OffL (ftN n N) (upd G6 fc (.lst [.int (s.now + 1), .ref el, .ref pl])) tf = some (.tup (fs.map V.str)) := by
        have z := xtf7
        rw [offF] at z
        exact (offL_some z).2
      refine ⟨_, rfl, n, N.dn, _, rfl, W7.bn.ob, by kernel_rfl, _, rfl, n, .ref pp, c, N, s, _, ps, tf, fs, rfl, W7.bn, by omega, SqT.of tf7, fnd, fsub, by omega, by have := P0.fl; omega, (fun u e => by have := rok.boost u e; omega), fun t0 At A' D8 G8 B8 S8 hD8 Bt8 fr8 => ?_⟩
      have W8 := W7.bench B8 S8
      have f8 := f7.trans (wS S8)
      have nft8 := ft_fresh S8
      generalize ({ N with A := A' } : BnA) = N8 at B8 S8 hD8 W8 Bt8 nft8
      have X8 : Same (OffL (F ++ ftN n N) (upd G6 fc (.lst [.int (s.now + 1), .ref el, .ref pl]))) (OffL (F ++ ftN n N8) G8) := by
        rw [offF, offF]
        exact offL_mono S8
      have xac8 := X8.at xac7
      have xO8 := xO7.same X8
      have xta8 := X8.at xta7
      have xtf8 := X8.at xtf7
      have hfc8 := subX.at W8.facts
      have drl : Dp K (OffL (ls :: jas L) G8) (.ref pp) (bRulD r) := rul_keep (fun a xs q => W8.jobTup (same_seqT subX q)) W8.rule
      refine ⟨_, rfl, _, rfl, _, rfl, fc, _, _, _, rfl, rfl, SqL.of hfc8, rfl, _, rfl, _, rfl, ls, ac, tf, .ref pp, c, r, s, L, Oc, fs, rfl, W8.lines.same subX, rok, lev, by omega, P0.rel, ok.toOk0, P0.uq, W8.noJob xac8 acl (fun b e => by
          have e := HO.lst.inj e
          cases Oc with
          | nil => cases e
          | cons q r => cases e), (fun q hq => W8.noJob (xO8 q hq) (fun e => by
            have y := xO8 q hq
            rw [e, W8.lines.top] at y
            cases y) (fun b e => by cases e)), eOc, W8.jobTup (SqT.of (subX.at xtf8)), drl, fun L9 G9 hL9 len9 R9 fr9 old9 jb9 k9 => ?_⟩
      have W9 := W8.lvl (C := ls :: jas L) (fun z hz => List.mem_cons.mp hz) k9 hL9 len9 old9 fr9
      have f9 : Same (OffL (foot st ls fc ln n N L) H) (OffL (foot st ls fc ln n N L) G9) := f8.trans (k9.widen fun z hz => by
        rcases List.mem_cons.mp hz with rfl | hz
        · exact mLs
        · simp [foot, hz])
      have ch9 := W8.chg (C := ls :: jas L) k9 W8.jobNt
      have tup9 : ∀ {z : Addr} {xs : List V}, OffL (F ++ ftN n N8) G8 z = some (.tup xs) → OffL (F ++ ftN n N8) G9 z = some (.tup xs) := fun {z xs} e => ch9.mv z _ (fun m => by
        obtain ⟨ys, h⟩ := W8.jobNt z m
        rw [h] at e
        cases e) e trivial
      have xtf9 := tup9 xtf8
      have xta9 := tup9 xta8
      have xO9 : OrdAt (OffL (F ++ ftN n N8) G9) Oc := fun q hq => tup9 (xO8 q hq)
      have xac9 : OffL (F ++ ftN n N8) G9 ac = some (.lst (Oc.map fun q => V.ref q.1)) := ch9.mv ac _ (fun m => by
        rcases List.mem_cons.mp m with m | m
        · exact acl m
        · obtain ⟨a, ha, e⟩ := List.mem_map.mp m
          have y := W8.lines.jobs a ha
          rw [e, xac8] at y
          have y := HO.lst.inj (Option.some.inj y)
          cases Oc with
          | nil => cases y
          | cons q r => cases y) xac8 trivial
      have hDx8 : OffL (F ++ ftN n N8) G8 D8 = some (.tup ((s.run c).map V.str)) := by
        rw [offF, offL_out (fun m => by
          obtain ⟨o, a1, a2, _⟩ := W8.al D8 m
          have y := (offL_some hD8).2
          rw [a1] at y
          exact a2.1 _ (Option.some.inj y))]
        exact hD8
      have xD9 := tup9 hDx8
      have sub9 := offL_sub (F ++ ftN n N8) G9
      have hac9 := sub9.at xac9
      have hfc9 := sub9.at W9.facts
      have htf9 := sub9.at xtf9
      -- what ended
      obtain ⟨ev, ev1, ev2⟩ := W9.ended
      have evl : ev.length ≤ 12 := by
        have z := dps_len ev2
        have y := nd_len ok.ndf fun x hx => by
          obtain ⟨fi, h1, h2⟩ := List.mem_flatMap.mp hx
          exact (ok.fst fi h1).2.2 x h2
        rw [z, List.length_map]
        unfold lensS
        rw [List.length_map] at y ⊢
        omega
      refine ⟨_, rfl, fc, _, _, _, rfl, rfl, SqL.of hfc9, rfl, ?_⟩
      refine ⟨_, rfl, ac, rfl, ⟨_, SqL.of hac9⟩, fun D10 nD10 => ?_⟩
      refine lc_it (walk_list (K := K) (a := ac) (xs := Oc.map fun q => V.ref q.1)) (fun i Hc => ∃ vs, Hc D10 = some (.lst vs) ∧ vs.length ≤ i ∧ DpAll K (Off D10 Hc) vs ((((Oc.take i).filter fun q => decide (q.2.2.2.1 ∈ fs)).map fun q => (q.2.2.2.1, q.2.2.2.2.2 + 1)).map pairSI) ∧ Same G9 (Off D10 Hc)) ⟨[], upd_same, Nat.le_refl _, .nil, off_newB nD10⟩ (fun i Hc _ ⟨_, _, _, _, sc⟩ => SqL.of ((sc.trans (off_sub D10 Hc)).at hac9)) ?_ ?_
      · rintro i y Hc0 Hc hi ⟨vs, hD, lvs, dvs, sc⟩ ⟨rfl, hy⟩
        rw [List.getElem?_map] at hy
        obtain ⟨q, hq, rfl⟩ := Option.map_eq_some_iff.mp hy
        have qm := List.mem_of_getElem? hq
        have sH := sc.trans (off_sub D10 Hc)
        have hj := sH.at (jb9 q qm)
        have tk : (Oc.take (i + 1)).filter (fun q => decide (q.2.2.2.1 ∈ fs)) = (Oc.take i).filter (fun q => decide (q.2.2.2.1 ∈ fs)) ++ (if q.2.2.2.1 ∈ fs then [q] else []) := by
          rw [List.take_add_one, hq, List.filter_append]
          congr 1
          by_cases m : q.2.2.2.1 ∈ fs <;> simp [m]
        refine ⟨q.1, _, rfl, SqT.of (sH.at (sub9.at (xO9 q qm))), rfl, _, _, rfl, _, _, rfl, rfl, rfl, ?_⟩
        refine ⟨_, rfl, q.2.2.1, _, _, _, rfl, rfl, SqL.of hj, rfl, _, rfl, tf, _, rfl, .inr (SqT.of (sH.at htf9)), rfl, all_flatS fs, _, rfl, ?_⟩
        rw [if_neg Bool.false_ne_true, inV_S, tk]
        rw [List.length_map] at hi
        by_cases m : q.2.2.2.1 ∈ fs
        · rw [decide_eq_true (show (bumpJ q.2.2.2).1 ∈ fs from m)]
          refine iteT ?_
          refine ⟨_, rfl, q.2.2.1, _, _, _, rfl, rfl, SqL.of hj, rfl, _, rfl, q.2.2.1, _, _, _, rfl, rfl, SqL.of hj, rfl, by show 2 ≤ sizeLine; decide, fun t nt => ?_⟩
          have st' := same_new (o := .tup [V.str q.2.2.2.1, .int (q.2.2.2.2.2 + 1)]) nt
          have tD : t ≠ D10 := fun e => by rw [e, hD] at nt; cases nt
          refine ⟨vs, st'.at hD, hz _ (by omega), vs ++ [.ref t], upd_same, by rw [List.length_append]; exact Nat.succ_le_succ lvs, ?_, ?_⟩
          · rw [off_upd, if_pos m, List.map_append, List.map_append]
            refine dps_app (dps_same (off_mono (a := D10) st') dvs) (.cons (.tup (SqT.of ?_) (.cons (.str _) (.cons (.int _) .nil))) .nil)
            rw [off_ne tD, upd_same]
            rfl
          · rw [off_upd]
            exact sc.trans (off_mono (a := D10) st')
        · rw [decide_eq_false (show ¬ (bumpJ q.2.2.2).1 ∈ fs from m)]
          refine iteF ?_
          rw [if_neg m, List.append_nil]
          exact ⟨vs, hD, Nat.le_succ_of_le lvs, dvs, sc⟩
      rintro Hc ⟨vs, hD10, lvs, dvs, sc10⟩
      rw [List.length_map] at lvs dvs
      rw [List.take_length] at dvs
      have s10 := sc10.trans (off_sub D10 Hc)
      have W10 := W9.same s10
      refine ⟨el, D10, ev, vs, rfl, rfl, s10.at (sub9.at ev1), hD10, Nat.le_of_lt (hz _ (by omega)), fun el2 nel2 => ?_⟩
      have s11 := same_new (o := .lst (ev ++ vs)) nel2
      have s911 := s10.trans s11
      have W11 := W9.same s911
      have S911 := offL_mono (ft := F ++ ftN n N8) s911
      have de11 : DpAll K (OffL (F ++ ftN n N8) (upd Hc el2 (.lst (ev ++ vs)))) (ev ++ vs) ((lensS s ++ ((Oc.filter fun q : Addr × Nat × (Addr × Jb) => decide (q.2.2.2.1 ∈ fs)).map fun q : Addr × Nat × (Addr × Jb) => (q.2.2.2.1, q.2.2.2.2.2 + 1))).map pairSI) := by
        rw [List.map_append]
        refine dps_app (dps_same S911 ev2) (flatTs_keep (fun a xs q => same_seqT (offL_mono (ft := F ++ ftN n N8) s11) (sqt_off W10.noTup (same_seqT (off_sub D10 Hc) q))) dvs flat_pairs)
      have eL : lensS (s.endUnits r c 1 fs) = lensS s ++ ((Oc.filter fun q : Addr × Nat × (Addr × Jb) => decide (q.2.2.2.1 ∈ fs)).map fun q : Addr × Nat × (Addr × Jb) => (q.2.2.2.1, q.2.2.2.2.2 + 1)) := by
        rw [lens_unitsL P0.rel ok fsub, ← eJ, List.filter_map, List.map_map]
        rfl
      rw [← eL] at de11
      have xel2 : OffL (F ++ ftN n N8) (upd Hc el2 (.lst (ev ++ vs))) el2 = some (.lst (ev ++ vs)) := by rw [W10.at_new nel2]; exact upd_same
      have lnel2 : ln ≠ el2 := fun e => by
        have y := (offL_sub _ _).at W10.names
        rw [e, nel2] at y
        cases y
      have lel2 : ls ≠ el2 := fun e => by
        have y := (offL_sub _ _).at W10.lines.top
        rw [e, nel2] at y
        cases y
      obtain ⟨pr, p1, p2⟩ := W11.pairs
      have hfc11 := (offL_sub _ _).at W11.facts
      refine ⟨_, rfl, fc, _, 1, 1, rfl, rfl, hfc11, rfl, ?_⟩
      have W12 := W11.fact (t' := s.now + 1) xel2 de11 p1 p2 W11.flat lel2 W11.lp
      have f11 := f9.trans (w0 s911)
      have f12 : Same (OffL (foot st ls fc ln n N L) H) (OffL (foot st ls fc ln n N L) (upd (upd Hc el2 (.lst (ev ++ vs))) fc (.lst [.int (s.now + 1), .ref el2, .ref pl]))) := f11.trans (w1 mFc (by rw [off_upd]; exact Same.refl _))
      have xtf12 := W11.factMv (u := .lst [.int (s.now + 1), .ref el2, .ref pl]) (S911.at xtf9) trivial (fun _ _ e => by cases e)
      have xta12 := W11.factMv (u := .lst [.int (s.now + 1), .ref el2, .ref pl]) (S911.at xta9) trivial (fun _ _ e => by cases e)
      have xD12 := W11.factMv (u := .lst [.int (s.now + 1), .ref el2, .ref pl]) (S911.at xD9) trivial (fun _ _ e => by cases e)
      have P2 : P12 (i + 1) r (s.endUnits r c 1 fs) (t0 :: ps) L9 ws := P0.unit ok R9
      have eG := log_units (r := r) (c := (c : Int)) ok.toOk0 fnd fsub
      have enow : (s.endUnits r c 1 fs).now = s.now + 1 := (Bd.units_after ok.toOk0 (c : Int) 1 fs).now
      -- the board of the past
      have fcN8 : OffL (ftN n N8) G9 fc = some (.lst [.int (s.now + 1), .ref el, .ref pl]) := by
        have z := W9.facts
        rw [offF] at z
        exact (offL_some z).2
      have outT : ∀ {z : Addr} {X : Hp} {xs : List V}, X z = some (.lst xs) → Same (OffL (foot st ls fc ln n N L) H) (OffL (foot st ls fc ln n N L) X) → True := fun _ _ => trivial
      have nT : ∀ z, (upd G6 fc (.lst [.int (s.now + 1), .ref el, .ref pl])) z ≠ none → z ∉ ftB t0 At := fun z e m => e (fr8 z m)
      have Bt9 : BdAt CB K (OffL (ftN n N8) G9) t0 (.ref pp) c At s := past_kept (C := ls :: jas L) Bt8 (fun z hz => nT z (by
          obtain ⟨xs, e⟩ := W7.jobNt z hz
          rw [(offL_some e).2]
          exact fun w => nomatch w)) (fun z hz => by
          obtain ⟨xs, e⟩ := W8.jobNt z hz
          rw [offF] at e
          exact ⟨xs, (offL_some e).2⟩) k9
      have Bt11 := Bt9.same (offL_mono (ft := ftN n N8) s911)
      have fc11 : OffL (ftN n N8) (upd Hc el2 (.lst (ev ++ vs))) fc = some (.lst [.int (s.now + 1), .ref el, .ref pl]) := (offL_mono (ft := ftN n N8) s911).at fcN8
      have fcT : fc ∉ ftB t0 At := nT fc (by rw [upd_same]; exact fun w => nomatch w)
      have Bt12 : BdAt CB K (OffL (ftN n N8) (upd (upd Hc el2 (.lst (ev ++ vs))) fc (.lst [.int (s.now + 1), .ref el2, .ref pl]))) t0 (.ref pp) c At s := past_kept (C := [fc]) Bt11 (fun z hz => by rw [List.mem_singleton.mp hz]; exact fcT) (fun z hz => by rw [List.mem_singleton.mp hz]; exact ⟨_, fc11⟩) (by rw [offL_one, offL_one, off_upd]; exact Same.refl _)
      have freshF : ∀ {X : Hp} {z : Addr}, Same (OffL (foot st ls fc ln n N L) H) (OffL (foot st ls fc ln n N L) X) → X z = none → z ∈ foot st ls fc ln n N L ∨ H z = none := fun {X z} f e => by
        by_cases nf : z ∈ foot st ls fc ln n N L
        · exact .inl nf
        · have y := f.free (l := z) (by rw [offL_out nf]; exact e)
          rw [offL_out nf] at y
          exact .inr y
      have jas' : ∀ z ∈ jas L9, z ∈ foot st ls fc ln n N L ∨ H z = none := fun z hz => by
        rcases fr9 z hz with h | h
        · exact .inl (by simp [foot, h])
        · exact freshF f8 h
      have ftn' : ∀ z ∈ ftN n N8, z ∈ foot st ls fc ln n N L ∨ H z = none := fun z hz => by
        rcases nft8 z hz with h | h
        · exact .inl (by simp [foot, h])
        · exact freshF f7 h
      have frB : ∀ z ∈ ftB t0 At, H z = none := fun z hz => by
        rcases freshF f7 (fr8 z hz) with h | h
        · exact absurd (fr8 z hz) (W7.footAl z h)
        · exact h
      -- the end
      have shr : SeqAt.shaped (.tuple ((s.run c).map PyData.str)) = true := sh_names fun x hx => name_strOk (P0.nok x (ok.sub x (Bd.run_sub x hx)))
      have last : ∀ (G : Hp) (pl' : Addr), Wl CN CB K T n st sc ls fc ln (.ref pp) c r F (m + 1 + 20) G N8 (s.endUnits r c 1 fs) (t0 :: ps) L9 el2 pl' (s.now + 1) (lensS (s.endUnits r c 1 fs)) (logD (s.endUnits r c 1 fs)) ws → Same (OffL (foot st ls fc ln n N L) H) (OffL (foot st ls fc ln n N L) G) → BdAt CB K (OffL (ftN n N8) G) t0 (.ref pp) c At s → (ln ≠ pl → ln ≠ pl') → Q (.bl true) G := fun G pl' w f b hp => by
        rw [← enow] at w
        exact k N8 (s.endUnits r c 1 fs) t0 At L9 el2 pl' ws G (w.more (by omega)) P2 f jas' ftn' b frB (fun _ => lnel2) hp (fun x hx => by
          rw [(Bd.units_after (r := r) ok.toOk0 (c : Int) 1 fs).ran] at hx
          exact hx)
      refine ⟨_, rfl, Nat.zero_le _, fun e3 ne3 => ?_⟩
      have s13 := same_new (o := .tup ([] : List V)) ne3
      have W13 := W12.same s13
      have S13 := offL_mono (ft := F ++ ftN n N8) s13
      have f13 := f12.trans (w0 s13)
      have xtf13 := S13.at xtf12
      have xta13 := S13.at xta12
      have xD13 := S13.at xD12
      have Bt13 := Bt12.same (offL_mono (ft := ftN n N8) s13)
      have he13 : upd (upd (upd Hc el2 (.lst (ev ++ vs))) fc (.lst ([V.int (s.now + 1), .ref el, .ref pl].set 1 (.ref el2)))) e3 (.tup []) e3 = some (.tup []) := upd_same
      generalize upd (upd (upd Hc el2 (.lst (ev ++ vs))) fc (.lst ([V.int (s.now + 1), .ref el, .ref pl].set 1 (.ref el2)))) e3 (.tup ([] : List V)) = G13 at W13 f13 xtf13 xta13 xD13 Bt13 he13 ⊢
      refine ⟨tf, e3, _, rfl, rfl, SqT.of ((offL_sub _ _).at xtf13), SqT.of he13, ?_⟩
      refine ⟨_, rfl, ?_⟩
      by_cases hf : fs = []
      · have he : (fs.map V.str).isEmpty = true := by rw [hf]; rfl
        rw [he]
        refine iteF ?_
        rw [if_pos hf, List.append_nil] at eG
        rw [← eG] at W13
        refine ⟨_, rfl, _, rfl, .tuple ((s.run c).map PyData.str), .tuple ((s.run c).map PyData.str), .tup (SqT.of ((offL_sub _ _).at xD13)) (dps_strs _), .tup (SqT.of ((offL_sub _ _).at xta13)) (dps_strs _), shr, shr, ?_⟩
        rw [eqv_same shr]
        exact last _ pl W13 f13 Bt13 id
      · have he : (fs.map V.str).isEmpty = false := by
          cases fs with
          | nil => exact absurd rfl hf
          | cons _ _ => rfl
        rw [he]
        refine iteT ?_
        rw [if_neg hf] at eG
        have hfc13 := (offL_sub _ _).at W13.facts
        obtain ⟨pr, pr1, pr2⟩ := W13.pairs
        have prl : pr.length ≤ 300 := by
          have z := dps_len pr2
          rw [z]
          unfold logD
          rw [List.length_map]
          have := P0.fl
          omega
        have hpr := (offL_sub _ _).at pr1
        refine ⟨_, rfl, fc, _, _, _, rfl, rfl, SqL.of hfc13, rfl, ?_⟩
        refine ⟨_, rfl, fc, _, _, _, rfl, rfl, SqL.of hfc13, rfl, _, rfl, tf, _, rfl, .inr (SqT.of ((offL_sub _ _).at xtf13)), by show 2 ≤ sizeLine; decide, fun t14 nt14 => ?_⟩
        have s14 := same_new (o := .tup [V.int (s.now + 1), .int ((fs.map V.str).length : Nat)]) nt14
        refine ⟨by show 1 ≤ sizeLine; decide, fun w15 nw15 => ?_⟩
        have s15 := same_new (o := .lst [V.ref t14]) nw15
        have hw15 : upd (upd G13 t14 (.tup [V.int (s.now + 1), .int ((fs.map V.str).length : Nat)])) w15 (.lst [V.ref t14]) w15 = some (.lst [V.ref t14]) := upd_same
        have Wm := (W13.same s14).same s15
        have xm14 : OffL (F ++ ftN n N8) (upd (upd G13 t14 (.tup [V.int (s.now + 1), .int ((fs.map V.str).length : Nat)])) w15 (.lst [V.ref t14])) t14 = some (.tup [V.int (s.now + 1), .int ((fs.map V.str).length : Nat)]) := (offL_mono (ft := F ++ ftN n N8) s15).at ((W13.at_new nt14).trans upd_same)
        have s1415 := s14.trans s15
        generalize upd (upd G13 t14 (.tup [V.int (s.now + 1), .int ((fs.map V.str).length : Nat)])) w15 (.lst [V.ref t14]) = Gm at Wm xm14 s1415 hw15 ⊢
        refine ⟨pl, w15, pr, _, rfl, rfl, s1415.at hpr, hw15, Nat.le_of_lt (hz _ (by show pr.length + 1 ≤ 1000; omega)), fun pl2 npl2 => ?_⟩
        have s16 := same_new (o := .lst (pr ++ [V.ref t14])) npl2
        have s146 := s1415.trans s16
        have W16 := W13.same s146
        have S146 := offL_mono (ft := F ++ ftN n N8) s146
        have hfc16 := (offL_sub _ _).at W16.facts
        refine ⟨_, rfl, fc, _, 2, 2, rfl, rfl, hfc16, rfl, ?_⟩
        obtain ⟨ev16, v1, v2⟩ := W16.ended
        have xpl2 : OffL (F ++ ftN n N8) (upd Gm pl2 (.lst (pr ++ [V.ref t14]))) pl2 = some (.lst (pr ++ [V.ref t14])) := (Wm.at_new npl2).trans upd_same
        have lnpl2 : ln ≠ pl2 := fun e => by
          have y := (offL_sub _ _).at Wm.names
          rw [e, npl2] at y
          cases y
        have lpl2 : ls ≠ pl2 := fun e => by
          have y := (offL_sub _ _).at Wm.lines.top
          rw [e, npl2] at y
          cases y
        have xt14 := (offL_mono (ft := F ++ ftN n N8) s16).at xm14
        have dG : DpAll K (OffL (F ++ ftN n N8) (upd Gm pl2 (.lst (pr ++ [V.ref t14])))) (pr ++ [V.ref t14]) (logD (s.endUnits r c 1 fs)) := by
          rw [eG]
          refine dps_app (dps_same S146 pr2) (.cons (.tup (SqT.of xt14) ?_) .nil)
          rw [List.length_map]
          exact .cons (.int _) (.cons (.int _) .nil)
        have W17 := W16.fact (t' := s.now + 1) v1 v2 xpl2 dG (flat_log _) W16.le lpl2
        have xta17 := W16.factMv (u := .lst [.int (s.now + 1), .ref el2, .ref pl2]) (S146.at xta13) trivial (fun _ _ e => by cases e)
        have xD17 := W16.factMv (u := .lst [.int (s.now + 1), .ref el2, .ref pl2]) (S146.at xD13) trivial (fun _ _ e => by cases e)
        have Bt16 := Bt13.same (offL_mono (ft := ftN n N8) s146)
        have fc16 : OffL (ftN n N8) (upd Gm pl2 (.lst (pr ++ [V.ref t14]))) fc = some (.lst [.int (s.now + 1), .ref el2, .ref pl]) := by
          have z := W16.facts
          rw [offF] at z
          exact (offL_some z).2
        have Bt17 := past_kept (C := [fc]) Bt16 (fun z hz => by rw [List.mem_singleton.mp hz]; exact fcT) (fun z hz => by rw [List.mem_singleton.mp hz]; exact ⟨_, fc16⟩) (G' := upd (upd Gm pl2 (.lst (pr ++ [V.ref t14]))) fc (.lst [.int (s.now + 1), .ref el2, .ref pl2])) (by rw [offL_one, offL_one, off_upd]; exact Same.refl _)
        have f17 := (f13.trans (w0 s146)).trans (w1 mFc (G' := upd (upd Gm pl2 (.lst (pr ++ [V.ref t14]))) fc (.lst [.int (s.now + 1), .ref el2, .ref pl2])) (by rw [off_upd]; exact Same.refl _))
        refine ⟨_, rfl, _, rfl, .tuple ((s.run c).map PyData.str), .tuple ((s.run c).map PyData.str), .tup (SqT.of ((offL_sub _ _).at xD17)) (dps_strs _), .tup (SqT.of ((offL_sub _ _).at xta17)) (dps_strs _), shr, shr, ?_⟩
        rw [eqv_same shr]
        exact last _ pl2 W17 f17 Bt17 (fun _ => lnpl2)
    exact main
end
end Vk
set_option maxHeartbeats 8000000
/-! a wrong call, beside the world -/
namespace Vk
open PySem PySem.Spec PyProof.Rows L2 GxR
section
variable {CN CB : Addr} {K : PySem.W.Frag} {T n st sc ls fc ln : Addr} {rv : V} {c : Int} {r : Rl} {F : List Addr} {m m' : Int} {G G' : Hp} {N N' : BnA} {s s' : Bd} {ps ps' : List Addr} {L : Lv} {el pl : Addr} {t : Int} {es : List (Str × Int)} {gs : List PyData} {ws : List Str}
/-- .. without the store -/
theorem Wl.offSt (w : Wl CN CB K T n st sc ls fc ln rv c r F m G N s ps L el pl t es gs ws) : LnAt (Off st G) ls L ∧ Off st G fc = some (.lst [.int t, .ref el, .ref pl]) ∧ ∃ ev, Off st G el = some (.lst ev) ∧ DpAll K (Off st G) ev (es.map pairSI) := by
  obtain ⟨cs, a1, a2, a3, a4, g1, g2, g3, _⟩ := w.sto.ex
  have sub := offL_sub (F ++ ftN n N) G
  have mv : ∀ {z : Addr} {xs : List V}, OffL (F ++ ftN n N) G z = some (.lst xs) → (∀ (a : Addr) (i : Int) (tl : List V), xs = .ref a :: .int i :: tl → False) → Off st G z = some (.lst xs) := fun {z xs} e f => by
    rw [off_ne fun q => ?_]
    · exact sub.at e
    · rw [q, g1] at e
      cases e
      exact f _ _ _ rfl
  have tp : ∀ a xs, SqT K (OffL (F ++ ftN n N) G) a xs → SqT K (Off st G) a xs := fun a xs q => by
    rw [← offL_one]
    exact sqt_off (fun z hz o e => by
      rw [List.mem_singleton.mp hz, sub.at g1] at e
      cases e
      exact noTup_lst) (same_seqT sub q)
  obtain ⟨ev, v1, v2⟩ := w.ended
  exact ⟨⟨mv w.lines.top (fun _ _ _ e => tops_noInt e), fun p hp => mv (w.lines.line p hp) (fun _ _ _ e => refs_noInt e), fun p hp => mv (w.lines.jobs p hp) (fun _ _ _ e => by cases e), w.lines.nd⟩, mv w.facts (fun _ _ _ e => by cases e), ev, mv v1 (fun _ _ _ e => by rw [e] at v2; exact flat_int2 v2 flat_pairs), flatTs_keep tp v2 flat_pairs⟩
end
section
variable {P : Program} {w : World} {K : PySem.W.Frag} {mg : Str → Option Value} {base : Heap} {CN CB : Addr}
def spWrong (K : PySem.W.Frag) (T CN CB : Addr) : Sp := fun vs H Q _ => ∃ (st n ls fc ln sc : Addr) (rv : V) (c : Nat) (r : Rl) (F : List Addr) (m : Int) (N : BnA) (s : Bd) (ps : List Addr) (L : Lv) (el pl : Addr) (ws : List Str) (i : Nat), vs = [.ref st, .ref n, .ref ls, .int c, .ref fc] ∧ c ≤ 8 ∧ m ≤ 800000 ∧ i ≤ 300 ∧
  Wl CN CB K T n st sc ls fc ln rv c r F m H N s ps L el pl s.now (lensS s) (logD s) ws ∧ P12 i r s ps L ws ∧ zq ∉ s.ran.map (·.1) ∧ ∀ H', Sto sc st (m + 30) H' → Kept st H H' → Q (.bl true) H'
theorem scWrong : FnScope ["store", "bench", "lines", "cores", "facts", "name", "names", "bad"] ["store", "bench", "lines", "cores", "facts"] (defScope sWrong) := ⟨rfl, rfl, rfl, by decide +kernel, rfl, by decide +kernel, by decide +kernel⟩
theorem ok_wrong {T : Addr} (D : Df K mg "_law_wrong_right" sWrong ["store", "bench", "lines", "cores", "facts"]) (PK : Cl P w K mg base CX0 2 "_law_pick" ["store", "count"] spPick) (BN : Cl P w K mg base CX0 4 "_law_bad_names" ["store", "lines", "facts"] (spBadNam K)) (BF : Cl P w K mg base CX0 4 "_law_bad_finish" ["store", "lines", "cores", "facts"] (spBadFin K))
    (C0 : Cl P w K mg base CX0 5 "_law_caught" ["bench", "way", "what"] (spCaught0 K T CN CB)) (C1 : Cl P w K mg base CX0 5 "_law_caught" ["bench", "way", "what"] (spCaught1 K CN CB)) : Cl P w K mg base CX0 6 "_law_wrong_right" ["store", "bench", "lines", "cores", "facts"] (spWrong K T CN CB) := by
  refine cl0 D scWrong (fun vs H Q E h => ?_) (fun f cdv Ar outer s0 H vs Q E hr h => ?_)
  · obtain ⟨st, n, ls, fc, ln, sc, rv, c, r, F, m, N, s, ps, L, el, pl, ws, i, rfl, _⟩ := h
    rfl
  · obtain ⟨st, n, ls, fc, ln, sc, rv, c, r, F, m, N, s, ps, L, el, pl, ws, i, rfl, c8, m8, i3, W0, P0, nzq, k⟩ := h
    refine ⟨_, pss_cons (ps_if (pt_cmpR op_eq (pc PK hr (by decide) (pa_cons (pv 0) (pa_cons pe_int pa_nil))) pe_int (nomark _))
        (pss_cons (ps_set (i := 5) scWrong.nd rfl (Or.inl rfl) (pc BN hr (by decide) (pa_cons (pv 0) (pa_cons (pv 2) (pa_cons (pv 4) pa_nil)))))
        (pss_one (ps_ret (pe_cmpR (op_eqD hr.units) (pc C0 hr (by decide) (pa_cons (pv 1) (pa_cons pe_int (pa_cons (pv 5) pa_nil)))) (pe_tup (pa_cons pe_str (pa_cons (pv 5) pa_nil))) (nomark _))))) pss_nil)
      (pss_cons (ps_asg (pc BF hr (by decide) (pa_cons (pv 0) (pa_cons (pv 2) (pa_cons (pv 3) (pa_cons (pv 4) pa_nil))))) (pg_unl rfl (pgs_cons (pg_name (i := 6) scWrong.nd rfl (.inl rfl)) (pgs_cons (pg_name (i := 7) scWrong.nd rfl (.inl rfl)) pgs_nil))))
      (pss_one (ps_ret (pe_cmpR (op_eqD hr.units) (pc C1 hr (by decide) (pa_cons (pv 1) (pa_cons pe_int (pa_cons (pv 6) pa_nil)))) (pe_tup (pa_cons pe_str (pa_cons (pv 7) pa_nil))) (nomark _))))), ?_⟩
    have ok := W0.bn.ok
    have keyE : ∀ x ∈ (lensS s).map (·.1), x ∈ s.ran.map (·.1) := fun x hx => by
      unfold lensS at hx
      rw [List.map_map] at hx
      obtain ⟨y, hy, rfl⟩ := List.mem_map.mp hx
      obtain ⟨fi, h1, h2⟩ := List.mem_flatMap.mp hy
      exact (ok.fst fi h1).2.2 y h2
    have goneE : ∀ p ∈ lensS s, p.1 ∉ s.order := fun p hp => by
      unfold lensS at hp
      obtain ⟨y, hy, rfl⟩ := List.mem_map.mp hp
      exact ok.gone y hy
    have elen : (lensS s).length ≤ 300 := by
      have y := nd_len ok.ndf fun x hx => by
        obtain ⟨fi, h1, h2⟩ := List.mem_flatMap.mp hx
        exact (ok.fst fi h1).2.2 x h2
      have := P0.few
      unfold lensS
      rw [List.length_map] at y ⊢
      omega
    have olen : s.order.length ≤ 12 := by
      have y := nd_len ok.ndo ok.sub
      have := P0.few
      rw [List.length_map] at y
      omega
    obtain ⟨l1, l6⟩ := P0.llen ok
    have jl12 := P0.jlen ok
    refine ⟨_, rfl, st, sc, 2, _, rfl, by decide, by decide, W0.sto.same (offL_sub _ _), by omega, fun rp G1 rp0 rp2 S1 K1 => ?_⟩
    have W1 := W0.draw S1 K1
    obtain ⟨hL, hfc, ev, hev, dev⟩ := W1.offSt
    refine ⟨rfl, _, rfl, ite2 (fun hc => ?_) (fun hc => ?_)⟩
    · refine ⟨_, rfl, _, rfl, _, rfl, st, sc, ls, fc, el, pl, s.now, _, s, L, lensS s, ev, rfl, S1, by omega, hL, l6, by omega, P0.rel, hfc, hev, dev, elen, (fun x hx => P0.nok x (hx.elim (ok.sub x) (keyE x))), fun v d G2 S2 K2 dv sv shv bv => ?_⟩
      have W2 := W1.draw S2 K2
      refine ⟨_, rfl, _, rfl, n, rv, c, N, s, r, ps, v, d, rfl, W2.bn, dv, sv, (offL_sub _ _).tab T W2.tab, (fun h => ?_), fun t G3 s3 ht => ?_⟩
      · obtain ⟨x, e, hx⟩ := bv h
        exact ⟨x, e, hx.elim (ok.sub x) (keyE x)⟩
      refine ⟨_, rfl, by show 2 ≤ sizeLine; decide, fun u nu => ?_⟩
      have su := same_new (o := .tup [V.str "name", v]) nu
      have eq : PyData.eqv (.tuple [.str ("name" : Str), d]) (.tuple [.str ("name" : Str), d]) = true := SeqAt.eqv_refl _ (SeqAt.canLay_of_shaped shv)
      refine ⟨_, _, .tup (SqT.of (su.at ht)) (.cons (.str _) (.cons (dp_same (s3.trans su) dv) .nil)), .tup (SqT.of upd_same) (.cons (.str _) (.cons (dp_same (s3.trans su) dv) .nil)), shv, shv, ?_⟩
      rw [eq]
      exact k _ ((S2.same (s3.trans su)).more (by omega)) ((K1.trans K2).trans (kept_same (s3.trans su)))
    · refine ⟨_, rfl, _, rfl, _, rfl, _, rfl, st, sc, ls, fc, el, pl, c, s.now, _, s, L, lensS s, ev, rfl, S1, by omega, hL, l6, by omega, P0.rel, ok.ndo, olen, c8, hfc, hev, dev, elen, goneE, fun h => nzq (ok.sub _ h), (fun h => absurd (P0.nok _ (ok.sub _ h)) (by decide +kernel)), fun p fa g1 g2 bad G2 S2 K2 hp qfa flen gnd gsub gbad badm => ?_⟩
      have W2 := W1.draw S2 K2
      refine ⟨p, _, rfl, SqL.of hp, rfl, _, _, rfl, _, _, rfl, rfl, ?_⟩
      refine ⟨_, rfl, _, rfl, n, rv, c, N, s, r, ps, fa, g1, g2, bad, rfl, W2.bn, by omega, qfa, flen, gnd, gsub, gbad, fun t G3 s3 ht => ?_⟩
      refine ⟨_, rfl, by show 2 ≤ sizeLine; decide, fun u nu => ?_⟩
      have su := same_new (o := .tup [V.str "name", .str bad]) nu
      have bok : PyData.strOk bad = true := by
        rcases badm with h | h | h | h
        · exact name_strOk (P0.nok _ (ok.sub _ h))
        · exact name_strOk (P0.nok _ (keyE _ h))
        · rw [h]; decide +kernel
        · rw [h]; decide +kernel
      have sh : SeqAt.shaped (.tuple [.str ("name" : Str), .str bad]) = true := by
        simp [SeqAt.shaped, PyData.canLay0, PyData.canLayAll0, PyData.depth, PyData.depthAll, bok]
        decide +kernel
      have eq : PyData.eqv (.tuple [.str ("name" : Str), .str bad]) (.tuple [.str ("name" : Str), .str bad]) = true := SeqAt.eqv_refl _ (SeqAt.canLay_of_shaped sh)
      refine ⟨_, _, .tup (SqT.of (su.at ht)) (.cons (.str _) (.cons (.str _) .nil)), .tup (SqT.of upd_same) (.cons (.str _) (.cons (.str _) .nil)), sh, sh, ?_⟩
      rw [eq]
      exact k _ ((S2.same (s3.trans su)).more (by omega)) ((K1.trans K2).trans (kept_same (s3.trans su)))
end
end Vk
set_option maxHeartbeats 8000000
/-! the worlds of the past -/
namespace Vk
open PySem PySem.Spec PyProof.Rows L2 GxR
/-- a world that was copied: p the copy, t its board -/
structure Sw where
  p : Addr
  ls : Addr
  fc : Addr
  ln : Addr
  L : Lv
  el : Addr
  pl : Addr
  t : Addr
  At : BdA
  s : Bd
  ws : List Str
def Sw.foot (e : Sw) : List Addr := e.ls :: e.fc :: e.ln :: (jas e.L ++ ftB e.t e.At)
def Sw.all (e : Sw) : List Addr := e.p :: e.el :: e.pl :: (e.L.map (·.1) ++ e.foot)
theorem Sw.foot_all {e : Sw} {z : Addr} (h : z ∈ e.foot) : z ∈ e.all := by
  unfold Sw.all
  simp [h]
structure SwAt (CB : Addr) (K : PySem.W.Frag) (rv : V) (c : Int) (r : Rl) (ps : List Addr) (i : Nat) (G : Hp) (e : Sw) : Prop where
  cp : G e.p = some (.lst [.ref e.ls, .ref e.fc, .ref e.ln])
  lines : LnAt (OffL (ftB e.t e.At) G) e.ls e.L
  facts : OffL (ftB e.t e.At) G e.fc = some (.lst [.int e.s.now, .ref e.el, .ref e.pl])
  names : OffL (ftB e.t e.At) G e.ln = some (.lst (e.ws.map V.str))
  pairs : ∃ pr, OffL (ftB e.t e.At) G e.pl = some (.lst pr) ∧ DpAll K (OffL (ftB e.t e.At) G) pr (logD e.s)
  ended : ∃ ev, OffL (ftB e.t e.At) G e.el = some (.lst ev) ∧ DpAll K (OffL (ftB e.t e.At) G) ev ((lensS e.s).map pairSI)
  bd : BdAt CB K G e.t rv c e.At e.s
  ok : e.s.Ok
  lev : r.levels.length = e.s.lines.length
  p12 : P12 i r e.s ps e.L e.ws
  l1 : 1 ≤ e.L.length
  le : e.ls ≠ e.el
  lp : e.ls ≠ e.pl
  ne : e.ln ≠ e.el
  np : e.ln ≠ e.pl
section
variable {CB : Addr} {K : PySem.W.Frag} {rv : V} {c : Int} {r : Rl} {ps : List Addr} {i : Nat} {G G' : Hp} {e : Sw}
theorem SwAt.kept (h : SwAt CB K rv c r ps i G e) {A : List Addr} (d : ∀ z ∈ e.all, z ∉ A) (nt : ∀ z ∈ A, ∀ o, G z = some o → NoTup o) (k : Same (OffL A G) (OffL A G')) : SwAt CB K rv c r ps i G' e := by
  have kx : Same (OffL A (OffL (ftB e.t e.At) G)) (OffL A (OffL (ftB e.t e.At) G')) := by
    rw [offL_comm, offL_comm (as := A) (ft := ftB e.t e.At)]
    exact offL_mono k
  have mv : ∀ {z : Addr} {o : HO}, z ∈ e.all → OffL (ftB e.t e.At) G z = some o → NoTbl o → OffL (ftB e.t e.At) G' z = some o := fun {z o} hz q n => by
    have y := kx.at_ z o (by rw [offL_out (d z hz)]; exact q) n
    rw [offL_out (d z hz)] at y
    exact y
  have tp : ∀ a xs, SqT K (OffL (ftB e.t e.At) G) a xs → SqT K (OffL (ftB e.t e.At) G') a xs := fun a xs q => sqt_keptL kx (fun z hz o q => nt z hz o (offL_some q).2) q
  obtain ⟨pr, p1, p2⟩ := h.pairs
  obtain ⟨ev, v1, v2⟩ := h.ended
  have mP : e.p ∈ e.all := by simp [Sw.all]
  have mE : e.el ∈ e.all := by simp [Sw.all]
  have mQ : e.pl ∈ e.all := by simp [Sw.all]
  have mL : e.ls ∈ e.all := by simp [Sw.all, Sw.foot]
  have mF : e.fc ∈ e.all := by simp [Sw.all, Sw.foot]
  have mN : e.ln ∈ e.all := by simp [Sw.all, Sw.foot]
  have mI : ∀ q ∈ e.L, q.1 ∈ e.all := fun q hq => by
    have : q.1 ∈ e.L.map (·.1) := List.mem_map.mpr ⟨q, hq, rfl⟩
    simp only [Sw.all, List.mem_cons, List.mem_append]
    exact .inr (.inr (.inr (.inl this)))
  have mJ : ∀ z ∈ jas e.L, z ∈ e.all := fun z hz => by simp [Sw.all, Sw.foot, hz]
  have mB : ∀ z ∈ ftB e.t e.At, z ∈ e.all := fun z hz => by simp [Sw.all, Sw.foot, hz]
  have hp : G' e.p = some (.lst [.ref e.ls, .ref e.fc, .ref e.ln]) := by
    have y := k.at_ e.p (.lst [.ref e.ls, .ref e.fc, .ref e.ln]) (by rw [offL_out (d _ mP)]; exact h.cp) trivial
    rw [offL_out (d _ mP)] at y
    exact y
  exact ⟨hp, ⟨mv mL h.lines.top trivial, fun q hq => mv (mI q hq) (h.lines.line q hq) trivial, fun a ha => mv (mJ _ (List.mem_map.mpr ⟨a, ha, rfl⟩)) (h.lines.jobs a ha) (by unfold jv; trivial), h.lines.nd⟩, mv mF h.facts trivial, mv mN h.names trivial, ⟨pr, mv mQ p1 trivial, flatTs_keep tp p2 (flat_log _)⟩, ⟨ev, mv mE v1 trivial, flatTs_keep tp v2 flat_pairs⟩,
    h.bd.keptL (fun z hz m => d z (mB z m) hz) nt k, h.ok, h.lev, h.p12, h.l1, h.le, h.lp, h.ne, h.np⟩
end
section
variable {CB : Addr} {K : PySem.W.Frag} {rv : V} {c : Int} {r : Rl} {ps : List Addr} {i : Nat} {G G' : Hp} {e : Sw}
theorem SwAt.has (h : SwAt CB K rv c r ps i G e) : ∀ z ∈ e.all, G z ≠ none := fun z hz => by
  have sub := offL_sub (ftB e.t e.At) G
  obtain ⟨pr, p1, _⟩ := h.pairs
  obtain ⟨ev, v1, _⟩ := h.ended
  simp only [Sw.all, Sw.foot, List.mem_cons, List.mem_append] at hz
  rcases hz with rfl | rfl | rfl | hz | rfl | rfl | rfl | hz | hz
  · rw [h.cp]; exact fun w => nomatch w
  · rw [sub.at v1]; exact fun w => nomatch w
  · rw [sub.at p1]; exact fun w => nomatch w
  · obtain ⟨q, hq, rfl⟩ := List.mem_map.mp hz
    rw [sub.at (h.lines.line q hq)]; exact fun w => nomatch w
  · rw [sub.at h.lines.top]; exact fun w => nomatch w
  · rw [sub.at h.facts]; exact fun w => nomatch w
  · rw [sub.at h.names]; exact fun w => nomatch w
  · obtain ⟨a, ha, rfl⟩ := List.mem_map.mp hz
    rw [sub.at (h.lines.jobs a ha) (by unfold jv; trivial)]; exact fun w => nomatch w
  · obtain ⟨u, q, _⟩ := h.bd.obj hz
    rw [q]; exact fun w => nomatch w
end
/-- what ended, the pairs: beside what a step changes -/
theorem Wl.outFoot {CN CB : Addr} {K : PySem.W.Frag} {T n st sc ls fc ln : Addr} {rv : V} {c : Int} {r : Rl} {F : List Addr} {m : Int} {G : Hp} {N : BnA} {s : Bd} {ps : List Addr} {L : Lv} {el pl : Addr} {t : Int} {es : List (Str × Int)} {gs : List PyData} {ws : List Str} (w : Wl CN CB K T n st sc ls fc ln rv c r F m G N s ps L el pl t es gs ws) {z : Addr} {vs : List V} {ds : List PyData} (h : OffL (F ++ ftN n N) G z = some (.lst vs)) (dv : DpAll K (OffL (F ++ ftN n N) G) vs ds) (fl : ∀ e ∈ ds, FlatT e) (zl : ls ≠ z) (zn : ln ≠ z) : z ∉ foot st ls fc ln n N L := fun hz => by
  obtain ⟨cs, a1, a2, a3, a4, g1, _⟩ := w.sto.ex
  simp only [foot, List.mem_cons, List.mem_append] at hz
  rcases hz with e | e | e | e | hz | hz
  · rw [e, g1] at h
    have y := HO.lst.inj (Option.some.inj h)
    rw [← y] at dv
    exact flat_int2 dv fl
  · exact zl e.symm
  · rw [e, w.facts] at h
    have y := HO.lst.inj (Option.some.inj h)
    rw [← y] at dv
    exact flat_int dv fl
  · exact zn e.symm
  · obtain ⟨a, ha, e⟩ := List.mem_map.mp hz
    rw [← e, w.lines.jobs a ha] at h
    have y := HO.lst.inj (Option.some.inj h)
    rw [← y] at dv
    exact flat_str dv fl
  · exact (offL_some h).1 (List.mem_append_right _ hz)
/-- no job stands in a board -/
theorem BdAt.noJv {CB : Addr} {K : PySem.W.Frag} {H : Hp} {b : Addr} {rv : V} {c : Int} {A : BdA} {s : Bd} (B : BdAt CB K H b rv c A s) {z : Addr} (hz : z ∈ ftB b A) (q : Jb) : H z ≠ some (jv q) := fun h => by
  obtain ⟨xs, f1, f2⟩ := B.fins
  simp only [ftB, List.mem_cons] at hz
  rcases hz with rfl | rfl | rfl | rfl | rfl | hz
  · rw [B.ob] at h; cases h
  · rw [B.lines] at h
    have y := HO.lst.inj (Option.some.inj h)
    cases e : A.ls with
    | nil => rw [e] at y; cases y
    | cons a l => rw [e] at y; cases y
  · rw [B.used] at h; cases h
  · rw [B.ran] at h; cases h
  · rw [f1] at h
    have y := HO.lst.inj (Option.some.inj h)
    rw [y] at f2
    cases e : s.fins with
    | nil => rw [e] at f2; cases f2
    | cons a l =>
      rw [e] at f2
      cases f2 with
      | cons h1 h2 => cases h1
  · obtain ⟨i, ns, _, _, q2⟩ := B.at_line hz
    rw [q2] at h
    exact str_noJv (HO.lst.inj (Option.some.inj h))
/-- the past: the latest first; beside A -/
inductive Stk (CB : Addr) (K : PySem.W.Frag) (rv : V) (c : Int) (r : Rl) (sc : Addr) (G : Hp) (A : List Addr) : List Sw → Prop
  | nil : Stk CB K rv c r sc G A []
  | cons {e : Sw} {es : List Sw} (h : SwAt CB K rv c r (es.map (·.t)) es.length G e) (d : ∀ z ∈ e.all, z ∉ A) (b : ∀ e' ∈ es, ∀ z ∈ e'.all, z ∉ e.foot) (x : sc ∉ ftB e.t e.At) (t : Stk CB K rv c r sc G A es) : Stk CB K rv c r sc G A (e :: es)
section
variable {CB : Addr} {K : PySem.W.Frag} {rv : V} {c : Int} {r : Rl} {sc : Addr} {G G' : Hp} {A A' : List Addr}
theorem Stk.kept : ∀ {es : List Sw}, Stk CB K rv c r sc G A es → (∀ z ∈ A, ∀ o, G z = some o → NoTup o) → Same (OffL A G) (OffL A G') → (∀ e ∈ es, ∀ z ∈ e.all, z ∉ A → z ∉ A') → Stk CB K rv c r sc G' A' es
  | _, .nil, _, _, _ => .nil
  | _, .cons h d b x t, nt, k, g => .cons (h.kept d nt k) (fun z hz => g _ (List.mem_cons_self ..) z hz (d z hz)) b x (t.kept nt k fun e he => g e (List.mem_cons_of_mem _ he))
end
end Vk
set_option maxHeartbeats 4000000
/-! two worlds: what one does leaves the other -/
namespace Vk
open PySem PySem.Spec PyProof.Rows L2 GxR
def footm (ls fc ln n : Addr) (N : BnA) (L : Lv) : List Addr := ls :: fc :: ln :: (jas L ++ ftN n N)
theorem foot_m {st ls fc ln n : Addr} {N : BnA} {L : Lv} : foot st ls fc ln n N L = st :: footm ls fc ln n N L := rfl
section
variable {CN CB : Addr} {K : PySem.W.Frag} {T n st sc ls fc ln : Addr} {rv : V} {c : Int} {r : Rl} {F F' : List Addr} {m m' : Int} {G G' : Hp} {N N' : BnA} {s s' : Bd} {ps ps' : List Addr} {L : Lv} {el pl : Addr} {t : Int} {es : List (Str × Int)} {gs : List PyData} {ws : List Str}
/-- what it stands on -/
theorem Wl.footObj (w : Wl CN CB K T n st sc ls fc ln rv c r F m G N s ps L el pl t es gs ws) : ∀ z ∈ footm ls fc ln n N L, ∃ o, G z = some o ∧ NoTup o ∧ NoTbl o := fun z hz => by
  have sub := offL_sub (F ++ ftN n N) G
  unfold footm at hz
  simp only [List.mem_cons, List.mem_append] at hz
  rcases hz with rfl | rfl | rfl | hz | hz
  · exact ⟨_, sub.at w.lines.top, noTup_lst, trivial⟩
  · exact ⟨_, sub.at w.facts, noTup_lst, trivial⟩
  · exact ⟨_, sub.at w.names, noTup_lst, trivial⟩
  · obtain ⟨a, ha, rfl⟩ := List.mem_map.mp hz
    exact ⟨_, sub.at (w.lines.jobs a ha), noTup_lst, trivial⟩
  · obtain ⟨u, e, nt⟩ := w.bn.obj hz
    exact ⟨u, e, w.bn.noTup z hz u e, nt⟩
/-- the store is no part of it -/
theorem Wl.stN (w : Wl CN CB K T n st sc ls fc ln rv c r F m G N s ps L el pl t es gs ws) : st ∉ footm ls fc ln n N L ∧ st ∉ F := by
  obtain ⟨cs, a1, a2, a3, a4, g1, g2, g3, _⟩ := w.sto.ex
  have h0 := (offL_some g1).1
  refine ⟨fun h => ?_, fun h => h0 (List.mem_append_left _ h)⟩
  unfold footm at h
  simp only [List.mem_cons, List.mem_append] at h
  rcases h with h | h | h | h | h
  · rw [h, w.lines.top] at g1
    exact tops_noInt (HO.lst.inj (Option.some.inj g1))
  · rw [h, w.facts] at g1
    cases g1
  · rw [h, w.names] at g1
    exact str_noRef (HO.lst.inj (Option.some.inj g1))
  · obtain ⟨a, ha, e⟩ := List.mem_map.mp h
    have y := w.lines.jobs a ha
    rw [e, g1] at y
    cases y
  · exact h0 (List.mem_append_right _ h)
/-- F is beside what it stands on -/
theorem Wl.footF (w : Wl CN CB K T n st sc ls fc ln rv c r F m G N s ps L el pl t es gs ws) : ∀ z ∈ footm ls fc ln n N L, z ∉ F := fun z hz h => by
  unfold footm at hz
  simp only [List.mem_cons, List.mem_append] at hz
  have no : ∀ {o : HO}, OffL (F ++ ftN n N) G z = some o → False := fun e => (offL_some e).1 (List.mem_append_left _ h)
  rcases hz with rfl | rfl | rfl | hz | hz
  · exact no w.lines.top
  · exact no w.facts
  · exact no w.names
  · obtain ⟨a, ha, rfl⟩ := List.mem_map.mp hz
    exact no (w.lines.jobs a ha)
  · exact w.sep z h hz
/-- F and the store change, F grows by what is new -/
theorem Wl.other (w : Wl CN CB K T n st sc ls fc ln rv c r F m G N s ps L el pl t es gs ws) (k : Same (OffL (st :: F) G) (OffL (st :: F) G')) (S' : Sto sc st m' G') (hF : ∀ z ∈ F', z ∈ F ∨ G z = none) (al : ∀ z ∈ F', ∃ o, G' z = some o ∧ NoTup o ∧ NoTbl o) : Wl CN CB K T n st sc ls fc ln rv c r F' m' G' N s ps L el pl t es gs ws := by
  obtain ⟨cs, a1, a2, a3, a4, g1, g2, g3, _⟩ := w.sto.ex
  have hst := (offL_some g1).1
  have nz : ∀ z ∈ st :: F, z ∉ ftN n N := fun z hz => by
    rcases List.mem_cons.mp hz with rfl | hz
    · exact fun h => hst (List.mem_append_right _ h)
    · exact w.sep z hz
  have nt : ∀ z ∈ st :: F, ∀ o, G z = some o → NoTup o := fun z hz o e => by
    rcases List.mem_cons.mp hz with rfl | hz
    · rw [(offL_some g1).2] at e
      cases e
      exact noTup_lst
    · obtain ⟨o', h1, h2, _⟩ := w.al z hz
      rw [h1] at e
      cases e
      exact h2
  have sep' : ∀ z ∈ F', z ∉ ftN n N := fun z hz => by
    rcases hF z hz with h | h
    · exact w.sep z h
    · exact w.bn.nin h
  have out' : ∀ {z : Addr} {o : HO}, OffL (F ++ ftN n N) G z = some o → z ∉ F' ++ ftN n N := fun {z o} e h => by
    obtain ⟨e1, e2⟩ := offL_some e
    rcases List.mem_append.mp h with h | h
    · rcases hF z h with h | h
      · exact e1 (List.mem_append_left _ h)
      · rw [h] at e2
        cases e2
    · exact e1 (List.mem_append_right _ h)
  have mv : ∀ {z : Addr} {o : HO}, z ≠ st → OffL (F ++ ftN n N) G z = some o → NoTbl o → OffL (F' ++ ftN n N) G' z = some o := fun {z o} zn e nt => by
    obtain ⟨e1, e2⟩ := offL_some e
    have zF : z ∉ st :: F := fun h => by
      rcases List.mem_cons.mp h with h | h
      · exact zn h
      · exact e1 (List.mem_append_left _ h)
    have y := k.at_ z o (by rw [offL_out zF]; exact e2) nt
    rw [offL_out zF] at y
    rw [offL_out (out' e)]
    exact y
  have mvL : ∀ {z : Addr} {xs : List V}, OffL (F ++ ftN n N) G z = some (.lst xs) → (∀ (a : Addr) (i : Int) (tl : List V), xs = .ref a :: .int i :: tl → False) → OffL (F' ++ ftN n N) G' z = some (.lst xs) := fun {z xs} e f => mv (fun q => by
    rw [q, g1] at e
    cases e
    exact f _ _ _ rfl) e trivial
  have tp : ∀ a xs, SqT K (OffL (F ++ ftN n N) G) a xs → SqT K (OffL (F' ++ ftN n N) G') a xs := fun a xs q => by
    rcases q with (q | ⟨o, q⟩) | q
    · exact .inl (.inl (mv (fun z => by rw [z, g1] at q; cases q) q trivial))
    · exact .inl (.inr ⟨o, mv (fun z => by rw [z, g1] at q; cases q) q trivial⟩)
    · exact .inr q
  obtain ⟨pr, p1, p2⟩ := w.pairs
  obtain ⟨ev, v1, v2⟩ := w.ended
  obtain ⟨x2, x3, x4, x5, x6, h1, h2, h3, h4⟩ := S'.ex
  refine ⟨w.bn.keptL nz nt k, sep', al, ⟨mvL w.lines.top (fun _ _ _ e => tops_noInt e), fun p hp => mvL (w.lines.line p hp) (fun _ _ _ e => refs_noInt e), fun p hp => mvL (w.lines.jobs p hp) (fun _ _ _ e => by cases e), w.lines.nd⟩, w.l1, mvL w.facts (fun _ _ _ e => by cases e), mvL w.names (fun _ _ _ e => str_noRef e),
    ⟨pr, mvL p1 (fun _ _ _ e => by rw [e] at p2; exact flat_int2 p2 w.flat), flatTs_keep tp p2 w.flat⟩, w.flat, ⟨ev, mvL v1 (fun _ _ _ e => by rw [e] at v2; exact flat_int2 v2 flat_pairs), flatTs_keep tp v2 flat_pairs⟩,
    rul_keep tp w.rule, ⟨x2, x3, x4, x5, x6, by rw [offL_out (out' g1)]; exact h1, h2, by rw [offL_out (out' g3)]; exact h3, h4⟩, ?_, w.le, w.lp⟩
  obtain ⟨q, e, u⟩ := w.tab
  obtain ⟨e1, e2⟩ := offL_some e
  have TF : T ∉ st :: F := fun h => by
    rcases List.mem_cons.mp h with h | h
    · rw [h, g1] at e
      cases e
    · exact e1 (List.mem_append_left _ h)
  obtain ⟨q', f1, f2⟩ := k.tab T ⟨q, by rw [offL_out TF]; exact e2, u⟩
  rw [offL_out TF] at f1
  exact ⟨q', by rw [offL_out (out' e)]; exact f1, f2⟩
end
end Vk
set_option maxHeartbeats 8000000
/-! one more world goes to the past -/
namespace Vk
open PySem PySem.Spec PyProof.Rows L2 GxR
section
variable {CN CB : Addr} {K : PySem.W.Frag} {T n st sc ls fc ln : Addr} {rv : V} {c : Int} {r : Rl} {F : List Addr} {m : Int} {G : Hp} {N : BnA} {s : Bd} {ps : List Addr} {L : Lv} {el pl : Addr} {t : Int} {es : List (Str × Int)} {gs : List PyData} {ws : List Str}
theorem Wl.footTup (w : Wl CN CB K T n st sc ls fc ln rv c r F m G N s ps L el pl t es gs ws) : ∀ z ∈ foot st ls fc ln n N L, ∀ o, G z = some o → NoTup o := fun z hz o e => by
  rcases List.mem_cons.mp hz with h | h
  · obtain ⟨_, _, _, _, _, g1, _⟩ := w.sto.ex
    rw [h, (offL_some g1).2] at e
    cases e
    exact noTup_lst
  · obtain ⟨u, h1, h2, _⟩ := w.footObj z h
    rw [h1] at e
    cases e
    exact h2
end
theorem Stk.has {CB : Addr} {K : PySem.W.Frag} {rv : V} {c : Int} {r : Rl} {sc : Addr} {G : Hp} {A : List Addr} : ∀ {es : List Sw}, Stk CB K rv c r sc G A es → ∀ e ∈ es, ∀ z ∈ e.all, G z ≠ none ∧ z ∉ A
  | _, .cons h d b x t, e, he, z, hz => by
    rcases List.mem_cons.mp he with q | q
    · subst q
      exact ⟨h.has z hz, d z hz⟩
    · exact t.has e q z hz
theorem Stk.push {CN CB : Addr} {K : PySem.W.Frag} {T n st sc ls fc ln pa : Addr} {rv : V} {c : Int} {r : Rl} {m m' : Int} {H H1 H2 H3 : Hp} {N N3 : BnA} {s s3 : Bd} {es : List Sw} {L L' L3 : Lv} {el pl el3 pl3 : Addr} {ws ws3 : List Str} {p A f q t0 : Addr} {At : BdA}
    (S : Stk CB K rv c r sc H2 (pa :: foot st ls fc ln n N L) es) (W : Wl CN CB K T n st sc ls fc ln rv c r [pa] m H2 N s (es.map (·.t)) L el pl s.now (lensS s) (logD s) ws) (P : P12 es.length r s (es.map (·.t)) L ws) (ne : ln ≠ el) (np : ln ≠ pl)
    (hp : H2 p = some (.lst [.ref A, .ref f, .ref q])) (hL : LnAt H2 A L') (eJ : jbs L' = jbs L) (hf : H2 f = some (.lst [.int s.now, .ref el, .ref pl])) (hq : H2 q = some (.lst (ws.map V.str)))
    (out : ∀ z, z ∈ [p, A, f, q] ∨ z ∈ L'.map (·.1) ∨ z ∈ jas L' → z ∉ pa :: foot st ls fc ln n N L ∧ ∀ e ∈ es, z ∉ e.all) (Ael : A ≠ el) (Apl : A ≠ pl) (qel : q ≠ el) (qpl : q ≠ pl)
    (W3 : Wl CN CB K T n st sc ls fc ln rv c r [pa] m' H3 N3 s3 (t0 :: es.map (·.t)) L3 el3 pl3 s3.now (lensS s3) (logD s3) ws3) (k3 : Same (OffL (foot st ls fc ln n N L) H2) (OffL (foot st ls fc ln n N L) H3))
    (jf : ∀ z ∈ jas L3, z ∈ foot st ls fc ln n N L ∨ H2 z = none) (nf : ∀ z ∈ ftN n N3, z ∈ foot st ls fc ln n N L ∨ H2 z = none) (bd : BdAt CB K (OffL (ftN n N3) H3) t0 rv c At s) (bf : ∀ z ∈ ftB t0 At, H2 z = none) :
    Stk CB K rv c r sc H3 (pa :: foot st ls fc ln n N3 L3) (⟨p, A, f, q, L', el, pl, t0, At, s, ws⟩ :: es) := by
  have nt := W.footTup
  have hpa : ∃ o, H2 pa = some o ∧ NoTup o ∧ NoTbl o := W.al pa (List.mem_singleton_self pa)
  have paF : pa ∉ foot st ls fc ln n N L := fun h => by
    rcases List.mem_cons.mp h with h | h
    · exact W.stN.2 (by rw [h]; exact List.mem_singleton_self _)
    · exact W.footF pa h (List.mem_singleton_self _)
  -- the foot grows by what is new
  have grow : ∀ z, H2 z ≠ none → z ∉ foot st ls fc ln n N L → z ∉ foot st ls fc ln n N3 L3 := fun z hz hn h => by
    simp only [foot, List.mem_cons, List.mem_append] at h
    have hn' := hn
    simp only [foot, List.mem_cons, List.mem_append, not_or] at hn'
    obtain ⟨n1, n2, n3, n4, n5, n6⟩ := hn'
    rcases h with h | h | h | h | h | h
    · exact n1 h
    · exact n2 h
    · exact n3 h
    · exact n4 h
    · exact (jf z h).elim hn hz
    · exact (nf z h).elim hn hz
  have bdG := bd.same (offL_sub _ _)
  have bout : ∀ z, H2 z ≠ none → z ∉ ftB t0 At := fun z hz h => hz (bf z h)
  have mv : ∀ {z : Addr} {o : HO}, z ∉ foot st ls fc ln n N L → H2 z = some o → NoTbl o → OffL (ftB t0 At) H3 z = some o := fun {z o} hz e n => by
    have y := k3.at_ z o (by rw [offL_out hz]; exact e) n
    rw [offL_out hz] at y
    rw [offL_out (bout z (by rw [e]; exact fun w => nomatch w))]
    exact y
  have tp : ∀ a xs, SqT K H2 a xs → SqT K (OffL (ftB t0 At) H3) a xs := fun a xs h => sqt_off (fun z hz o e => bdG.noTup z hz o e) (sqt_keptL k3 nt h)
  have fo : ∀ {z : Addr}, z ∈ [p, A, f, q] ∨ z ∈ L'.map (·.1) ∨ z ∈ jas L' → z ∉ foot st ls fc ln n N L := fun {z} h m => (out z h).1 (List.mem_cons_of_mem _ m)
  have subX := offL_sub ([pa] ++ ftN n N) H2
  obtain ⟨pr, p1, p2⟩ := W.pairs
  obtain ⟨ev, v1, v2⟩ := W.ended
  have elF := W.outFoot v1 v2 flat_pairs W.le ne
  have plF := W.outFoot p1 p2 (flat_log _) W.lp np
  have elpa : el ≠ pa := fun e => (offL_some v1).1 (by simp [e])
  have plpa : pl ≠ pa := fun e => (offL_some p1).1 (by simp [e])
  refine .cons ⟨?_, ⟨mv (fo (by simp)) hL.top trivial, fun u hu => mv (fo (.inr (.inl (List.mem_map.mpr ⟨u, hu, rfl⟩)))) (hL.line u hu) trivial, fun a ha => mv (fo (.inr (.inr (List.mem_map.mpr ⟨a, ha, rfl⟩)))) (hL.jobs a ha) (by unfold jv; trivial), hL.nd⟩, mv (fo (by simp)) hf trivial, mv (fo (by simp)) hq trivial,
      ⟨pr, mv plF (subX.at p1) trivial, flatTs_keep (fun a xs h => tp a xs (same_seqT subX h)) p2 (flat_log _)⟩, ⟨ev, mv elF (subX.at v1) trivial, flatTs_keep (fun a xs h => tp a xs (same_seqT subX h)) v2 flat_pairs⟩, bdG, W.bn.ok, W.bn.lev,
      ⟨P.rok, by rw [eJ]; exact P.rel, P.uq, P.wnd, P.wok, P.few, P.nok, P.psl, P.fl⟩, ?_, Ael, Apl, qel, qpl⟩ (fun z hz => ?_) (fun e' he z hz h => ?_) ?x ?_
  case x =>
    obtain ⟨_, _, _, _, _, _, _, g3, _⟩ := W.sto.ex
    exact bout sc (by rw [subX.at g3]; exact fun w => nomatch w)
  · have y := k3.at_ p (.lst [.ref A, .ref f, .ref q]) (by rw [offL_out (fo (by simp))]; exact hp) trivial
    rw [offL_out (fo (by simp))] at y
    exact y
  · have e := congrArg List.length eJ
    rw [jbs_len, jbs_len] at e
    rw [e]
    exact W.l1
  · simp only [Sw.all, Sw.foot, List.mem_cons, List.mem_append] at hz
    have old : z ∉ pa :: foot st ls fc ln n N L → H2 z ≠ none → z ∉ pa :: foot st ls fc ln n N3 L3 := fun h1 h2 m => by
      rcases List.mem_cons.mp m with m | m
      · exact h1 (by rw [m]; exact List.mem_cons_self ..)
      · exact grow z h2 (fun q => h1 (List.mem_cons_of_mem _ q)) m
    have hasS : ∀ {z : Addr} {o : HO}, H2 z = some o → H2 z ≠ none := fun e => by rw [e]; exact fun w => nomatch w
    have elA : ∀ {z : Addr}, z ≠ pa → z ∉ foot st ls fc ln n N L → z ∉ pa :: foot st ls fc ln n N L := fun h1 h2 m => (List.mem_cons.mp m).elim h1 h2
    rcases hz with h | h | h | h | h | h | h | h | h
    · rw [h] at old ⊢
      exact old (out p (by simp)).1 (hasS hp)
    · rw [h] at old ⊢
      exact old (elA elpa elF) (hasS (subX.at v1))
    · rw [h] at old ⊢
      exact old (elA plpa plF) (hasS (subX.at p1))
    · refine old (out z (.inr (.inl h))).1 ?_
      obtain ⟨u, hu, e⟩ := List.mem_map.mp h
      rw [← e]
      exact hasS (hL.line u hu)
    · rw [h] at old ⊢
      exact old (out A (by simp)).1 (hasS hL.top)
    · rw [h] at old ⊢
      exact old (out f (by simp)).1 (hasS hf)
    · rw [h] at old ⊢
      exact old (out q (by simp)).1 (hasS hq)
    · refine old (out z (.inr (.inr h))).1 ?_
      obtain ⟨a, ha, e⟩ := List.mem_map.mp h
      rw [← e]
      exact hasS (hL.jobs a ha)
    · have z0 := bf z h
      intro m
      obtain ⟨u, e, _⟩ := bd.obj h
      obtain ⟨e1, e2⟩ := offL_some e
      simp only [foot, List.mem_cons, List.mem_append] at m
      rcases m with m | m | m | m | m | m | m
      · obtain ⟨o, h1, _⟩ := hpa
        rw [← m, z0] at h1
        cases h1
      · obtain ⟨_, _, _, _, _, g1, _⟩ := W.sto.ex
        have g1 := subX.at g1
        rw [← m, z0] at g1
        cases g1
      · have g1 := subX.at W.lines.top
        rw [← m, z0] at g1
        cases g1
      · have g1 := subX.at W.facts
        rw [← m, z0] at g1
        cases g1
      · have g1 := subX.at W.names
        rw [← m, z0] at g1
        cases g1
      · obtain ⟨a, ha, q⟩ := List.mem_map.mp m
        have y := W3.lines.jobs a ha
        rw [q] at y
        exact bdG.noJv h _ (offL_some y).2
      · exact e1 m
  · obtain ⟨h1, _⟩ := S.has e' he z hz
    simp only [Sw.foot, List.mem_cons, List.mem_append] at h
    rcases h with h | h | h | h | h
    · exact (out z (by simp [h])).2 e' he hz
    · exact (out z (by simp [h])).2 e' he hz
    · exact (out z (by simp [h])).2 e' he hz
    · exact (out z (.inr (.inr h))).2 e' he hz
    · exact h1 (bf z h)
  · refine S.kept (fun z hz o e => ?_) (k3.widen fun z hz => List.mem_cons_of_mem _ hz) (fun e he z hz hn m => ?_)
    · rcases List.mem_cons.mp hz with h | h
      · obtain ⟨u, h1, h2, _⟩ := hpa
        rw [h, h1] at e
        cases e
        exact h2
      · exact nt z h o e
    · obtain ⟨h1, h2⟩ := S.has e he z hz
      rcases List.mem_cons.mp m with m | m
      · exact hn (by rw [m]; exact List.mem_cons_self ..)
      · exact grow z h1 (fun q => hn (List.mem_cons_of_mem _ q)) m
theorem Stk.pop {CN CB : Addr} {K : PySem.W.Frag} {T n st sc ls fc ln pa : Addr} {rv : V} {c : Int} {r : Rl} {m : Int} {H H3 : Hp} {N : BnA} {s : Bd} {e : Sw} {es : List Sw} {L : Lv} {el pl : Addr} {ws : List Str}
    (S : Stk CB K rv c r sc H (pa :: foot st ls fc ln n N L) (e :: es)) (W : Wl CN CB K T n st sc ls fc ln rv c r [pa] m H N s (e.t :: es.map (·.t)) L el pl s.now (lensS s) (logD s) ws)
    (B : BnAt CN CB K H3 n rv c ⟨N.dn, e.t, N.p, e.At⟩ e.s r (es.map (·.t))) (k : Same (OffL [pa, n, N.p] H) (OffL [pa, n, N.p] H3)) (hpa : ∃ xs, H3 pa = some (.lst xs)) :
    Wl CN CB K T n st sc e.ls e.fc e.ln rv c r [pa] m H3 ⟨N.dn, e.t, N.p, e.At⟩ e.s (es.map (·.t)) e.L e.el e.pl e.s.now (lensS e.s) (logD e.s) e.ws ∧
    Stk CB K rv c r sc H3 (pa :: foot st e.ls e.fc e.ln n ⟨N.dn, e.t, N.p, e.At⟩ e.L) es ∧ P12 es.length r e.s (es.map (·.t)) e.L e.ws ∧ e.ln ≠ e.el ∧ e.ln ≠ e.pl := by
  cases S with
  | cons h d b x tl =>
  have nF : n ∈ foot st ls fc ln n N L := by simp [foot, ftN]
  have pF : N.p ∈ foot st ls fc ln n N L := by simp [foot, ftN]
  have inA : ∀ z ∈ [pa, n, N.p], z ∈ pa :: foot st ls fc ln n N L := fun z hz => by
    simp only [List.mem_cons, List.not_mem_nil, or_false] at hz
    rcases hz with h | h | h
    · rw [h]; exact List.mem_cons_self ..
    · rw [h]; exact List.mem_cons_of_mem _ nF
    · rw [h]; exact List.mem_cons_of_mem _ pF
  obtain ⟨xs, hx⟩ := hpa
  obtain ⟨o0, a1, a2, a3⟩ := W.al pa (List.mem_singleton_self pa)
  have nt : ∀ z ∈ [pa, n, N.p], ∀ o, H z = some o → NoTup o := fun z hz o q => by
    rcases List.mem_cons.mp (inA z hz) with h | h
    · rw [h, a1] at q
      cases q
      exact a2
    · exact W.footTup z h o q
  have nt3 : ∀ z ∈ [pa] ++ ftN n ⟨N.dn, e.t, N.p, e.At⟩, ∀ o, H3 z = some o → NoTup o := fun z hz o q => by
    rcases List.mem_append.mp hz with h | h
    · rw [List.mem_singleton.mp h, hx] at q
      cases q
      exact noTup_lst
    · exact B.noTup z h o q
  have tp : ∀ a xs, SqT K H a xs → SqT K (OffL ([pa] ++ ftN n ⟨N.dn, e.t, N.p, e.At⟩) H3) a xs := fun a xs q => sqt_off nt3 (sqt_keptL k nt q)
  have subE := offL_sub (ftB e.t e.At) H
  have mv : ∀ {z : Addr} {o : HO}, z ∉ [pa, n, N.p] → z ∉ ftB e.t e.At → H z = some o → NoTbl o → OffL ([pa] ++ ftN n ⟨N.dn, e.t, N.p, e.At⟩) H3 z = some o := fun {z o} h1 h2 q nb => by
    have y := k.at_ z o (by rw [offL_out h1]; exact q) nb
    rw [offL_out h1] at y
    rw [offL_out fun w => ?_]
    · exact y
    · simp only [ftN, List.mem_append, List.mem_cons, List.not_mem_nil, or_false] at w h1
      rcases w with w | w | w | w
      · exact h1 (.inl w)
      · exact h1 (.inr (.inl w))
      · exact h1 (.inr (.inr w))
      · exact h2 w
  have mvE : ∀ {z : Addr} {o : HO}, z ∈ e.all → OffL (ftB e.t e.At) H z = some o → NoTbl o → OffL ([pa] ++ ftN n ⟨N.dn, e.t, N.p, e.At⟩) H3 z = some o := fun {z o} hz q nb => mv (fun w => d z hz (inA z w)) (offL_some q).1 (offL_some q).2 nb
  have subX := offL_sub ([pa] ++ ftN n N) H
  obtain ⟨pr, p1, p2⟩ := h.pairs
  obtain ⟨ev, v1, v2⟩ := h.ended
  obtain ⟨cs, b1, b2, b3, b4, g1, g2, g3, g4⟩ := W.sto.ex
  have stA : st ∈ pa :: foot st ls fc ln n N L := by simp [foot]
  have out3 : ∀ {z : Addr}, z ∉ [pa] ++ ftN n N → z ∉ [pa, n, N.p] := fun {z} hz w => hz (by
    simp only [List.mem_cons, List.not_mem_nil, or_false] at w
    simp only [ftN, List.mem_append, List.mem_cons, List.not_mem_nil, or_false]
    rcases w with w | w | w
    · exact .inl w
    · exact .inr (.inl w)
    · exact .inr (.inr (.inl w)))
  have fE : ∀ {z : Addr}, z ∈ ftB e.t e.At → z ∈ e.all := fun {z} hz => by simp [Sw.all, Sw.foot, hz]
  have mE : e.el ∈ e.all := by simp [Sw.all]
  have mQ : e.pl ∈ e.all := by simp [Sw.all]
  have mL : e.ls ∈ e.all := by simp [Sw.all, Sw.foot]
  have mF : e.fc ∈ e.all := by simp [Sw.all, Sw.foot]
  have mN : e.ln ∈ e.all := by simp [Sw.all, Sw.foot]
  have mI : ∀ q ∈ e.L, q.1 ∈ e.all := fun q hq => by
    have : q.1 ∈ e.L.map (·.1) := List.mem_map.mpr ⟨q, hq, rfl⟩
    simp only [Sw.all, List.mem_cons, List.mem_append]
    exact .inr (.inr (.inr (.inl this)))
  have mJ : ∀ z ∈ jas e.L, z ∈ e.all := fun z hz => by simp [Sw.all, Sw.foot, hz]
  have tpE : ∀ a xs, SqT K (OffL (ftB e.t e.At) H) a xs → SqT K (OffL ([pa] ++ ftN n ⟨N.dn, e.t, N.p, e.At⟩) H3) a xs := fun a xs q => tp a xs (same_seqT subE q)
  refine ⟨⟨B, fun z hz w => ?_, fun z hz => ?_, ⟨mvE mL h.lines.top trivial, fun q hq => mvE (mI q hq) (h.lines.line q hq) trivial, fun a ha => mvE (mJ _ (List.mem_map.mpr ⟨a, ha, rfl⟩)) (h.lines.jobs a ha) (by unfold jv; trivial), h.lines.nd⟩, h.l1, mvE mF h.facts trivial, mvE mN h.names trivial, ⟨pr, mvE mQ p1 trivial, flatTs_keep tpE p2 (flat_log _)⟩, flat_log _, ⟨ev, mvE mE v1 trivial, flatTs_keep tpE v2 flat_pairs⟩,
    rul_keep (fun a xs q => tp a xs (same_seqT subX q)) W.rule, ⟨cs, b1, b2, b3, b4, mv (out3 (offL_some g1).1) (fun w => d st (fE w) stA) (offL_some g1).2 trivial, g2, mv (out3 (offL_some g3).1) x (offL_some g3).2 trivial, g4⟩, ?_, h.le, h.lp⟩, ?_, h.p12, h.ne, h.np⟩
  · rw [List.mem_singleton.mp hz] at w
    simp only [ftN, List.mem_cons] at w
    have paF : pa ∉ ftN n N := W.sep pa (List.mem_singleton_self pa)
    simp only [ftN, List.mem_cons, not_or] at paF
    rcases w with w | w | w
    · exact paF.1 w
    · exact paF.2.1 w
    · exact d pa (fE w) (List.mem_cons_self ..)
  · rw [List.mem_singleton.mp hz]
    exact ⟨_, hx, noTup_lst, trivial⟩
  · obtain ⟨q, eT, u⟩ := W.tab
    obtain ⟨e1, e2⟩ := offL_some eT
    have TE : T ∉ ftB e.t e.At := fun w => by
      obtain ⟨o, y1, y2⟩ := h.bd.obj w
      rw [e2] at y1
      cases y1
      exact y2
    obtain ⟨q', f1, f2⟩ := k.tab T ⟨q, by rw [offL_out (out3 e1)]; exact e2, u⟩
    rw [offL_out (out3 e1)] at f1
    refine ⟨q', ?_, f2⟩
    rw [offL_out fun w => ?_]
    · exact f1
    · have o3 := out3 e1
      simp only [ftN, List.mem_append, List.mem_cons, List.not_mem_nil, or_false] at w o3
      rcases w with w | w | w | w
      · exact o3 (.inl w)
      · exact o3 (.inr (.inl w))
      · exact o3 (.inr (.inr w))
      · exact TE w
  · refine tl.kept (fun z hz o q => ?_) (k.widen inA) (fun e' he z hz hn w => ?_)
    · rcases List.mem_cons.mp hz with h | h
      · rw [h, a1] at q
        cases q
        exact a2
      · exact W.footTup z h o q
    · have be := b e' he z hz
      simp only [Sw.foot, List.mem_cons, List.mem_append, not_or] at be
      obtain ⟨c1, c2, c3, c4, c5⟩ := be
      simp only [foot, ftN, List.mem_cons, List.mem_append] at w
      rcases w with w | w | w | w | w | w | w | w | w
      · exact hn (by rw [w]; exact List.mem_cons_self ..)
      · exact hn (by rw [w]; exact stA)
      · exact c1 w
      · exact c2 w
      · exact c3 w
      · exact c4 w
      · exact hn (by rw [w]; exact List.mem_cons_of_mem _ nF)
      · exact hn (by rw [w]; exact List.mem_cons_of_mem _ pF)
      · exact c5 w
end Vk
set_option maxHeartbeats 8000000
/-! what holds between two turns -/
namespace Vk
open PySem PySem.Spec PyProof.Rows L2 GxR
structure Iv (CN CB : Addr) (K : PySem.W.Frag) (T n st sc pa : Addr) (rv : V) (c : Nat) (r : Rl) (m : Int) (G : Hp) (ls fc ln el pl : Addr) (N : BnA) (s : Bd) (es : List Sw) (L : Lv) (ws : List Str) : Prop where
  W : Wl CN CB K T n st sc ls fc ln rv c r [pa] m G N s (es.map (·.t)) L el pl s.now (lensS s) (logD s) ws
  P : P12 es.length r s (es.map (·.t)) L ws
  S : Stk CB K rv c r sc G (pa :: foot st ls fc ln n N L) es
  hp : G pa = some (.lst (es.map fun e => V.ref e.p).reverse)
  z1 : zq ∉ s.ran.map (·.1)
  z2 : zq ∉ ws
  zs : ∀ e ∈ es, zq ∉ e.s.ran.map (·.1) ∧ zq ∉ e.ws
  ne : ln ≠ el
  np : ln ≠ pl
section
variable {CN CB : Addr} {K : PySem.W.Frag} {T n st sc pa : Addr} {rv : V} {c : Nat} {r : Rl} {m m' : Int} {G G' : Hp} {ls fc ln el pl : Addr} {N : BnA} {s : Bd} {es : List Sw} {L : Lv} {ws : List Str}
theorem Iv.past (I : Iv CN CB K T n st sc pa rv c r m G ls fc ln el pl N s es L ws) : pa ≠ st := fun e => I.W.stN.2 (by rw [← e]; exact List.mem_singleton_self _)
theorem Iv.more (I : Iv CN CB K T n st sc pa rv c r m G ls fc ln el pl N s es L ws) (h : m ≤ m') : Iv CN CB K T n st sc pa rv c r m' G ls fc ln el pl N s es L ws := { I with W := I.W.more h }
theorem Iv.footTup (I : Iv CN CB K T n st sc pa rv c r m G ls fc ln el pl N s es L ws) : ∀ z ∈ pa :: foot st ls fc ln n N L, ∀ o, G z = some o → NoTup o := fun z hz o e => by
  rcases List.mem_cons.mp hz with h | h
  · rw [h, I.hp] at e
    cases e
    exact noTup_lst
  · exact I.W.footTup z h o e
theorem Iv.draw (I : Iv CN CB K T n st sc pa rv c r m G ls fc ln el pl N s es L ws) (S' : Sto sc st m' G') (k : Kept st G G') : Iv CN CB K T n st sc pa rv c r m' G' ls fc ln el pl N s es L ws := by
  refine ⟨I.W.draw S' k, I.P, I.S.kept I.footTup ?_ (fun _ _ _ _ h => h), ?_, I.z1, I.z2, I.zs, I.ne, I.np⟩
  · have y : Same (OffL [st] G) (OffL [st] G') := by rw [offL_one, offL_one]; exact k
    exact y.widen fun z hz => by rw [List.mem_singleton.mp hz]; simp [foot]
  · have y := (show Same (Off st G) (Off st G') from k).at_ pa (.lst (es.map fun e => V.ref e.p).reverse) (by rw [off_ne I.past]; exact I.hp) trivial
    rw [off_ne I.past] at y
    exact y
theorem Iv.same (I : Iv CN CB K T n st sc pa rv c r m G ls fc ln el pl N s es L ws) (k : Same G G') : Iv CN CB K T n st sc pa rv c r m G' ls fc ln el pl N s es L ws :=
  I.draw ((I.W.sto.same (offL_sub _ _)).same k) (off_mono (a := st) k)
theorem Iv.sto (I : Iv CN CB K T n st sc pa rv c r m G ls fc ln el pl N s es L ws) : Sto sc st m G := I.W.sto.same (offL_sub _ _)
theorem Iv.due (I : Iv CN CB K T n st sc pa rv c r m G ls fc ln el pl N s es L ws) : ∃ pr, BnAt CN CB K G n rv c N s r (es.map (·.t)) ∧ LnAt G ls L ∧ L.length ≤ 6 ∧ (jl L).length ≤ 100 ∧
    G fc = some (.lst [.int s.now, .ref el, .ref pl]) ∧ Dp K G (.ref el) (.list ((lensS s).map pairSI)) ∧ G pl = some (.lst pr) ∧ DpAll K G pr (logD s) ∧ RelL s (jbs L) ∧ (∀ x ∈ s.ran.map (·.1), PyData.strOk x = true) := by
  have ok' := I.W.bn.ok
  obtain ⟨q1, q6⟩ := I.P.llen ok'
  have qj := I.P.jlen ok'
  have sub' := offL_sub ([pa] ++ ftN n N) G
  obtain ⟨pr, p1, p2⟩ := I.W.pairs
  obtain ⟨ev, v1, v2⟩ := I.W.ended
  exact ⟨pr, I.W.bn, I.W.lines.same sub', q6, by omega, sub'.at I.W.facts, .lst (SqL.of (sub'.at v1)) (dps_same sub' v2), sub'.at p1, dps_same sub' p2, I.P.rel, (fun x hx => name_strOk (I.P.nok x hx))⟩
/-- undo, and the past gives one -/
theorem Iv.back {e : Sw} {H3 : Hp} (I : Iv CN CB K T n st sc pa rv c r m G ls fc ln el pl N s (e :: es) L ws) (B : BnAt CN CB K H3 n rv c ⟨N.dn, e.t, N.p, e.At⟩ e.s r (es.map (·.t))) (k : Same (OffL [pa, n, N.p] G) (OffL [pa, n, N.p] H3)) (hp : H3 pa = some (.lst (es.map fun e => V.ref e.p).reverse)) :
    Iv CN CB K T n st sc pa rv c r m H3 e.ls e.fc e.ln e.el e.pl ⟨N.dn, e.t, N.p, e.At⟩ e.s es e.L e.ws := by
  obtain ⟨a1, a2, a3, a4, a5⟩ := Stk.pop I.S I.W B k ⟨_, hp⟩
  have z := I.zs e (List.mem_cons_self ..)
  exact ⟨a1, a3, a2, hp, z.1, z.2, fun f hf => I.zs f (List.mem_cons_of_mem _ hf), a4, a5⟩
/-- the latest board of the past -/
theorem Iv.last {e : Sw} (I : Iv CN CB K T n st sc pa rv c r m G ls fc ln el pl N s (e :: es) L ws) : BdAt CB K G e.t rv c e.At e.s ∧ e.s.Ok ∧ r.levels.length = e.s.lines.length ∧ n ∉ ftB e.t e.At ∧ N.p ∉ ftB e.t e.At ∧ pa ∉ ftB e.t e.At ∧ e.p ≠ pa ∧ e.p ≠ n ∧ e.p ≠ N.p ∧ G e.p = some (.lst [.ref e.ls, .ref e.fc, .ref e.ln]) := by
  cases I.S with
  | cons h d b x tl =>
  have nF : n ∈ pa :: foot st ls fc ln n N L := by simp [foot, ftN]
  have pF : N.p ∈ pa :: foot st ls fc ln n N L := by simp [foot, ftN]
  have aF : pa ∈ pa :: foot st ls fc ln n N L := List.mem_cons_self ..
  have fE : ∀ {z : Addr}, z ∈ ftB e.t e.At → z ∈ e.all := fun {z} hz => by simp [Sw.all, Sw.foot, hz]
  have mP : e.p ∈ e.all := by simp [Sw.all]
  exact ⟨h.bd, h.ok, h.lev, fun w => d _ (fE w) nF, fun w => d _ (fE w) pF, fun w => d _ (fE w) aF, fun w => d _ mP (by rw [w]; exact aF), fun w => d _ mP (by rw [w]; exact nF), fun w => d _ mP (by rw [w]; exact pF), h.cp⟩
theorem Iv.paF (I : Iv CN CB K T n st sc pa rv c r m G ls fc ln el pl N s es L ws) : pa ∉ foot st ls fc ln n N L := fun h => by
  rcases List.mem_cons.mp h with h | h
  · exact I.past h
  · exact I.W.footF pa h (List.mem_singleton_self _)
/-- what stands behind copy and append -/
structure Cpd (CN CB : Addr) (K : PySem.W.Frag) (T n st sc pa : Addr) (rv : V) (c : Nat) (r : Rl) (m : Int) (H : Hp) (ls fc ln el pl : Addr) (N : BnA) (s : Bd) (es : List Sw) (L : Lv) (ws : List Str) (p A f q : Addr) (L' : Lv) : Prop where
  W : Wl CN CB K T n st sc ls fc ln rv c r [pa] m H N s (es.map (·.t)) L el pl s.now (lensS s) (logD s) ws
  S : Stk CB K rv c r sc H (pa :: foot st ls fc ln n N L) es
  hp : H pa = some (.lst ((es.map fun e => V.ref e.p).reverse ++ [.ref p]))
  cp : H p = some (.lst [.ref A, .ref f, .ref q])
  hL : LnAt H A L'
  hf : H f = some (.lst [.int s.now, .ref el, .ref pl])
  hq : H q = some (.lst (ws.map V.str))
  out : ∀ z, z ∈ [p, A, f, q] ∨ z ∈ L'.map (·.1) ∨ z ∈ jas L' → z ∉ pa :: foot st ls fc ln n N L ∧ ∀ e ∈ es, z ∉ e.all
  n1 : A ≠ el
  n2 : A ≠ pl
  n3 : q ≠ el
  n4 : q ≠ pl
theorem Iv.cpd {H1 : Hp} {p A f q : Addr} {L' : Lv} (I : Iv CN CB K T n st sc pa rv c r m G ls fc ln el pl N s es L ws)
    (cp : H1 p = some (.lst [.ref A, .ref f, .ref q])) (hL : LnAt H1 A L') (hf : H1 f = some (.lst [.int s.now, .ref el, .ref pl])) (hq : H1 q = some (.lst (ws.map V.str))) (nw : ∀ z, z ∈ [p, A, f, q] ∨ z ∈ L'.map (·.1) ∨ z ∈ jas L' → G z = none) (k : Same G H1) :
    Cpd CN CB K T n st sc pa rv c r m (upd H1 pa (.lst ((es.map fun e => V.ref e.p).reverse ++ [.ref p]))) ls fc ln el pl N s es L ws p A f q L' := by
  have I1 := I.same k
  have np : ∀ z, z ∈ [p, A, f, q] ∨ z ∈ L'.map (·.1) ∨ z ∈ jas L' → z ≠ pa := fun z hz e => by
    have y := nw z hz
    rw [e, I.hp] at y
    cases y
  have up : ∀ {z : Addr} {o : HO}, (z ∈ [p, A, f, q] ∨ z ∈ L'.map (·.1) ∨ z ∈ jas L') → H1 z = some o → upd H1 pa (.lst ((es.map fun e => V.ref e.p).reverse ++ [.ref p])) z = some o := fun {z o} hz e => by
    rw [upd_ne (np z hz)]
    exact e
  have kx : ∀ {B : List Addr}, pa ∈ B → Same (OffL B H1) (OffL B (upd H1 pa (.lst ((es.map fun e => V.ref e.p).reverse ++ [.ref p])))) := fun {B} h => by
    rw [offL_upd h]
    exact Same.refl _
  have sG := offL_sub ([pa] ++ ftN n N) G
  obtain ⟨pr, p1, p2⟩ := I.W.pairs
  obtain ⟨ev, v1, v2⟩ := I.W.ended
  have old : ∀ {z y : Addr} {o : HO}, (z ∈ [p, A, f, q] ∨ z ∈ L'.map (·.1) ∨ z ∈ jas L') → G y = some o → z ≠ y := fun {z y o} hz e w => by
    have u := nw z hz
    rw [w, e] at u
    cases u
  refine ⟨I1.W.other (F' := [pa]) (kx (List.mem_cons_of_mem _ (List.mem_singleton_self _))) ?_ (fun z hz => .inl hz) (fun z hz => by rw [List.mem_singleton.mp hz]; exact ⟨_, upd_same, noTup_lst, trivial⟩), I1.S.kept I1.footTup (kx (List.mem_cons_self ..)) (fun _ _ _ _ h => h), upd_same, up (by simp) cp,
    ⟨up (by simp) hL.top, fun u hu => up (.inr (.inl (List.mem_map.mpr ⟨u, hu, rfl⟩))) (hL.line u hu), fun a ha => up (.inr (.inr (List.mem_map.mpr ⟨a, ha, rfl⟩))) (hL.jobs a ha), hL.nd⟩, up (by simp) hf, up (by simp) hq, fun z hz => ⟨fun w => ?_, fun e he w => ?_⟩, old (by simp) (sG.at v1), old (by simp) (sG.at p1), old (by simp) (sG.at v1), old (by simp) (sG.at p1)⟩
  · obtain ⟨x2, x3, x4, x5, x6, h1, h2, h3, h4⟩ := I1.sto.ex
    obtain ⟨y2, y3, y4, y5, y6, g1, g2, g3, g4⟩ := I1.W.sto.ex
    refine ⟨x2, x3, x4, x5, x6, by rw [upd_ne I.past.symm]; exact h1, h2, ?_, h4⟩
    rw [upd_ne fun w => ?_]
    · exact h3
    · have := (offL_some g3).1
      rw [w] at this
      exact this (by simp)
  · rcases List.mem_cons.mp w with w | w
    · exact np z hz w
    · exact I.W.footAl z w (nw z hz)
  · exact (I.S.has e he z w).1 (nw z hz)
theorem Iv.push {H2 H3 : Hp} {p A f q : Addr} {L' : Lv} {t0 : Addr} {At : BdA} {N3 : BnA} {s3 : Bd} {L3 : Lv} {el3 pl3 : Addr} {ws3 : List Str} (I : Iv CN CB K T n st sc pa rv c r m G ls fc ln el pl N s es L ws) (C : Cpd CN CB K T n st sc pa rv c r m H2 ls fc ln el pl N s es L ws p A f q L') (eJ : jbs L' = jbs L)
    (W3 : Wl CN CB K T n st sc ls fc ln rv c r [pa] m' H3 N3 s3 (t0 :: es.map (·.t)) L3 el3 pl3 s3.now (lensS s3) (logD s3) ws3) (P3 : P12 (es.length + 1) r s3 (t0 :: es.map (·.t)) L3 ws3) (k3 : Same (OffL (foot st ls fc ln n N L) H2) (OffL (foot st ls fc ln n N L) H3))
    (jf : ∀ z ∈ jas L3, z ∈ foot st ls fc ln n N L ∨ H2 z = none) (nf : ∀ z ∈ ftN n N3, z ∈ foot st ls fc ln n N L ∨ H2 z = none) (bd : BdAt CB K (OffL (ftN n N3) H3) t0 rv c At s) (bf : ∀ z ∈ ftB t0 At, H2 z = none) (e1 : ln ≠ el → ln ≠ el3) (e2 : ln ≠ pl → ln ≠ pl3) (nm : ∀ x, x ∈ s3.ran.map (·.1) ∨ x ∈ ws3 → x ∈ s.ran.map (·.1) ∨ x ∈ ws) :
    Iv CN CB K T n st sc pa rv c r m' H3 ls fc ln el3 pl3 N3 s3 (⟨p, A, f, q, L', el, pl, t0, At, s, ws⟩ :: es) L3 ws3 := by
  have zz : ∀ x, x ∈ s3.ran.map (·.1) ∨ x ∈ ws3 → x ≠ zq := fun x hx e => by
    rcases nm x hx with h | h
    · exact I.z1 (by rw [← e]; exact h)
    · exact I.z2 (by rw [← e]; exact h)
  refine ⟨W3, P3, Stk.push (H := G) (H1 := G) C.S C.W I.P I.ne I.np C.cp C.hL eJ C.hf C.hq C.out C.n1 C.n2 C.n3 C.n4 W3 k3 jf nf bd bf, ?_, fun h => zz _ (.inl h) rfl, fun h => zz _ (.inr h) rfl, fun e he => ?_, e1 I.ne, e2 I.np⟩
  · have y := k3.at_ pa (.lst ((es.map fun e => V.ref e.p).reverse ++ [.ref p])) (by rw [offL_out I.paF]; exact C.hp) trivial
    rw [offL_out I.paF] at y
    rw [y, List.map_cons, List.reverse_cons]
  · rcases List.mem_cons.mp he with h | h
    · subst h
      exact ⟨I.z1, I.z2⟩
    · exact I.zs e h
end
end Vk
set_option maxHeartbeats 8000000
/-! a bench of a rule that is none -/
namespace Vk
open PySem PySem.Spec PyProof.Rows L2 GxR
section
variable {P : Program} {w : World} {K : PySem.W.Frag} {mg : Str → Option Value} {base : Heap} {CN CB : Addr}
def spNInitX (K : PySem.W.Frag) (C : Addr) : Sp := fun vs H _ E => ∃ (x : Addr) (v : V) (c p : Int) (d : PyData), vs = [.ref x, v, .int c] ∧ Dp K H v d ∧ goodHeads d = true ∧ rulePlace d = some p ∧ ∀ (dx : Addr) (H' : Hp), Same H H' → H' dx = some (.xd [("place", .int p)]) → E (.ref C) (some dx) H'
theorem ok_ninitX {C fN : Addr} {fd : FuncData} (F : FunD K "__init__" "Bench.__init__" (defArgs sBnInit) (defBody sBnInit) (defScope sBnInit) [] [("processors", .int 1)] fN fd) (CK : Cl P w K mg base (L2.CX P w) 4 "check_rule" ["rule"] (spCheck K C)) :
    FnOk P w K mg base (L2.CX P w) 5 fN fd ([("self" : Str), "rule"] ++ [("processors" : Str)]) (spNInitX K C) := by
  refine F.ok scNInit (fun vs H Q E h => ?_) (fun cdv Ar outer s0 H vs Q E hr h => ?_)
  · obtain ⟨x, v, c, p, d, rfl, _⟩ := h
    rfl
  · obtain ⟨x, v, c, p, d, rfl, hd, gh, hp, k⟩ := h
    obtain ⟨fC, fdC, mC, kpC, bC, FC⟩ := CK.ex
    refine ⟨_, pss_cons (ps_expr (pe_call (E := E) FC hr rfl mC kpC bC .nil (passes_call (W := fun cls d _ H => E cls d H) (takes_of rfl rfl rfl rfl) (fun _ _ _ _ h => h)) (pa_cons (pv 1) pa_nil))) pss_never, ?_⟩
    refine ⟨_, rfl, v, d, rfl, hd, gh, fun e => absurd (hp.symm.trans e) (fun z => nomatch z), fun p2 e dx H1 s1 hx => ?_⟩
    rw [hp] at e
    cases e
    exact k dx H1 s1 hx
def spRuleRight : Sp := fun vs H Q _ => ∃ (st sc : Addr) (m : Int), vs = [.ref st] ∧ Sto sc st m H ∧ m ≤ 900000 ∧ ∀ H', Q (.bl true) H'
theorem scRuleRight : FnScope ["store", "caught", "bad", "e"] ["store"] (defScope sRuleRight) := ⟨rfl, rfl, rfl, by decide +kernel, rfl, by decide +kernel, by decide +kernel⟩
theorem ok_ruleRight {C S fI : Addr} {fdI : FuncData} (D : Df K mg "_law_rule_right" sRuleRight ["store"]) (B : Blt mg) (PK : Cl P w K mg base CX0 2 "_law_pick" ["store", "count"] spPick) (gB : mg "Bench" = some (.ref CN)) (MI : Mk K CN fI) {dI : List Value} (vI : Vals [V.int 1] dI) (bI : L2.Binds K fdI ([("self" : Str), "rule"] ++ [("processors" : Str)]) dI)
    (FI : FnOk P w K mg base (L2.CX P w) 5 fI fdI ([("self" : Str), "rule"] ++ [("processors" : Str)]) (spNInitX K C)) (mS : mg "SlotError" = some (.ref S)) (exm : PySem.W.exmOne K (.ref C) (.ref S) = some true) (KI : Cl P w K mg base CX0 1 "_law_kind" ["caught"] (spKind C 1)) :
    Cl P w K mg base CX0 7 "_law_rule_right" ["store"] spRuleRight := by
  refine cl0 D scRuleRight (fun vs H Q E h => ?_) (fun f cdv A outer s0 H vs Q E hr h => ?_)
  · obtain ⟨st, sc, m, rfl, _⟩ := h
    rfl
  · obtain ⟨st, sc, m, rfl, S0, m9, k⟩ := h
    refine ⟨_, pss_cons (ps_set (i := 1) scRuleRight.nd rfl (Or.inl rfl) pe_non)
      (pss_cons (ps_set (i := 2) scRuleRight.nd rfl (Or.inl rfl) (pe_ix ix_list (pe_lst (pa_cons (pe_tup (pa_cons (pe_tup pa_nil) (pa_cons pe_non pa_nil))) (pa_cons (pe_tup (pa_cons (pe_tup (pa_cons (pe_tup (pa_cons pe_str (pa_cons pe_int pa_nil))) pa_nil)) (pa_cons pe_non pa_nil))) (pa_cons (pe_tup (pa_cons (pe_tup (pa_cons (pe_tup (pa_cons pe_str (pa_cons pe_int pa_nil))) pa_nil)) (pa_cons pe_int pa_nil))) pa_nil)))) (pc PK hr (by decide) (pa_cons (pv 0) (pa_cons pe_int pa_nil))) (fun _ _ => rfl)))
      (pss_cons (ps_try_keep (i := 3) (c := .ref S) (ts := fun _ _ _ => tAsg (tVar 3) (gName 1)) rfl rfl rfl scRuleRight.nd rfl rfl rfl mS (by decide)
          (fun W pn xe tk _ => pss_one (ps_expr (pe_makeX MI FI hr rfl gB bI vI (fun σ => passAt tk σ) (pa_cons (pv 2) pa_nil))))
          (fun a oe cls d pn _ _ => pss_one (ps_set (i := 1) scRuleRight.nd rfl (Or.inl rfl) (by exact (pv 3)))))
      (pss_one (ps_ret (pe_and (pe_cmpR op_notN (pv 1) pe_non (nomark _)) (pe_one (pe_cmpR (op_eqD hr.units) (pc KI hr (by decide) (pa_cons (pv 1) pa_nil)) (pe_tup (pa_cons pe_str (pa_cons (pe_callTy call_int1 (by rfl) B.int (by decide +kernel) (pa_cons (pe_cmpR op_eq (pe_ix ix_tup (pv 2) pe_int (fun _ _ => rfl)) pe_int (nomark _)) pa_nil)) pa_nil))) (nomark _)))))))), ?_⟩
    refine ⟨Nat.zero_le _, fun t1 n1 => ?_⟩
    have s1 := same_new (o := .tup ([] : List V)) n1
    refine ⟨by show 2 ≤ sizeLine; decide, fun a1 n2 => ?_⟩
    have s2 := same_new (o := .tup [V.ref t1, .non]) n2
    refine ⟨by show 2 ≤ sizeLine; decide, fun q1 n3 => ?_⟩
    have s3 := same_new (o := .tup [V.str "queue", .int 0]) n3
    refine ⟨by show 1 ≤ sizeLine; decide, fun t2 n4 => ?_⟩
    have s4 := same_new (o := .tup [V.ref q1]) n4
    refine ⟨by show 2 ≤ sizeLine; decide, fun a2 n5 => ?_⟩
    have s5 := same_new (o := .tup [V.ref t2, .non]) n5
    refine ⟨by show 2 ≤ sizeLine; decide, fun q2 n6 => ?_⟩
    have s6 := same_new (o := .tup [V.str "queue", .int 1]) n6
    refine ⟨by show 1 ≤ sizeLine; decide, fun t3 n7 => ?_⟩
    have s7 := same_new (o := .tup [V.ref q2]) n7
    refine ⟨by show 2 ≤ sizeLine; decide, fun a3 n8 => ?_⟩
    have s8 := same_new (o := .tup [V.ref t3, .int 0]) n8
    refine ⟨by show 3 ≤ sizeLine; decide, fun l n9 => ?_⟩
    have s9 := same_new (o := .lst [V.ref a1, .ref a2, .ref a3]) n9
    have u8 := s8.trans s9
    have u7 := s7.trans u8
    have u6 := s6.trans u7
    have u5 := s5.trans u6
    have u4 := s4.trans u5
    have u3 := s3.trans u4
    have u2 := s2.trans u3
    have ht1 := u2.at (b := t1) (o := .tup ([] : List V)) upd_same
    have ha1 := u3.at (b := a1) (o := .tup [V.ref t1, .non]) upd_same
    have hq1 := u4.at (b := q1) (o := .tup [V.str "queue", .int 0]) upd_same
    have ht2 := u5.at (b := t2) (o := .tup [V.ref q1]) upd_same
    have ha2 := u6.at (b := a2) (o := .tup [V.ref t2, .non]) upd_same
    have hq2 := u7.at (b := q2) (o := .tup [V.str "queue", .int 1]) upd_same
    have ht3 := u8.at (b := t3) (o := .tup [V.ref q2]) upd_same
    have ha3 := s9.at (b := a3) (o := .tup [V.ref t3, .int 0]) upd_same
    have SX := S0.same (s1.trans u2)
    have hl : ∀ {Y : Hp}, upd Y l (.lst [V.ref a1, .ref a2, .ref a3]) l = some (.lst [V.ref a1, .ref a2, .ref a3]) := upd_same
    refine ⟨_, rfl, st, sc, 3, _, rfl, by decide, by decide, SX, by omega, fun r3 H5 h0 h3 S5 K5 => ?_⟩
    obtain ⟨cs, z2, z3, z4, z5, g1, _⟩ := SX.ex
    have stay : ∀ {z : Addr} {o : HO}, z ≠ st → upd _ l (.lst [V.ref a1, .ref a2, .ref a3]) z = some o → NoTbl o → H5 z = some o := fun {z o} zn e nt => by
      have y := (show Same (Off st _) (Off st H5) from K5).at_ z o (by rw [off_ne zn]; exact e) nt
      rw [off_ne zn] at y
      exact y
    have tup5 : ∀ {z : Addr} {xs : List V}, upd _ l (.lst [V.ref a1, .ref a2, .ref a3]) z = some (.tup xs) → H5 z = some (.tup xs) := fun {z xs} e => stay (fun q => by rw [q, g1] at e; cases e) e trivial
    have kt1 := tup5 ht1
    have ka1 := tup5 ha1
    have kq1 := tup5 hq1
    have kt2 := tup5 ht2
    have ka2 := tup5 ha2
    have kq2 := tup5 hq2
    have kt3 := tup5 ht3
    have ka3 := tup5 ha3
    have kl := stay (z := l) (fun q => by rw [← q, hl] at g1; cases g1) hl trivial
    obtain ⟨ba, x0, u, d, p, hat, hba, hd, gh, hp, hu⟩ : ∃ (ba : Addr) (x0 u : V) (d : PyData) (p : Int), atI [V.ref a1, .ref a2, .ref a3] r3 = some (.ref ba) ∧ H5 ba = some (.tup [x0, u]) ∧ Dp K H5 (.ref ba) d ∧ goodHeads d = true ∧ rulePlace d = some p ∧ ((u = .non ∧ p = 0) ∨ (u = .int 0 ∧ p = 1)) := by
      rcases (show r3 = 0 ∨ r3 = 1 ∨ r3 = 2 by omega) with e | e | e
      · exact ⟨a1, _, _, .tuple [.tuple [], .none], 0, by rw [e]; rfl, ka1, .tup (SqT.of ka1) (.cons (.tup (SqT.of kt1) .nil) (.cons .non .nil)), rfl, rfl, .inl ⟨rfl, rfl⟩⟩
      · exact ⟨a2, _, _, .tuple [.tuple [.tuple [.str "queue", .int 0]], .none], 0, by rw [e]; rfl, ka2, .tup (SqT.of ka2) (.cons (.tup (SqT.of kt2) (.cons (.tup (SqT.of kq1) (.cons (.str _) (.cons (.int _) .nil))) .nil)) (.cons .non .nil)), rfl, by decide +kernel, .inl ⟨rfl, rfl⟩⟩
      · exact ⟨a3, _, _, .tuple [.tuple [.tuple [.str "queue", .int 1]], .int 0], 1, by rw [e]; rfl, ka3, .tup (SqT.of ka3) (.cons (.tup (SqT.of kt3) (.cons (.tup (SqT.of kq2) (.cons (.str _) (.cons (.int _) .nil))) .nil)) (.cons (.int _) .nil)), rfl, by decide +kernel, .inr ⟨rfl, rfl⟩⟩
    refine ⟨l, _, _, _, rfl, rfl, SqL.of kl, hat, ?_⟩
    refine ⟨_, rfl, fun x dx nx ndx ndd => ?_⟩
    have sm : Same H5 (upd (upd H5 dx (.own x)) x (.ins CN dx [])) := .of fun z o e => by
      rw [upd_ne (fun y => by rw [y, nx] at e; cases e), upd_ne (fun y => by rw [y, ndx] at e; cases e)]
      exact e
    refine ⟨x, .ref ba, 1, p, d, rfl, dp_same sm hd, gh, hp, fun ex H6 s6' hx => ?_⟩
    refine ⟨exm, fun a na => ⟨_, rfl, fun na2 => ?_⟩⟩
    have s56 := sm.trans s6'
    have s57 := s56.trans (same_new (o := Xco a (.ref C) (some ex)) na2)
    have hx7 : upd H6 a (Xco a (.ref C) (some ex)) ex = some (.xd [(("place" : Str), .int p)]) := by
      rw [upd_ne (ne_of_none hx na2)]
      exact hx
    refine ⟨_, rfl, rfl, _, rfl, iteT ?_⟩
    refine ⟨_, rfl, a, ex, _, rfl, upd_same, hx7, fun t H8 s8' ht => ?_⟩
    have s58 := s57.trans s8'
    refine ⟨_, rfl, ba, _, _, _, rfl, rfl, SqT.of (s58.at hba), rfl, ?_⟩
    have last : ∀ i : Int, i = p → ∀ z, H8 z = none → ∀ G, Same H8 G → G z = some (.tup [V.str "rule", .int i]) → rEqD K (.ref t) (.ref z) G Q := fun i ei z nz G sG hz => by
      subst ei
      have sh : SeqAt.shaped (.tuple [.str ("rule" : Str), .int i]) = true := by simp [SeqAt.shaped, PyData.canLay0, PyData.canLayAll0, PyData.depth, PyData.depthAll]; decide +kernel
      have eq : PyData.eqv (.tuple [.str ("rule" : Str), .int i]) (.tuple [.str ("rule" : Str), .int i]) = true := SeqAt.eqv_refl _ (SeqAt.canLay_of_shaped sh)
      refine ⟨_, _, .tup (SqT.of (sG.at ht)) (.cons (.str _) (.cons (.int _) .nil)), .tup (SqT.of hz) (.cons (.str _) (.cons (.int _) .nil)), sh, sh, ?_⟩
      rw [show (.tuple [.str (words7.getD 1 ""), .int i] : PyData) = .tuple [.str ("rule" : Str), .int i] from rfl, eq]
      exact k G
    rcases hu with ⟨rfl, rfl⟩ | ⟨rfl, rfl⟩
    · refine ⟨rfl, .inr ⟨_, rfl, by show 2 ≤ sizeLine; decide, fun z nz => ?_⟩⟩
      exact last 0 rfl z nz _ (same_new nz) upd_same
    · refine ⟨rfl, .inr ⟨_, rfl, by show 2 ≤ sizeLine; decide, fun z nz => ?_⟩⟩
      exact last 1 rfl z nz _ (same_new nz) upd_same
end
end Vk
set_option maxHeartbeats 8000000
/-! a copy of lines, facts, names -/
namespace Vk
open PySem PySem.Spec PyProof.Rows L2 GxR
abbrev NY : List Str := ["lines", "facts", "names", "line", "job"]
section
variable {P : Program} {w : World} {K : PySem.W.Frag} {mg : Str → Option Value} {base : Heap}
def spCopy (K : PySem.W.Frag) : Sp := fun vs H Q _ => ∃ (ls fc ln : Addr) (L : Lv) (fs ns : List V), vs = [.ref ls, .ref fc, .ref ln] ∧ LnAt H ls L ∧ L.length ≤ 1000 ∧ (∀ p ∈ L, p.2.length ≤ 1000) ∧ H fc = some (.lst fs) ∧ H ln = some (.lst ns) ∧
  ∀ (p A f n : Addr) (L' : Lv) (H' : Hp), H' p = some (.lst [.ref A, .ref f, .ref n]) → LnAt H' A L' → jbs L' = jbs L → H' f = some (.lst fs) → H' n = some (.lst ns) → (∀ z, z ∈ [p, A, f, n] ∨ z ∈ L'.map (·.1) ∨ z ∈ jas L' → H z = none) → A ≠ f → A ≠ n → f ≠ n → A ∉ jas L' → f ∉ jas L' → n ∉ jas L' → Same H H' → Q (.ref p) H'
theorem scCopy : FnScope NY ["lines", "facts", "names"] (defScope sCopy) := ⟨rfl, rfl, rfl, by decide +kernel, rfl, by decide +kernel, by decide +kernel⟩
theorem ok_copyL (D : Df K mg "_law_copy" sCopy ["lines", "facts", "names"]) (B : Blt mg) : Cl P w K mg base CX0 1 "_law_copy" ["lines", "facts", "names"] (spCopy K) := by
  refine cl0 D scCopy (fun vs H Q E h => ?_) (fun f cdv Ar outer s0 H vs Q E hr h => ?_)
  · obtain ⟨ls, fc, ln, L, fs, ns, rfl, _⟩ := h
    rfl
  · obtain ⟨ls, fc, ln, L, fs, ns, rfl, hL, l6, ll, hfc, hln, k⟩ := h
    refine ⟨_, pss_one (ps_ret (pe_lst (pa_cons
        (pe_lc (own := [("line", 3)]) (g := gName 3) (tt := tYes) (te := tLc (iList K (tVar 3)) (gName 4) tYes (tCB (rListC K) (tCons (tVar 4) tNil)) [4]) (by rfl) scCopy.nd (pi_list (pv 0)) (blkOk_by (own := [("line", 3)]) (N := NY) (sc := defScope sCopy) (by decide +kernel)) (fun _ _ _ _ _ => pg_name (i := 3) scCopy.nd rfl (.inl rfl)) (fun _ _ _ _ _ => pts_nil)
          (fun _ _ _ _ _ => pe_lc (own := [("job", 4)]) (g := gName 4) (tt := tYes) (by rfl) scCopy.nd (pi_list (pv 3)) (blkOk_by (own := [("job", 4)]) (N := NY) (sc := { kind := .function, names := [(".0", .local), ("line", .local)], isGenerator := false, isCoroutine := false }) (by decide +kernel)) (fun _ _ _ _ _ => pg_name (i := 4) scCopy.nd rfl (.inl rfl)) (fun _ _ _ _ _ => pts_nil)
            (fun _ _ _ _ _ => pe_callTy call_list_of (by rfl) B.list (by decide +kernel) (pa_cons (pv 4) pa_nil))))
        (pa_cons (pe_callTy call_list_of (by rfl) B.list (by decide +kernel) (pa_cons (pv 1) pa_nil)) (pa_cons (pe_callTy call_list_of (by rfl) B.list (by decide +kernel) (pa_cons (pv 2) pa_nil)) pa_nil))))), ?_⟩
    have hz : ∀ n : Nat, n < 1000 → n < sizeLine := fun n hn => Nat.lt_trans hn (by decide)
    -- one line
    have inner : ∀ {Hc : Hp} {q : Addr × List (Addr × Jb)} {σ : L2.St} {Q : VK}, σ = [some (.ref ls), some (.ref fc), some (.ref ln), some (.ref q.1), none] → Hc q.1 = some (.lst (refs q.2)) → JsAt Hc q.2 → q.2.length ≤ 1000 →
        (∀ (z : Addr) (A' : List (Addr × Jb)) (Hd : Hp), Hc z = none → Hd z = some (.lst (refs A')) → A'.map (·.2) = q.2.map (·.2) → JsAt Hd A' → (A'.map (·.1)).Nodup → (∀ b ∈ A', Hc b.1 = none ∧ b.1 ≠ z) → Same Hc Hd → Q (.ref z) Hd) →
        tLc (iList K (tVar 3)) (gName 4) tYes (tCB (rListC K) (tCons (tVar 4) tNil)) [4] σ Hc Q := fun {Hc q σ Q} eσ hq hj lq go => by
      subst eσ
      refine ⟨_, rfl, q.1, rfl, ⟨_, SqL.of hq⟩, fun z nz => ?_⟩
      refine lc_it (walk_list (K := K) (a := q.1) (xs := refs q.2)) (fun i Hd => ∃ A' : List (Addr × Jb), Hd z = some (.lst (refs A')) ∧ A'.length ≤ i ∧ A'.map (·.2) = (q.2.take i).map (·.2) ∧ JsAt Hd A' ∧ (A'.map (·.1)).Nodup ∧ (∀ b ∈ A', Hc b.1 = none ∧ b.1 ≠ z) ∧ Same Hc (Off z Hd))
        ⟨[], upd_same, Nat.le_refl _, rfl, (fun b hb => by cases hb), .nil, (fun b hb => by cases hb), off_newB nz⟩ (fun i Hd _ ⟨_, _, _, _, _, _, _, s⟩ => SqL.of ((s.trans (off_sub z Hd)).at hq)) ?_ ?_
      · rintro i y Hd0 Hd hi ⟨A', a1, a2, a3, a4, a5, a6, s⟩ ⟨rfl, hy⟩
        unfold refs at hy hi
        rw [List.getElem?_map] at hy
        rw [List.length_map] at hi
        obtain ⟨b, hb, rfl⟩ := Option.map_eq_some_iff.mp hy
        have sH := s.trans (off_sub z Hd)
        have hjb := sH.at (hj b (List.mem_of_getElem? hb)) (by unfold jv; trivial)
        refine ⟨rfl, ?_⟩
        unfold tYes
        dsimp only
        rw [if_pos rfl]
        refine ⟨_, rfl, b.1, _, rfl, .inl (SqL.of (show Hd b.1 = some (.lst _) from hjb)), fun l nl => ?_⟩
        have sl := same_new (o := jv b.2) nl
        have lz : l ≠ z := fun e => by rw [e, a1] at nl; cases nl
        have la : ∀ c ∈ A', c.1 ≠ l := fun c hc e => by
          have y := a4 c hc
          rw [e, nl] at y
          cases y
        refine ⟨refs A', by rw [upd_ne lz.symm]; exact a1, ?_, A' ++ [(l, b.2)], ?_, ?_, ?_, ?_, ?_, ?_, ?_⟩
        · unfold refs
          rw [List.length_map]
          exact hz _ (by omega)
        · rw [upd_same]
          unfold refs
          rw [List.map_append]
          rfl
        · rw [List.length_append]
          exact Nat.succ_le_succ a2
        · rw [List.map_append, a3, List.take_add_one, hb, List.map_append]
          rfl
        · intro c hc
          have cz : c.1 ≠ z := by
            rcases List.mem_append.mp hc with h | h
            · exact (a6 c h).2
            · rw [List.mem_singleton.mp h]; exact lz
          rw [upd_ne cz]
          rcases List.mem_append.mp hc with h | h
          · rw [upd_ne (la c h)]
            exact a4 c h
          · rw [List.mem_singleton.mp h]
            exact upd_same
        · rw [List.map_append]
          refine List.nodup_append.mpr ⟨a5, by simp, fun u hu v hv e => ?_⟩
          obtain ⟨c, hc, rfl⟩ := List.mem_map.mp hu
          rw [List.mem_singleton.mp hv] at e
          exact la c hc e
        · intro c hc
          rcases List.mem_append.mp hc with h | h
          · exact a6 c h
          · rw [List.mem_singleton.mp h]
            exact ⟨sH.free nl, lz⟩
        · rw [off_upd]
          exact s.trans (off_mono (a := z) sl)
      rintro Hd ⟨A', a1, a2, a3, a4, a5, a6, s⟩
      have e1 : (refs q.2).length = q.2.length := by unfold refs; rw [List.length_map]
      rw [e1, List.take_length] at a3
      exact go z A' Hd nz a1 a3 a4 a5 a6 (s.trans (off_sub z Hd))
    refine ⟨_, rfl, ls, rfl, ⟨_, SqL.of hL.top⟩, fun D nD => ?_⟩
    refine lc_it (walk_list (K := K) (a := ls) (xs := tops L)) (fun i Hc => ∃ L' : Lv, Hc D = some (.lst (tops L')) ∧ L'.length ≤ i ∧ jbs L' = jbs (L.take i) ∧ (∀ q ∈ L', Hc q.1 = some (.lst (refs q.2))) ∧ JsAt Hc (jl L') ∧ (jas L').Nodup ∧ (∀ q ∈ L', H q.1 = none ∧ q.1 ≠ D) ∧ (∀ z ∈ jas L', H z = none ∧ z ≠ D) ∧ Same H (Off D Hc))
      ⟨[], upd_same, Nat.le_refl _, rfl, (fun b hb => by cases hb), (fun b hb => by cases hb), .nil, (fun b hb => by cases hb), (fun b hb => by cases hb), off_newB nD⟩ (fun i Hc _ ⟨_, _, _, _, _, _, _, _, _, s⟩ => SqL.of ((s.trans (off_sub D Hc)).at hL.top)) ?_ ?_
    · rintro i y Hc0 Hc hi ⟨L', a1, a2, a3, a4, a5, a6, a7, a8, s⟩ ⟨rfl, hy⟩
      unfold tops at hy hi
      rw [List.getElem?_map] at hy
      rw [List.length_map] at hi
      obtain ⟨q, hq, rfl⟩ := Option.map_eq_some_iff.mp hy
      have qm := List.mem_of_getElem? hq
      have sH := s.trans (off_sub D Hc)
      refine ⟨rfl, ?_⟩
      unfold tYes
      dsimp only
      rw [if_pos rfl]
      refine inner (q := q) rfl (sH.at (hL.line q qm)) (fun b hb => sH.at (hL.jobs b (jl_mem qm hb)) (by unfold jv; trivial)) (ll q qm) fun z A' Hd nz b1 b2 b3 bnd b4 sd => ?_
      have zD : z ≠ D := fun e => by rw [e, a1] at nz; cases nz
      have bD : ∀ b ∈ A', b.1 ≠ D := fun b hb e => by
        have y := (b4 b hb).1
        rw [e, a1] at y
        cases y
      have jl2 : jl (L' ++ [(z, A')]) = jl L' ++ A' := by
        unfold jl
        rw [List.flatMap_append]
        simp
      have jas2 : jas (L' ++ [(z, A')]) = jas L' ++ A'.map (·.1) := by
        unfold jas
        rw [jl2, List.map_append]
      refine ⟨tops L', sd.at a1, ?_, L' ++ [(z, A')], ?_, ?_, ?_, ?_, ?_, ?_, ?_, ?_, ?_⟩
      · unfold tops
        rw [List.length_map]
        exact hz _ (by omega)
      · rw [upd_same]
        unfold tops
        rw [List.map_append]
        rfl
      · rw [List.length_append]
        exact Nat.succ_le_succ a2
      · have e : jbs (L' ++ [(z, A')]) = jbs L' ++ [A'.map (·.2)] := by
          unfold jbs
          rw [List.map_append]
          rfl
        rw [e, a3, b2, List.take_add_one, hq]
        unfold jbs
        rw [List.map_append]
        rfl
      · intro u hu
        rcases List.mem_append.mp hu with h | h
        · rw [upd_ne (a7 u h).2]
          exact sd.at (a4 u h)
        · rw [List.mem_singleton.mp h, upd_ne zD]
          exact b1
      · rw [jl2]
        intro u hu
        rcases List.mem_append.mp hu with h | h
        · rw [upd_ne (a8 u.1 (List.mem_map.mpr ⟨u, h, rfl⟩)).2]
          exact sd.at (a5 u h) (by unfold jv; trivial)
        · rw [upd_ne (bD u h)]
          exact b3 u h
      · rw [jas2]
        refine List.nodup_append.mpr ⟨a6, by assumption, fun u hu v hv e => ?_⟩
        obtain ⟨b, hb, rfl⟩ := List.mem_map.mp hv
        obtain ⟨c, hc, rfl⟩ := List.mem_map.mp hu
        have y := (b4 b hb).1
        rw [← e, a5 c hc] at y
        cases y
      · intro u hu
        rcases List.mem_append.mp hu with h | h
        · exact a7 u h
        · rw [List.mem_singleton.mp h]
          exact ⟨sH.free nz, zD⟩
      · rw [jas2]
        intro u hu
        rcases List.mem_append.mp hu with h | h
        · exact a8 u h
        · obtain ⟨b, hb, rfl⟩ := List.mem_map.mp h
          exact ⟨sH.free (b4 b hb).1, bD b hb⟩
      · rw [off_upd]
        exact s.trans (off_mono (a := D) sd)
    rintro H1 ⟨L', a1, a2, a3, a4, a5, a6, a7, a8, s⟩
    have e1 : (tops L).length = L.length := by unfold tops; rw [List.length_map]
    rw [e1, List.take_length] at a3
    have s1 := s.trans (off_sub D H1)
    refine ⟨_, rfl, fc, _, rfl, .inl (SqL.of (s1.at hfc)), fun f' nf => ?_⟩
    have s2 := same_new (o := .lst fs) nf
    refine ⟨_, rfl, ln, _, rfl, .inl (SqL.of ((s1.trans s2).at hln)), fun n' nn => ?_⟩
    have s3 := same_new (o := .lst ns) nn
    refine ⟨by show 3 ≤ sizeLine; decide, fun p np => ?_⟩
    have s4 := same_new (o := .lst [V.ref D, .ref f', .ref n']) np
    have s24 := s2.trans (s3.trans s4)
    have n1 : H1 n' = none := s2.free nn
    have n2 : H1 p = none := (s2.trans s3).free np
    have jn : ∀ {u : Addr}, H1 u = none → u ∉ jas L' := fun {u} e h => by
      obtain ⟨b, hb, rfl⟩ := List.mem_map.mp h
      rw [a5 b hb] at e
      cases e
    refine k p D f' n' L' _ upd_same ⟨s24.at a1, fun q hq => s24.at (a4 q hq), a5.same s24, a6⟩ a3 ((s3.trans s4).at upd_same) (s4.at upd_same) (fun u hu => ?_) (fun e => by rw [← e, a1] at nf; cases nf) (fun e => by rw [← e, a1] at n1; cases n1) (fun e => by rw [← e, upd_same] at nn; cases nn) (fun h => (a8 D h).2 rfl) (jn nf) (jn n1) (s1.trans s24)
    rcases hu with hu | hu | hu
    · simp only [List.mem_cons, List.not_mem_nil, or_false] at hu
      rcases hu with e | e | e | e
      · rw [e]; exact s1.free n2
      · rw [e]; exact nD
      · rw [e]; exact s1.free nf
      · rw [e]; exact s1.free n1
    · obtain ⟨q, hq, rfl⟩ := List.mem_map.mp hu
      exact (a7 q hq).1
    · exact (a8 u hu).1
end
end Vk
set_option maxHeartbeats 16000000
/-! the law -/
namespace Vk
open PySem PySem.Spec PyProof.Rows L2 GxR
/-- the bench's class, as it makes -/
structure BnNew (P : Program) (w : World) (K : PySem.W.Frag) (mg : Str → Option Value) (base : Heap) (CN CB : Addr) : Prop where
  g : mg "Bench" = some (.ref CN)
  ex : ∃ fI fd, Mk K CN fI ∧ KBn K fd ([("self" : Str), "rule"] ++ [("processors" : Str)]) 2 [("processors" : Str)] (fun us ws => us ++ ws) (fun vs zs => vs ++ zs) ∧ (∃ ds, Vals [V.int 1] ds ∧ Binds K fd ([("self" : Str), "rule"] ++ [("processors" : Str)]) ds) ∧
    FnOk P w K mg base CX0 5 fI fd ([("self" : Str), "rule"] ++ [("processors" : Str)]) (spNInit K CN CB)
theorem sto_off {ft : List Addr} {X Y : Hp} {sc a : Addr} {m n : Int} (h : Sto sc a m (OffL ft X)) (s : Sto sc a n Y) : Sto sc a n (OffL ft Y) := by
  obtain ⟨_, _, _, _, _, g1, _, g3, _⟩ := h.ex
  obtain ⟨x2, x3, x4, x5, x6, h1, h2, h3, h4⟩ := s.ex
  exact ⟨x2, x3, x4, x5, x6, by rw [offL_out (offL_some g1).1]; exact h1, h2, by rw [offL_out (offL_some g3).1]; exact h3, h4⟩
theorem sto_out {ft : List Addr} {X : Hp} {sc a : Addr} {m : Int} (h : Sto sc a m (OffL ft X)) : a ∉ ft ∧ ∃ l, X a = some (.lst l) := by
  obtain ⟨_, _, _, _, _, g1, _⟩ := h.ex
  exact ⟨(offL_some g1).1, _, (offL_some g1).2⟩
theorem tab_kept {ft : List Addr} {X Y : Hp} {sc a T : Addr} {m : Int} (h : Sto sc a m (OffL ft X)) (k : Kept a X Y) (t : TabG (OffL ft X) T) : TabG (OffL ft Y) T := by
  have y := offL_mono (ft := ft) (show Same (Off a X) (Off a Y) from k)
  rw [offL_off, offL_off] at y
  exact (off_sub a _).tab T (y.tab T (h.tab t))
abbrev NL13 : List Str := ["script", "store", "policy", "cores", "bench", "names", "lines", "facts", "past", "turn", "name", "level"]
section
variable {P : Program} {w : World} {K : PySem.W.Frag} {mg : Str → Option Value} {base : Heap} {CN CB : Addr}
def spLaw (K : PySem.W.Frag) (T : Addr) : Sp := fun vs H Q _ => ∃ (a : Addr) (ns : List Int), vs = [.ref a] ∧ SqL K H a (ns.map V.int) ∧ ns.length ≤ 63 ∧ TabG H T ∧ ∀ H', Q (.bl true) H'
theorem scLaw : FnScope NL13 ["script"] (defScope sLaw) := ⟨rfl, rfl, rfl, by decide +kernel, rfl, by decide +kernel, by decide +kernel⟩
theorem ok_law {f T : Addr} {fd : FuncData} (F : Fun K "law" "law" sLaw f fd) (B : Blt mg) (TN : BnC K CN) (ST : Cl P w K mg base CX0 1 "_law_store" ["script"] (spStore K)) (PK : Cl P w K mg base CX0 2 "_law_pick" ["store", "count"] spPick) (NM : Cl P w K mg base CX0 3 "_law_names" ["store", "count"] spNames)
    (RU : Cl P w K mg base CX0 3 "_law_rule" ["store"] (spRule K)) (SP : Cl P w K mg base CX0 5 "_law_step" ["store", "bench", "lines", "policy", "cores", "facts", "names"] (spStep K T CN CB)) (DU : Cl P w K mg base CX0 4 "_law_as_due" ["bench", "lines", "cores", "facts"] (spDueL K CN CB))
    (BN : BnNew P w K mg base CN CB) (UD : MCl P w K mg base CX0 1 CN "undo" ["self"] (spUndo K CN CB)) (CPY : Cl P w K mg base CX0 1 "_law_copy" ["lines", "facts", "names"] (spCopy K)) (WR : Cl P w K mg base CX0 6 "_law_wrong_right" ["store", "bench", "lines", "cores", "facts"] (spWrong K T CN CB))
    (C2 : Cl P w K mg base CX0 5 "_law_caught" ["bench", "way", "what"] (spCaught2 K CN CB)) (RR : Cl P w K mg base CX0 7 "_law_rule_right" ["store"] spRuleRight) : FnOk P w K mg base CX0 8 f fd ["script"] (spLaw K T) := by
  refine F.ok scLaw (fun vs H Q E h => ?_) (fun cdv A outer s0 H vs Q E hr h => ?_)
  · obtain ⟨a, ns, rfl, _⟩ := h
    rfl
  · obtain ⟨a, ns, rfl, ha, nl, tg, k⟩ := h
    obtain ⟨fI, fdI, MI, kI, ⟨dI, vI, bI⟩, FI⟩ := BN.ex
    obtain ⟨fU, fdU, MU, bU, FU⟩ := UD.ex
    have main : ∃ t, PSs (cxOf CX0 P w K mg base NL13 "law" (defScope sLaw) f cdv A outer s0 H E).nox (defBody sLaw) t ∧ t { nx := fun _ H' => Q .non H', rt := Q } (start NL13 [.ref a]) H := by
      refine ⟨_, pss_cons (ps_set (i := 1) scLaw.nd rfl (Or.inl rfl) (pc ST hr (by decide) (pa_cons (pv 0) pa_nil)))
        (pss_cons (ps_set (i := 2) scLaw.nd rfl (Or.inl rfl) (pc RU hr (by decide) (pa_cons (pv 1) pa_nil)))
        (pss_cons (ps_set (i := 3) scLaw.nd rfl (Or.inl rfl) (pe_ix ix_list (pe_lst (pa_cons pe_int (pa_cons (pe_op op_add pe_int (pc PK hr (by decide) (pa_cons (pv 1) (pa_cons pe_int pa_nil)))) pa_nil))) (pc PK hr (by decide) (pa_cons (pv 1) (pa_cons pe_int pa_nil))) (fun _ _ => rfl)))
        (pss_cons (ps_set (i := 4) scLaw.nd rfl (Or.inl rfl) (pe_makeK MI FI (hr.mono (by decide)) rfl BN.g kI pass0 (pa_cons (pv 2) pa_nil) (pk_cons (pv 3) pk_nil)))
        (pss_cons (ps_setLc (i := 5) (own := [("name", 10)]) (g := gName 10) (tt := tTest (tOp rNe (tVar 10) (tC (.str "zqzqzqzq")))) (te := tVar 10) rfl scLaw.nd rfl rfl (sw_true rfl rfl rfl (by decide +kernel)) (pi_list (pc NM hr (by decide) (pa_cons (pv 1) (pa_cons pe_int pa_nil)))) (blkOk_by (own := [("name", 10)]) (N := NL13) (sc := defScope sLaw) (by decide +kernel)) (fun _ _ _ _ _ => pg_name (i := 10) scLaw.nd rfl (Or.inl rfl)) (fun _ _ _ _ _ => pts_one (pt_cmpR op_ne (pv 10) pe_str (nomark _))) (fun _ _ _ _ _ => pv 10))
        (pss_cons (ps_setLc (i := 6) (own := [("level", 11)]) (g := gName 11) (tt := tYes) (te := tLst tNil) rfl scLaw.nd rfl rfl (sw_true rfl rfl rfl (by decide +kernel)) (pi_tup (pe_ix ix_tup (pv 2) pe_int (fun _ _ => rfl))) (blkOk_by (own := [("level", 11)]) (N := NL13) (sc := defScope sLaw) (by decide +kernel)) (fun _ _ _ _ _ => pg_name (i := 11) scLaw.nd rfl (Or.inl rfl)) (fun _ _ _ _ _ => pts_nil) (fun _ _ _ _ _ => pe_lst pa_nil))
        (pss_cons (ps_set (i := 7) scLaw.nd rfl (Or.inl rfl) (pe_lst (pa_cons pe_int (pa_cons (pe_lst pa_nil) (pa_cons (pe_lst pa_nil) pa_nil)))))
        (pss_cons (ps_set (i := 8) scLaw.nd rfl (Or.inl rfl) (pe_lst pa_nil))
        (pss_cons (ps_for PassesOwn.never rfl (pi_range1 rfl B.range (pa_cons (pe_ix ix_list (pe_lst (pa_cons (pe_op op_add pe_int (pc PK hr (by decide) (pa_cons (pv 1) (pa_cons pe_int pa_nil)))) (pa_cons pe_int pa_nil))) (pe_callTy call_int1 (by rfl) B.int (by decide +kernel) (pa_cons (pe_cmpR op_eq (pc PK hr (by decide) (pa_cons (pv 1) (pa_cons pe_int pa_nil))) pe_int (nomark _)) pa_nil)) (fun _ _ => rfl)) pa_nil)) (pg_name (i := 9) scLaw.nd rfl (Or.inl rfl))
          (pss_cons (ps_if (PW.pt (pw_and (pt_cmpR (op_neNilL (Nat.lt_of_succ_lt (hu_of hr))) (pv 8) (pe_lst pa_nil) (nomark _)) (pw_and1 (pt_cmpR op_eq (pc PK hr (by decide) (pa_cons (pv 1) (pa_cons pe_int pa_nil))) pe_int (nomark _)))))
              (pss_cons (ps_expr (pe_meth0 (pv 4) TN.cl MU FU (hr.mono (by decide)) bU .nil pass0)) (pss_one (ps_asg (pe_bm0 PySem.F.plainAttrs_list PySem.F.slot_list_pop PySem.F.type_list_pop mt_pop (pv 8)) (pg_unl rfl (pgs_cons (pg_name (i := 6) scLaw.nd rfl (.inl rfl)) (pgs_cons (pg_name (i := 7) scLaw.nd rfl (.inl rfl)) (pgs_cons (pg_name (i := 5) scLaw.nd rfl (.inl rfl)) pgs_nil)))))))
              (pss_cons (ps_expr (pe_bm PySem.F.plainAttrs_list PySem.F.slot_list_append PySem.F.type_list_append mt_append (pv 8) (pa_cons (pc CPY hr (by decide) (pa_cons (pv 6) (pa_cons (pv 7) (pa_cons (pv 5) pa_nil)))) pa_nil)))
              (pss_one (ps_if (pt_not (pt_val (pc SP hr (by decide) (pa_cons (pv 1) (pa_cons (pv 4) (pa_cons (pv 6) (pa_cons (pv 2) (pa_cons (pv 3) (pa_cons (pv 7) (pa_cons (pv 5) pa_nil)))))))))) (pss_one (ps_ret pe_bl)) pss_nil))))
          (pss_cons (ps_if (PW.pt (pw_and (pt_cmpR op_eq (pc PK hr (by decide) (pa_cons (pv 1) (pa_cons pe_int pa_nil))) pe_int (nomark _)) (pw_and1 (pt_not (pt_val (pc DU hr (by decide) (pa_cons (pv 4) (pa_cons (pv 6) (pa_cons (pv 3) (pa_cons (pv 7) pa_nil)))))))))) (pss_one (ps_ret pe_bl)) pss_nil)
          (pss_cons (ps_if (pt_not (pt_val (pc WR hr (by decide) (pa_cons (pv 1) (pa_cons (pv 4) (pa_cons (pv 6) (pa_cons (pv 3) (pa_cons (pv 7) pa_nil)))))))) (pss_one (ps_ret pe_bl)) pss_nil)
          (pss_one (ps_if (pt_not (pt_val (pc DU hr (by decide) (pa_cons (pv 4) (pa_cons (pv 6) (pa_cons (pv 3) (pa_cons (pv 7) pa_nil))))))) (pss_one (ps_ret pe_bl)) pss_nil))))))
        (pss_cons (ps_while PassesOwn.never (pt_cmpR (op_neNilL (Nat.lt_of_succ_lt (hu_of hr))) (pv 8) (pe_lst pa_nil) (nomark _))
          (pss_cons (ps_asg (pe_bm0 PySem.F.plainAttrs_list PySem.F.slot_list_pop PySem.F.type_list_pop mt_pop (pv 8)) (pg_unl rfl (pgs_cons (pg_name (i := 6) scLaw.nd rfl (.inl rfl)) (pgs_cons (pg_name (i := 7) scLaw.nd rfl (.inl rfl)) (pgs_cons (pg_name (i := 5) scLaw.nd rfl (.inl rfl)) pgs_nil)))))
          (pss_one (ps_if (PW.pt (pw_or (pt_cmpR op_notN (pe_meth0 (pv 4) TN.cl MU FU (hr.mono (by decide)) bU .nil pass0) pe_non (nomark _)) (pw_or1 (pt_not (pt_val (pc DU hr (by decide) (pa_cons (pv 4) (pa_cons (pv 6) (pa_cons (pv 3) (pa_cons (pv 7) pa_nil)))))))))) (pss_one (ps_ret pe_bl)) pss_nil))))
        (pss_cons (ps_if (PW.pt (pw_or (pt_cmpR (op_neD hr.units) (pc C2 hr (by decide) (pa_cons (pv 4) (pa_cons pe_int (pa_cons pe_str pa_nil)))) (pe_tup (pa_cons pe_str (pa_cons pe_int pa_nil))) (nomark _)) (pw_or1 (pt_not (pt_val (pc DU hr (by decide) (pa_cons (pv 4) (pa_cons (pv 6) (pa_cons (pv 3) (pa_cons (pv 7) pa_nil)))))))))) (pss_one (ps_ret pe_bl)) pss_nil)
        (pss_one (ps_ret (pc RR hr (by decide) (pa_cons (pv 1) pa_nil)))))))))))))), ?_⟩
      refine ⟨_, rfl, a, ns, rfl, ha, nl, fun st sc H1 s1 nst S1 => ?_⟩
      have tg1 := s1.tab T tg
      have tabK : ∀ {X Y : Hp} {n : Int}, Sto sc st n X → Kept st X Y → TabG X T → TabG Y T := fun {X Y n} SX kk t => (off_sub st Y).tab T ((show Same (Off st X) (Off st Y) from kk).tab T (SX.tab t))
      have stay : ∀ {X Y : Hp} {z : Addr} {o : HO}, Kept st X Y → z ≠ st → X z = some o → NoTbl o → Y z = some o := fun {X Y z o} kk zn e nt => by
        have y := (show Same (Off st X) (Off st Y) from kk).at_ z o (by rw [off_ne zn]; exact e) nt
        rw [off_ne zn] at y
        exact y
      -- the policy
      refine ⟨_, rfl, st, sc, 0, rfl, S1, by decide, fun rv lsd bd H2 S2 K2 dv l1 l6 lok bok => ?_⟩
      obtain ⟨r, er, rok⟩ := rule_of l1 l6 lok bok
      rw [er] at dv
      have tg2 := tabK S1 K2 tg1
      -- the cores
      refine ⟨_, rfl, st, sc, 8, 40, rfl, by decide, by decide, S2, by decide, fun rg H3 g0 g8 S3 K3 => ?_⟩
      refine ⟨_, _, rfl, rfl, by show 2 ≤ sizeLine; decide, fun q4 nq4 => ?_⟩
      have q4a := S3.ne nq4
      have q4s := same_new (o := .lst [V.int 1, .int (1 + rg)]) nq4
      have S3' := S3.same q4s
      have hq4 : upd H3 q4 (.lst [V.int 1, .int (1 + rg)]) q4 = some (.lst [V.int 1, .int (1 + rg)]) := upd_same
      have tg3 := q4s.tab T (tabK S2 K3 tg2)
      have dv3 := dp_same ((show Same (Off st H2) (Off st H3) from K3).trans (off_mono (a := st) q4s)) dv
      generalize upd H3 q4 (.lst [V.int 1, .int (1 + rg)]) = G3 at S3' hq4 tg3 dv3 ⊢
      refine ⟨_, rfl, st, sc, 2, 41, rfl, by decide, by decide, S3', by decide, fun rh H4 h0 h2 S4 K4 => ?_⟩
      obtain ⟨cc, hcc, cc1, cc8⟩ : ∃ c : Nat, atI [V.int 1, .int (1 + rg)] rh = some (V.int (c : Nat)) ∧ 1 ≤ c ∧ c ≤ 8 := by
        rcases (show rh = 0 ∨ rh = 1 by omega) with rfl | rfl
        · exact ⟨1, rfl, by decide, by decide⟩
        · refine ⟨(1 + rg).toNat, ?_, by omega, by omega⟩
          rw [Int.toNat_of_nonneg (by omega)]
          rfl
      refine ⟨q4, _, _, _, rfl, rfl, SqL.of (stay K4 q4a hq4 trivial), hcc, ?_⟩
      have tg4 := tabK S3' K4 tg3
      have dv4 := dp_same (show Same (Off st G3) (Off st H4) from K4) dv3
      -- the bench
      have made : ∀ {Y : Hp} {n dn : Addr}, Y n = none → Y dn = none → Same Y (Off n (upd (upd Y dn (.own n)) n (.ins CN dn []))) := fun {Y n dn} e1 e2 => by
        rw [off_upd]
        exact .of fun z o e => by
          rw [off_ne (fun y => by rw [y, e1] at e; cases e), upd_ne (fun y => by rw [y, e2] at e; cases e)]
          exact e
      refine ⟨_, rfl, _, rfl, rfl, rfl, fun n dn nn ndn ndd => ?_⟩
      have m4 := made nn ndn
      refine ⟨n, dn, rv, cc, r, rfl, upd_same, dp_same m4 (dp_same (off_sub st H4) dv4), rok, fun N G5 BN5 fr5 SN5 => ⟨rfl, ?_⟩⟩
      have X5 := m4.trans SN5
      have S5 := S4.same X5
      have tg5 := X5.tab T tg4
      -- the names
      obtain ⟨sout, sl, hsl⟩ := sto_out S5
      refine ⟨_, rfl, st, sc, 42, 12, rfl, S5.same (offL_sub _ G5), by decide, by decide, by decide, fun ln0 ws0 H6 nln0 lna S6 K6 hln0 wl wn wnd => ?_⟩
      have B6 := BN5.kept sout hsl noTup_lst K6
      have S6x := sto_off S5 S6
      have tg6 := tab_kept S5 K6 tg5
      refine ⟨ln0, rfl, ⟨_, SqL.of hln0⟩, fun ln nln => ?_⟩
      refine lc_it (walk_list (K := K) (a := ln0) (xs := ws0.map V.str)) (fun i Hc => Hc = upd H6 ln (.lst (((ws0.take i).filter fun x => decide (x ≠ zq)).map V.str))) rfl (fun i Hc _ e => by rw [e]; exact SqL.of ((same_new nln).at hln0)) ?_ ?_
      · rintro i y Hc0 Hc hi rfl ⟨rfl, hy⟩
        rw [List.getElem?_map] at hy
        obtain ⟨x, hx, rfl⟩ := Option.map_eq_some_iff.mp hy
        rw [List.length_map] at hi
        refine ⟨rfl, _, rfl, rfl, _, rfl, ?_⟩
        have tk : (ws0.take (i + 1)).filter (fun x => decide (x ≠ zq)) = (ws0.take i).filter (fun x => decide (x ≠ zq)) ++ (if x ≠ zq then [x] else []) := by
          rw [List.take_add_one, hx, List.filter_append]
          congr 1
          by_cases m : x ≠ zq <;> simp [m]
        by_cases h : x = zq
        · rw [show (!decide (V.str x = V.str "zqzqzqzq")) = false from by rw [h]; decide +kernel]
          refine iteF ?_
          rw [tk, if_neg (fun z => z h), List.append_nil]
        · rw [show (!decide (V.str x = V.str "zqzqzqzq")) = true from by rw [show decide (V.str x = V.str "zqzqzqzq") = false from decide_eq_false (fun z => h (V.str.inj z))]; rfl]
          refine iteT ⟨_, rfl, _, upd_same, ?_, ?_⟩
          · rw [List.length_map]
            have := List.length_filter_le (fun x => decide (x ≠ zq)) (ws0.take i)
            rw [List.length_take] at this
            exact Nat.lt_of_lt_of_le (show _ < 1000 by omega) (by decide)
          · rw [upd_upd, tk, if_pos h, List.map_append]
            rfl
      rintro Hc rfl
      rw [List.length_map, List.take_length]
      have snl := same_new (o := .lst ((ws0.filter fun x => decide (x ≠ zq)).map V.str)) nln
      have hln6 : OffL (ftN n N) (upd H6 ln (.lst ((ws0.filter fun x => decide (x ≠ zq)).map V.str))) ln = some (.lst ((ws0.filter fun x => decide (x ≠ zq)).map V.str)) := by
        rw [offL_out (B6.nin nln)]
        exact upd_same
      have B6 := B6.same snl
      have S6x := S6x.same (offL_mono (ft := ftN n N) snl)
      have tg6 := (offL_mono (ft := ftN n N) snl).tab T tg6
      have wl : (ws0.filter fun x => decide (x ≠ zq)).length ≤ 12 := by
        have := List.length_filter_le (fun x => decide (x ≠ zq)) ws0
        omega
      have wn : ∀ s, s ∈ (ws0.filter fun x => decide (x ≠ zq)) → nameD (.str s) = true := fun s hs => wn s (List.mem_filter.mp hs).1
      have wnd : (ws0.filter fun x => decide (x ≠ zq)).Nodup := (List.filter_sublist).nodup wnd
      have wz : zq ∉ ws0.filter fun x => decide (x ≠ zq) := fun h => by
        have := (List.mem_filter.mp h).2
        simp at this
      generalize (ws0.filter fun x => decide (x ≠ zq)) = ws at hln6 wl wn wnd wz snl B6 S6x tg6 ⊢
      generalize upd H6 ln (.lst (ws.map V.str)) = G6 at hln6 snl B6 S6x tg6 ⊢
      -- the lines
      obtain ⟨pp, x0, y0, rfl, qp, dx0, dy0⟩ := dp_two B6.rule
      obtain ⟨pl, xs, rfl, ql, rl⟩ := dp_tuple dx0
      have lxs := dps_len rl
      rw [List.length_map] at lxs
      have sub6 := offL_sub (ftN n N) G6
      refine ⟨_, rfl, pp, _, _, _, rfl, rfl, same_seqT sub6 qp, rfl, pl, rfl, ⟨_, same_seqT sub6 ql⟩, fun D7 nD7 => ?_⟩
      refine lc_it (walk_tup (K := K) (a := pl) (xs := xs)) (fun i Hc => Fresh G6 D7 i Hc) (Fresh.zero nD7) (fun i Hc _ ⟨_, _, _, _, _, sc⟩ => same_seqT (sub6.trans (sc.trans (off_sub D7 Hc))) ql) ?_ ?_
      · rintro i y Hc0 Hc hi fr ⟨rfl, hy⟩
        refine ⟨rfl, Nat.zero_le _, fun L nL => ?_⟩
        obtain ⟨acc, a1, a2, a3⟩ := fr.next nD7 nL
        refine ⟨acc, a1, ?_, a3⟩
        rw [a2]
        have := rok.len6
        exact Nat.lt_of_lt_of_le (show i < 1000 by omega) (by decide)
      rintro H7 ⟨tl, c1, c2, c3, c4, c5⟩
      have s7 := c5.trans (off_sub D7 H7)
      dsimp only [gName]
      have B7 := B6.same s7
      have S7x := S6x.same (offL_mono (ft := ftN n N) s7)
      have tg7 := (offL_mono (ft := ftN n N) s7).tab T tg6
      have hln7 := (offL_mono (ft := ftN n N) s7).at hln6
      have free6 : ∀ {z : Addr}, H7 z = none → z ∉ ftN n N := fun {z} e => B7.nin e
      have new6 : ∀ {z : Addr}, G6 z = none → z ∉ ftN n N := fun {z} e => B6.nin e
      -- the facts
      refine ⟨Nat.zero_le _, fun el nel => ?_⟩
      have sA := same_new (o := .lst ([] : List V)) nel
      refine ⟨Nat.zero_le _, fun pl2 npl => ?_⟩
      have sB := same_new (o := .lst ([] : List V)) npl
      refine ⟨by show 3 ≤ sizeLine; decide, fun fc nfc => ?_⟩
      have sC := same_new (o := .lst [V.int 0, .ref el, .ref pl2]) nfc
      have sAC := sA.trans (sB.trans sC)
      have XAC := offL_mono (ft := ftN n N) sAC
      have ne0 : ln ≠ el := fun e => by
        rw [e] at hln7
        have y := (offL_some hln7).2
        rw [nel] at y
        cases y
      have np0 : ln ≠ pl2 := fun e => by
        rw [e] at hln7
        have y := (offL_some hln7).2
        rw [sA.free npl] at y
        cases y
      have W8 : Wl CN CB K T n st sc D7 fc ln (.ref pp) cc r [] (42 + 800) (upd (upd (upd H7 el (.lst [])) pl2 (.lst [])) fc (.lst [V.int 0, .ref el, .ref pl2])) N (Bd.new r) [] (tl.map fun l => (l, ([] : List (Addr × Jb)))) el pl2 0 [] [] ws := by
        have B8 := B7.same sAC
        have ejl : jl (tl.map fun l => (l, ([] : List (Addr × Jb)))) = [] := by
          unfold jl
          refine List.flatMap_eq_nil_iff.mpr fun p hp => ?_
          obtain ⟨l, _, rfl⟩ := List.mem_map.mp hp
          rfl
        have l1' := rok.len1
        have elA : OffL (ftN n N) (upd (upd (upd H7 el (.lst [])) pl2 (.lst [])) fc (.lst [V.int 0, .ref el, .ref pl2])) el = some (.lst []) := by
          rw [offL_out (B7.nin nel)]
          exact (sB.trans sC).at upd_same
        have plA : OffL (ftN n N) (upd (upd (upd H7 el (.lst [])) pl2 (.lst [])) fc (.lst [V.int 0, .ref el, .ref pl2])) pl2 = some (.lst []) := by
          rw [offL_out ((B7.same sA).nin npl)]
          exact sC.at upd_same
        refine ⟨B8, (fun z hz => by cases hz), (fun z hz => by cases hz), ⟨?_, fun p hp => ?_, fun a ha => ?_, ?_⟩, ?_, ?_, XAC.at hln7, ⟨[], plA, .nil⟩, (fun e he => by cases he), ⟨[], elA, .nil⟩, B8.rule, (S7x.same XAC).more (by omega), XAC.tab T tg7, ?_, ?_⟩
        · show OffL (ftN n N) _ D7 = _
          rw [offL_out (new6 nD7), sAC.at c2]
          unfold tops
          rw [List.map_map]
          rfl
        · obtain ⟨l, hl, rfl⟩ := List.mem_map.mp hp
          obtain ⟨d1, d2, _⟩ := c3 l hl
          show OffL (ftN n N) _ l = _
          rw [offL_out (new6 d2), sAC.at d1]
          rfl
        · rw [ejl] at ha
          cases ha
        · unfold jas
          rw [ejl]
          exact List.nodup_nil
        · rw [List.length_map, c1, lxs]
          exact l1'
        · show OffL (ftN n N) _ fc = _
          rw [offL_out (((B7.same sA).same sB).nin nfc)]
          exact upd_same
        · intro e
          rw [← e, c2] at nel
          cases nel
        · intro e
          rw [← e, sA.at c2] at npl
          cases npl
      generalize upd (upd (upd H7 el (.lst [])) pl2 (.lst [])) fc (.lst [V.int 0, .ref el, .ref pl2]) = G8 at W8 ⊢
      have P8 : P12 0 r (Bd.new r) [] (tl.map fun l => (l, ([] : List (Addr × Jb)))) ws := by
        refine ⟨rok, ?_, Bd.UQ.new, wnd, (fun w hw => ⟨wn w hw, fun m => by cases m⟩), ?_, (fun x hx => by cases hx), Nat.le_refl _, Nat.le_refl _⟩
        · have e : jbs (tl.map fun l => (l, ([] : List (Addr × Jb)))) = List.replicate r.levels.length [] := by
            unfold jbs
            rw [List.map_map]
            have q : tl.length = r.levels.length := by rw [c1, lxs]
            rw [← q]
            exact List.map_const' ..
          rw [e]
          exact RelL.new
        · show 0 + ws.length ≤ 12
          omega
      refine ⟨Nat.zero_le _, fun pa npa => ?_⟩
      have spa := same_new (o := .lst ([] : List V)) npa
      have hpa : upd G8 pa (.lst ([] : List V)) pa = some (.lst []) := upd_same
      have W9 := W8.other (F' := [pa]) (G' := upd G8 pa (.lst ([] : List V))) (offL_mono spa) ((W8.sto.same (offL_sub _ _)).same spa) (fun z hz => .inr (by rw [List.mem_singleton.mp hz]; exact npa)) (fun z hz => by rw [List.mem_singleton.mp hz]; exact ⟨_, hpa, noTup_lst, trivial⟩)
      generalize upd G8 pa (.lst ([] : List V)) = G9 at hpa W9 ⊢
      -- how many turns
      refine ⟨_, rfl, st, sc, 26, _, rfl, by decide, by decide, W9.sto.same (offL_sub _ _), by omega, fun r1 HA r10 r126 SA KA => ?_⟩
      have W10 := W9.draw SA KA
      refine ⟨_, _, rfl, rfl, by show 2 ≤ sizeLine; decide, fun q5 nq5 => ?_⟩
      have s5' := same_new (o := .lst [V.int (5 + r1), .int 250]) nq5
      have q5st := SA.ne nq5
      have W11 := W10.same s5'
      refine ⟨_, rfl, st, sc, 8, _, rfl, by decide, by decide, SA.same s5', by omega, fun r2 HB r20 r28 SB KB => ?_⟩
      have W12 := W11.draw SB KB
      have hq5 : HB q5 = some (.lst [V.int (5 + r1), .int 250]) := by
        have y := (show Same (Off st _) (Off st HB) from KB).at (b := q5) (by rw [off_ne q5st]; exact upd_same)
        rw [off_ne q5st] at y
        exact y
      obtain ⟨cnt, hcnt, cnt0, cnt250⟩ : ∃ cnt : Int, atI [V.int (5 + r1), .int 250] (if decide (V.int r2 = V.int 0) = true then (1 : Int) else 0) = some (.int cnt) ∧ 0 ≤ cnt ∧ cnt ≤ 250 := by
        by_cases h : decide (V.int r2 = V.int 0) = true
        · exact ⟨250, by rw [if_pos h]; rfl, by decide, by decide⟩
        · exact ⟨5 + r1, by rw [if_neg h]; rfl, by omega, by omega⟩
      refine ⟨rfl, .inr ⟨_, rfl, q5, _, _, _, rfl, rfl, SqL.of hq5, hcnt, _, rfl, by omega, by omega, ?_⟩⟩
      have zq0 : zq ∉ (Bd.new r).ran.map (·.1) := fun h => by cases h
      have past : pa ≠ st := fun e => W9.stN.2 (by rw [← e]; exact List.mem_singleton_self _)
      have hpaB : HB pa = some (.lst []) := stay KB past (s5'.at (stay KA past hpa trivial)) trivial
      refine for_it (D := { nx := _, rt := _ }) (walk_range (lo := 0) (n := cnt.toNat)) (fun i σ G => ∃ (ls fc ln el pl : Addr) (N : BnA) (s : Bd) (es : List Sw) (L : Lv) (ws : List Str) (u9 : Option V),
          σ = [some (.ref a), some (.ref st), some (.ref pp), some (.int cc), some (.ref n), some (.ref ln), some (.ref ls), some (.ref fc), some (.ref pa), u9, none, none] ∧ Iv CN CB K T n st sc pa (.ref pp) cc r (2000 + 100 * (i : Nat)) G ls fc ln el pl N s es L ws ∧ es.length ≤ i)
        ⟨D7, fc, ln, el, pl2, N, Bd.new r, [], _, ws, none, rfl, ⟨W12.more (by omega), P8, .nil, hpaB, zq0, wz, (fun e he => by cases he), ne0, np0⟩, Nat.le_refl _⟩ (fun i σ G _ _ => trivial) ?_ ?_
      · rintro i y σ G0 G hi ⟨ls, fc, ln, el, pl, N, s, es, L, ws, u9, rfl, I, el_i⟩ ⟨rfl, rfl⟩
        have i250 : i < 250 := by omega
        apply cutR (α := L2.St → Hp → Prop) (F := fun R => ∀ (ls fc ln el pl : Addr) (N : BnA) (s : Bd) (es : List Sw) (L : Lv) (ws : List Str) (G1 : Hp), Iv CN CB K T n st sc pa (.ref pp) cc r (2000 + 100 * (i : Nat) + 50) G1 ls fc ln el pl N s es L ws → es.length ≤ i + 1 →
          R [some (.ref a), some (.ref st), some (.ref pp), some (.int cc), some (.ref n), some (.ref ln), some (.ref ls), some (.ref fc), some (.ref pa), some (.int (0 + (i : Int))), none, none] G1)
        · intro cont
          refine ⟨_, rfl, Nat.zero_le _, fun q1 nq1 => ?_⟩
          have sq1 := same_new (o := .lst ([] : List V)) nq1
          have I1 := I.same sq1
          refine ⟨pa, q1, _, rfl, rfl, SqL.of I1.hp, SqL.of upd_same, ?_⟩
          generalize upd G q1 (.lst ([] : List V)) = G1 at I1 ⊢
          refine ⟨_, rfl, ?_⟩
          apply cutR (α := Hp → Prop) (F := fun R => ∀ (G2 : Hp), Iv CN CB K T n st sc pa (.ref pp) cc r (2000 + 100 * (i : Nat) + 1) G2 ls fc ln el pl N s es L ws → R G2)
          · intro other
            by_cases hw : es = []
            · have he : ((es.map fun e => V.ref e.p).reverse).isEmpty = true := by rw [hw]; rfl
              rw [he]
              refine iteF ?_
              refine iteF ?_
              exact other G1 (I1.more (by omega))
            · have he : ((es.map fun e => V.ref e.p).reverse).isEmpty = false := by
                cases es with
                | nil => exact absurd rfl hw
                | cons _ _ => simp
              rw [he]
              refine iteT ?_
              refine ⟨_, rfl, st, sc, 4, _, rfl, by decide, by decide, I1.sto, by omega, fun rp G2 rp0 rp4 S2 K2 => ?_⟩
              have I2 := I1.draw S2 K2
              refine ⟨rfl, _, rfl, ite2 (fun hc => ?_) (fun hc => ?_)⟩
              rotate_left
              · exact other G2 I2
              · obtain ⟨e, es', rfl⟩ : ∃ e es', es = e :: es' := by
                  cases es with
                  | nil => exact absurd rfl hw
                  | cons e l => exact ⟨e, l, rfl⟩
                obtain ⟨b1, b2, b3, b4, b5, b6, b7, b8, b9, b10⟩ := I2.last
                refine ⟨_, rfl, n, N.dn, _, rfl, I2.W.bn.ob, by kernel_rfl, n, .ref pp, cc, N, s, e.s, r, e.t, e.At, List.map (fun x : Sw => x.t) es', rfl, I2.W.bn, b1, b2, b3, b4, b5, fun G3 B3 k3 => ?_⟩
                have paN : pa ∉ ftN n N := I2.W.sep pa (List.mem_singleton_self _)
                simp only [ftN, List.mem_cons, not_or] at paN
                have hp3 : G3 pa = some (.lst ((e :: es').map fun e => V.ref e.p).reverse) := by
                  have o : pa ∉ [n, N.p] := by simp [paN.1, paN.2.1]
                  have y := k3.at_ pa (.lst ((e :: es').map fun e => V.ref e.p).reverse) (by rw [offL_out o]; exact I2.hp) trivial
                  rw [offL_out o] at y
                  exact y
                have cp3 : G3 e.p = some (.lst [.ref e.ls, .ref e.fc, .ref e.ln]) := by
                  have o : e.p ∉ [n, N.p] := by simp [b8, b9]
                  have y := k3.at_ e.p (.lst [.ref e.ls, .ref e.fc, .ref e.ln]) (by rw [offL_out o]; exact b10) trivial
                  rw [offL_out o] at y
                  exact y
                rw [List.map_cons, List.reverse_cons] at hp3
                refine ⟨_, rfl, .inl ⟨rfl, _, SqL.of hp3⟩, pa, _, .ref e.p, rfl, rfl, hp3, by simp, ?_⟩
                rw [List.dropLast_concat]
                have B4 : BnAt CN CB K (upd G3 pa (.lst (es'.map fun e => V.ref e.p).reverse)) n (.ref pp) cc ⟨N.dn, e.t, N.p, e.At⟩ e.s r (es'.map (·.t)) := B3.keptL (as := [pa]) (fun z hz w => by
                  rw [List.mem_singleton.mp hz] at w
                  simp only [ftN, List.mem_cons] at w
                  rcases w with w | w | w
                  · exact paN.1 w
                  · exact paN.2.1 w
                  · exact b6 w) (fun z hz o q => by
                  rw [List.mem_singleton.mp hz, hp3] at q
                  cases q
                  exact noTup_lst) (by rw [offL_upd (List.mem_singleton_self _)]; exact Same.refl _)
                have k4 : Same (OffL [pa, n, N.p] G2) (OffL [pa, n, N.p] (upd G3 pa (.lst (es'.map fun e => V.ref e.p).reverse))) := by
                  rw [offL_upd (by simp)]
                  exact k3.widen fun z hz => List.mem_cons_of_mem _ hz
                have I4 := I2.back B4 k4 upd_same
                have cp4 : upd G3 pa (.lst (es'.map fun e => V.ref e.p).reverse) e.p = some (.lst [.ref e.ls, .ref e.fc, .ref e.ln]) := by rw [upd_ne b7]; exact cp3
                generalize upd G3 pa (.lst (es'.map fun e => V.ref e.p).reverse) = G4 at I4 cp4 ⊢
                refine ⟨e.p, _, rfl, SqL.of cp4, rfl, _, _, rfl, _, _, rfl, _, _, rfl, rfl, ?_⟩
                exact cont _ _ _ _ _ _ _ _ _ _ _ (I4.more (by omega)) (by have := el_i; simp at this; omega)
          intro G2 I2
          have es250 : es.length ≤ 250 := by omega
          refine ⟨_, rfl, .inl ⟨rfl, _, SqL.of I2.hp⟩, ?_⟩
          have sub2 := offL_sub ([pa] ++ ftN n N) G2
          have ok2 := I2.W.bn.ok
          obtain ⟨q1', q6⟩ := I2.P.llen ok2
          have qj := I2.P.jlen ok2
          refine ⟨_, rfl, _, rfl, _, rfl, ls, fc, ln, L, _, _, rfl, I2.W.lines.same sub2, by omega, (fun p hp => Nat.le_trans (line_le hp) (by omega)), sub2.at I2.W.facts, sub2.at I2.W.names, fun p A f q L' G3 cp3 hL3 eJ hf3 hq3 nw _ _ _ _ _ _ k3 => ?_⟩
          have C4 := I2.cpd cp3 hL3 hf3 hq3 nw k3
          refine ⟨pa, _, _, rfl, rfl, k3.at I2.hp, ?_, ?_⟩
          · rw [List.length_reverse, List.length_map]
            exact Nat.lt_of_le_of_lt es250 (by decide)
          generalize upd G3 pa (.lst ((es.map fun e => V.ref e.p).reverse ++ [.ref p])) = G4 at C4 ⊢
          refine ⟨_, rfl, _, rfl, _, rfl, _, rfl, _, rfl, _, rfl, _, rfl, st, n, ls, fc, ln, sc, .ref pp, cc, r, [pa], _, N, s, es.map (·.t), L, el, pl, ws, es.length, rfl, cc1, cc8, by omega, by omega, C4.W, I2.P, fun N3 s3 t0 At L3 el3 pl3 ws3 G5 W5 P5 k5 jf nf bd bf d1 d2 nm => ?_⟩
          have I5 := I2.push C4 eJ W5 P5 k5 jf nf bd bf d1 d2 nm
          refine ⟨_, rfl, iteF ?_⟩
          exact cont _ _ _ _ _ _ _ _ _ _ _ (I5.more (by omega)) (by show es.length + 1 ≤ i + 1; omega)
        intro ls fc ln el pl N s es L ws G1 I el_i
        refine ⟨_, rfl, st, sc, 2, _, rfl, by decide, by decide, I.sto, by omega, fun rp G2 rp0 rp2 S2 K2 => ?_⟩
        have I2 := I.draw S2 K2
        refine ⟨rfl, _, rfl, ?_⟩
        apply cutR (α := Hp → Prop) (F := fun R => ∀ (G2 : Hp), Iv CN CB K T n st sc pa (.ref pp) cc r (2000 + 100 * (i : Nat) + 51) G2 ls fc ln el pl N s es L ws → R G2)
        · intro other
          refine ite2 (fun hc => ?_) (fun hc => ?_)
          rotate_left
          · exact iteF (other G2 I2)
          · obtain ⟨pr, d1, d2, d3, d4, d5, d6, d7, d8, d9, d10⟩ := I2.due
            refine ⟨_, rfl, _, rfl, _, rfl, _, rfl, n, .ref pp, cc, N, s, r, _, ls, fc, el, pl, L, pr, rfl, d1, d2, d3, d4, d5, d6, d7, d8, d9, d10, fun H7 s7 => ?_⟩
            refine ⟨_, rfl, iteF ?_⟩
            exact other _ (I2.same s7)
        intro G3 I3
        refine ⟨_, rfl, _, rfl, _, rfl, _, rfl, _, rfl, st, n, ls, fc, ln, sc, .ref pp, cc, r, [pa], _, N, s, _, L, el, pl, ws, es.length, rfl, cc8, by omega, by omega, I3.W, I3.P, I3.z1, fun G4 S4 K4 => ?_⟩
        have I4 := I3.draw S4 K4
        refine ⟨_, rfl, iteF ?_⟩
        obtain ⟨pr, d1, d2, d3, d4, d5, d6, d7, d8, d9, d10⟩ := I4.due
        refine ⟨_, rfl, _, rfl, _, rfl, _, rfl, n, .ref pp, cc, N, s, r, _, ls, fc, el, pl, L, pr, rfl, d1, d2, d3, d4, d5, d6, d7, d8, d9, d10, fun H7 s7 => ?_⟩
        refine ⟨_, rfl, iteF ?_⟩
        exact ⟨ls, fc, ln, el, pl, N, s, es, L, ws, _, rfl, (I4.same s7).more (by omega), el_i⟩
      · rintro σ G ⟨ls, fc, ln, el, pl, N, s, es, L, ws, u9, rfl, I, el_i⟩
        refine ⟨fun k σ G => ∃ (ls fc ln el pl : Addr) (N : BnA) (s : Bd) (es : List Sw) (L : Lv) (ws : List Str),
          σ = [some (.ref a), some (.ref st), some (.ref pp), some (.int cc), some (.ref n), some (.ref ln), some (.ref ls), some (.ref fc), some (.ref pa), u9, none, none] ∧ Iv CN CB K T n st sc pa (.ref pp) cc r (2000 + 100 * (cnt.toNat : Nat)) G ls fc ln el pl N s es L ws ∧ es.length = k,
          ⟨_, ls, fc, ln, el, pl, N, s, es, L, ws, rfl, I, rfl⟩, ?_⟩
        rintro k σ G ⟨ls, fc, ln, el, pl, N, s, es, L, ws, rfl, I, rfl⟩
        refine ⟨_, rfl, Nat.zero_le _, fun q1 nq1 => ?_⟩
        have sq1 := same_new (o := .lst ([] : List V)) nq1
        have I1 := I.same sq1
        refine ⟨pa, q1, _, rfl, rfl, SqL.of I1.hp, SqL.of upd_same, ?_⟩
        generalize upd G q1 (.lst ([] : List V)) = G1 at I1 ⊢
        refine ⟨_, rfl, ?_⟩
        cases es with
        | cons e es' =>
          have he : (((e :: es').map fun e => V.ref e.p).reverse).isEmpty = false := by simp
          rw [he]
          refine iteT ?_
          obtain ⟨b1, b2, b3, b4, b5, b6, b7, b8, b9, b10⟩ := I1.last
          have paN : pa ∉ ftN n N := I1.W.sep pa (List.mem_singleton_self _)
          simp only [ftN, List.mem_cons, not_or] at paN
          have hp3 := I1.hp
          rw [List.map_cons, List.reverse_cons] at hp3
          refine ⟨fun σ G => ∃ (ls fc ln el pl : Addr) (N : BnA) (s : Bd) (es : List Sw) (L : Lv) (ws : List Str),
            σ = [some (.ref a), some (.ref st), some (.ref pp), some (.int cc), some (.ref n), some (.ref ln), some (.ref ls), some (.ref fc), some (.ref pa), u9, none, none] ∧ Iv CN CB K T n st sc pa (.ref pp) cc r (2000 + 100 * (cnt.toNat : Nat)) G ls fc ln el pl N s es L ws ∧ es.length < (e :: es').length, ?_, ?_⟩
          · rintro σ G ⟨ls, fc, ln, el, pl, N, s, es, L, ws, rfl, I, h⟩
            exact ⟨_, h, ls, fc, ln, el, pl, N, s, es, L, ws, rfl, I, rfl⟩
          refine ⟨_, rfl, .inl ⟨rfl, _, SqL.of hp3⟩, pa, _, .ref e.p, rfl, rfl, hp3, by simp, ?_⟩
          rw [List.dropLast_concat]
          have kx : ∀ {C : List Addr}, pa ∈ C → Same (OffL C G1) (OffL C (upd G1 pa (.lst (es'.map fun e => V.ref e.p).reverse))) := fun {C} h => by
            rw [offL_upd h]
            exact Same.refl _
          have nt1 : ∀ z ∈ [pa], ∀ o, G1 z = some o → NoTup o := fun z hz o q => by
            rw [List.mem_singleton.mp hz, hp3] at q
            cases q
            exact noTup_lst
          have Bn2 := I1.W.bn.keptL (as := [pa]) (fun z hz w => by
            rw [List.mem_singleton.mp hz] at w
            simp only [ftN, List.mem_cons] at w
            rcases w with w | w | w
            · exact paN.1 w
            · exact paN.2.1 w
            · exact paN.2.2 w) nt1 (kx (List.mem_singleton_self _))
          have Bt2 := b1.keptL (as := [pa]) (fun z hz w => by
            rw [List.mem_singleton.mp hz] at w
            exact b6 w) nt1 (kx (List.mem_singleton_self _))
          have cp2 : upd G1 pa (.lst (es'.map fun e => V.ref e.p).reverse) e.p = some (.lst [.ref e.ls, .ref e.fc, .ref e.ln]) := by rw [upd_ne b7]; exact b10
          have kk : ∀ {X : Hp}, Same (OffL [n, N.p] (upd G1 pa (.lst (es'.map fun e => V.ref e.p).reverse))) (OffL [n, N.p] X) → Same (OffL [pa, n, N.p] G1) (OffL [pa, n, N.p] X) := fun {X} k => by
            refine Same.trans ?_ (k.widen fun z hz => List.mem_cons_of_mem _ hz)
            exact kx (List.mem_cons_self ..)
          have hp2 : upd G1 pa (.lst (es'.map fun e => V.ref e.p).reverse) pa = some (.lst (es'.map fun e => V.ref e.p).reverse) := upd_same
          generalize upd G1 pa (.lst (es'.map fun e => V.ref e.p).reverse) = G2 at Bn2 Bt2 cp2 kk hp2 ⊢
          refine ⟨e.p, _, rfl, SqL.of cp2, rfl, _, _, rfl, _, _, rfl, _, _, rfl, rfl, ?_⟩
          refine ⟨_, rfl, n, N.dn, _, rfl, Bn2.ob, by kernel_rfl, n, .ref pp, cc, N, s, e.s, r, e.t, e.At, List.map (fun x : Sw => x.t) es', rfl, Bn2, Bt2, b2, b3, b4, b5, fun G3 B3 k3 => ?_⟩
          have hp4 : G3 pa = some (.lst (es'.map fun e => V.ref e.p).reverse) := by
            have o : pa ∉ [n, N.p] := by simp [paN.1, paN.2.1]
            have y := k3.at_ pa (.lst (es'.map fun e => V.ref e.p).reverse) (by rw [offL_out o]; exact hp2) trivial
            rw [offL_out o] at y
            exact y
          have I4 := I1.back B3 (kk k3) hp4
          refine ⟨rfl, _, rfl, iteF ?_⟩
          obtain ⟨pr, d1, d2, d3, d4, d5, d6, d7, d8, d9, d10⟩ := I4.due
          refine ⟨_, rfl, _, rfl, _, rfl, _, rfl, n, .ref pp, cc, _, _, r, _, _, _, _, _, _, pr, rfl, d1, d2, d3, d4, d5, d6, d7, d8, d9, d10, fun H7 s7 => ?_⟩
          refine ⟨_, rfl, iteF ?_⟩
          exact ⟨_, _, _, _, _, _, _, es', _, _, rfl, I4.same s7, Nat.lt_succ_self _⟩
        | nil =>
          have he : (([].map fun e : Sw => V.ref e.p).reverse).isEmpty = true := rfl
          rw [he]
          refine iteF ?_
          refine ⟨_, rfl, n, .ref pp, cc, N, s, r, .str "", rfl, I1.W.bn, fun t H2 s2 ht => ?_⟩
          have I2 := I1.same s2
          refine ⟨by show 2 ≤ sizeLine; decide, fun u nu => ?_⟩
          have su := same_new (o := .tup [V.str "undo", .int 0]) nu
          have sh : SeqAt.shaped (.tuple [.str ("undo" : Str), .int 0]) = true := by decide +kernel
          have eq : PyData.eqv (.tuple [.str ("undo" : Str), .int 0]) (.tuple [.str ("undo" : Str), .int 0]) = true := SeqAt.eqv_refl _ (SeqAt.canLay_of_shaped sh)
          refine ⟨_, _, .tup (SqT.of (su.at ht)) (.cons (.str _) (.cons (.int _) .nil)), .tup (SqT.of upd_same) (.cons (.str _) (.cons (.int _) .nil)), sh, sh, ?_⟩
          rw [eq]
          refine ⟨_, rfl, iteF ?_⟩
          have I3 := I2.same su
          obtain ⟨pr, d1, d2, d3, d4, d5, d6, d7, d8, d9, d10⟩ := I3.due
          refine ⟨_, rfl, _, rfl, _, rfl, _, rfl, n, .ref pp, cc, _, _, r, _, _, _, _, _, _, pr, rfl, d1, d2, d3, d4, d5, d6, d7, d8, d9, d10, fun H7 s7 => ?_⟩
          refine ⟨_, rfl, iteF ?_⟩
          exact ⟨_, rfl, st, sc, _, rfl, (I3.same s7).sto, by omega, k⟩
    exact main
end
end Vk
set_option maxHeartbeats 0
namespace Vk
open PySem PySem.Spec PyProof.Rows L2
def nmV0 : List PySem.Str := ["_wall", "Board", "SlotError", "NoJobs", "NoRule", "NoLengths", "NoLog", "NoMarks", "NoNamed", "NoOrder", "NoText", "NoNumber", "NoName", "NoUndo", "NoLine", "is_integer", "is_tuple_of", "MOST_LEVELS", "check_rule", "is_level", "is_count", "Bench", "_law_mix", "_law_store", "_law_pick", "_law_names", "_law_some", "_law_rule", "_law_enter", "_law_order"]
def nmV1 : List PySem.Str := ["_law_end", "_law_state", "_law_as_due", "_law_step", "_law_kind", "_law_caught", "_law_bad_names", "_law_bad_finish", "_law_wrong_right", "_law_copy", "_law_rule_right"]
def nmV : List PySem.Str := nmV0 ++ nmV1
def fsV0 : List (PySem.W.Frag → Bool) := [bD "is_integer",
  bD "is_tuple_of",
  bD "check_rule",
  bD "is_level",
  bD "is_count",
  bD "_law_mix",
  bD "_law_store",
  bD "_law_pick",
  bD "_law_names",
  bD "_law_some",
  bD "_law_rule",
  bD "_law_enter",
  bD "_law_order",
  bD "_law_end",
  bD "_law_state",
  bD "_law_as_due",
  bD "_law_step",
  bD "_law_kind",
  bD "_law_caught",
  bD "_law_bad_names",
  bD "_law_bad_finish",
  bD "_law_wrong_right",
  bD "_law_copy",
  bD "_law_rule_right",
  bD "law",
  fun K => decide ((PySem.W.nsIn K mainGlobals "len" = some none) ∧ (PySem.W.nsIn K mainGlobals "isinstance" = some none) ∧ (PySem.W.nsIn K mainGlobals "int" = some none) ∧ (PySem.W.nsIn K mainGlobals "bool" = some none) ∧ (PySem.W.nsIn K mainGlobals "tuple" = some none) ∧ (PySem.W.nsIn K mainGlobals "str" = some none) ∧ (PySem.W.nsIn K mainGlobals "range" = some none) ∧ (PySem.W.nsIn K mainGlobals "enumerate" = some none) ∧ (PySem.W.nsIn K mainGlobals "list" = some none) ∧ (PySem.W.nsIn K mainGlobals "all" = some none) ∧ (PySem.W.nsIn K mainGlobals "min" = some none) ∧ (PySem.W.nsIn K mainGlobals "dict" = some none) ∧ (PySem.W.nsIn K mainGlobals "SlotError" = some (some (.ref (He.ga K "SlotError")))) ∧ (PySem.W.isClsIn K (He.ga K "SlotError") = true) ∧ (PySem.W.hasDictIn K (He.ga K "SlotError") = true) ∧ (PySem.W.typeIn K (.ref (He.ga K "SlotError")) = some (.type "type")) ∧ (PySem.W.subIn K (.ref (He.ga K "SlotError")) (.type "BaseException") = some true) ∧ (PySem.W.specialIn K (.builtin "object.__class__") "__get__" = some (some (.builtin "getset_descriptor.__get__"))) ∧ (PySem.W.takesIn K (.builtin "object.__class__") = some true) ∧ (PySem.W.nsIn K mainGlobals "ValueError" = some none)),
  fun K => decide ((PySem.W.nsIn K mainGlobals "NoJobs" = some (some (.ref (He.ga K "NoJobs")))) ∧ (PySem.W.isClsIn K (He.ga K "NoJobs") = true) ∧ (PySem.W.typeIn K (.ref (He.ga K "NoJobs")) = some (.type "type")) ∧ (PySem.W.nsIn K mainGlobals "NoRule" = some (some (.ref (He.ga K "NoRule")))) ∧ (PySem.W.isClsIn K (He.ga K "NoRule") = true) ∧ (PySem.W.typeIn K (.ref (He.ga K "NoRule")) = some (.type "type")) ∧ (PySem.W.nsIn K mainGlobals "NoLengths" = some (some (.ref (He.ga K "NoLengths")))) ∧ (PySem.W.isClsIn K (He.ga K "NoLengths") = true) ∧ (PySem.W.typeIn K (.ref (He.ga K "NoLengths")) = some (.type "type")) ∧ (PySem.W.nsIn K mainGlobals "NoLog" = some (some (.ref (He.ga K "NoLog")))) ∧ (PySem.W.isClsIn K (He.ga K "NoLog") = true) ∧ (PySem.W.typeIn K (.ref (He.ga K "NoLog")) = some (.type "type")) ∧ (PySem.W.nsIn K mainGlobals "NoMarks" = some (some (.ref (He.ga K "NoMarks")))) ∧ (PySem.W.isClsIn K (He.ga K "NoMarks") = true) ∧ (PySem.W.typeIn K (.ref (He.ga K "NoMarks")) = some (.type "type")) ∧ (PySem.W.nsIn K mainGlobals "NoNamed" = some (some (.ref (He.ga K "NoNamed")))) ∧ (PySem.W.isClsIn K (He.ga K "NoNamed") = true) ∧ (PySem.W.typeIn K (.ref (He.ga K "NoNamed")) = some (.type "type")) ∧ (PySem.W.nsIn K mainGlobals "NoOrder" = some (some (.ref (He.ga K "NoOrder")))) ∧ (PySem.W.isClsIn K (He.ga K "NoOrder") = true)),
  fun K => bX (He.ga K "SlotError") (He.ga K "NoRule") K,
  fun K => decide ((PySem.W.typeIn K (.ref (He.ga K "NoOrder")) = some (.type "type")) ∧ (PySem.W.nsIn K mainGlobals "NoText" = some (some (.ref (He.ga K "NoText")))) ∧ (PySem.W.isClsIn K (He.ga K "NoText") = true) ∧ (PySem.W.typeIn K (.ref (He.ga K "NoText")) = some (.type "type")) ∧ (PySem.W.nsIn K mainGlobals "NoNumber" = some (some (.ref (He.ga K "NoNumber")))) ∧ (PySem.W.isClsIn K (He.ga K "NoNumber") = true) ∧ (PySem.W.typeIn K (.ref (He.ga K "NoNumber")) = some (.type "type")) ∧ (PySem.W.nsIn K mainGlobals "NoName" = some (some (.ref (He.ga K "NoName")))) ∧ (PySem.W.isClsIn K (He.ga K "NoName") = true) ∧ (PySem.W.typeIn K (.ref (He.ga K "NoName")) = some (.type "type")) ∧ (PySem.W.nsIn K mainGlobals "NoUndo" = some (some (.ref (He.ga K "NoUndo")))) ∧ (PySem.W.isClsIn K (He.ga K "NoUndo") = true) ∧ (PySem.W.typeIn K (.ref (He.ga K "NoUndo")) = some (.type "type")) ∧ (PySem.W.nsIn K mainGlobals "NoLine" = some (some (.ref (He.ga K "NoLine")))) ∧ (PySem.W.isClsIn K (He.ga K "NoLine") = true) ∧ (PySem.W.typeIn K (.ref (He.ga K "NoLine")) = some (.type "type")) ∧ (PySem.W.findIn K (.ref (He.ga K "NoRule")) "__setattr__" = some (some (.builtin "object.__setattr__"))) ∧ (PySem.W.findIn K (.ref (He.ga K "NoRule")) "__getattribute__" = some (some (.builtin "BaseException.__getattribute__"))) ∧ (PySem.W.findIn K (.ref (He.ga K "NoRule")) "__getattr__" = some none) ∧ (PySem.W.findIn K (.ref (He.ga K "NoRule")) "place" = some none)),
  fun K => (He.Fa.code ("NoRule", some "__init__") "NoRule.__init__").ok K]
def fsV1 : List (PySem.W.Frag → Bool) := [fun K => decide ((PySem.W.findIn K (.ref (He.ga K "NoRule")) "__init__" = some (some (.ref (He.ma K (He.ga K "NoRule") "__init__")))) ∧ (PySem.W.typeIn K (.ref (He.ma K (He.ga K "NoRule") "__init__")) = some (.type "function")) ∧ (PySem.W.keepIn K (.ref (He.ma K (He.ga K "NoRule") "__init__")) = true) ∧ (PySem.W.keepIn K (.ref (He.ga K "NoRule")) = true) ∧ (PySem.W.subIn K (.ref (He.ga K "NoRule")) (.type "BaseException") = some true) ∧ (PySem.W.hasDictIn K (He.ga K "NoRule") = true) ∧ (PySem.W.findIn K (.ref (He.ga K "NoRule")) "__class__" = some (some (.builtin "object.__class__"))) ∧ (PySem.W.mroIn K (He.ga K "NoRule") (.type "object") = some true) ∧ (PySem.W.subIn K (.ref (He.ga K "NoRule")) (.type "ValueError") = some true) ∧ (PySem.W.subIn K (.ref (He.ga K "NoRule")) (.ref (He.ga K "SlotError")) = some true) ∧ (PySem.W.subIn K (.ref (He.ga K "NoRule")) (.ref (He.ga K "NoJobs")) = some false) ∧ ((Value.ref (He.ga K "NoRule") == Value.ref (He.ga K "NoJobs")) = false) ∧ (PySem.W.subIn K (.ref (He.ga K "NoRule")) (.ref (He.ga K "NoLengths")) = some false) ∧ ((Value.ref (He.ga K "NoRule") == Value.ref (He.ga K "NoLengths")) = false) ∧ (PySem.W.subIn K (.ref (He.ga K "NoRule")) (.ref (He.ga K "NoLog")) = some false) ∧ ((Value.ref (He.ga K "NoRule") == Value.ref (He.ga K "NoLog")) = false) ∧ (PySem.W.subIn K (.ref (He.ga K "NoRule")) (.ref (He.ga K "NoMarks")) = some false) ∧ ((Value.ref (He.ga K "NoRule") == Value.ref (He.ga K "NoMarks")) = false) ∧ (PySem.W.subIn K (.ref (He.ga K "NoRule")) (.ref (He.ga K "NoNamed")) = some false) ∧ ((Value.ref (He.ga K "NoRule") == Value.ref (He.ga K "NoNamed")) = false)),
  fun K => bX (He.ga K "SlotError") (He.ga K "NoName") K,
  fun K => (He.Fa.code ("NoName", some "__init__") "NoName.__init__").ok K,
  fun K => decide ((PySem.W.subIn K (.ref (He.ga K "NoRule")) (.ref (He.ga K "NoOrder")) = some false) ∧ ((Value.ref (He.ga K "NoRule") == Value.ref (He.ga K "NoOrder")) = false) ∧ (PySem.W.subIn K (.ref (He.ga K "NoRule")) (.ref (He.ga K "NoText")) = some false) ∧ ((Value.ref (He.ga K "NoRule") == Value.ref (He.ga K "NoText")) = false) ∧ (PySem.W.subIn K (.ref (He.ga K "NoRule")) (.ref (He.ga K "NoNumber")) = some false) ∧ ((Value.ref (He.ga K "NoRule") == Value.ref (He.ga K "NoNumber")) = false) ∧ (PySem.W.subIn K (.ref (He.ga K "NoRule")) (.ref (He.ga K "NoName")) = some false) ∧ ((Value.ref (He.ga K "NoRule") == Value.ref (He.ga K "NoName")) = false) ∧ (PySem.W.subIn K (.ref (He.ga K "NoRule")) (.ref (He.ga K "NoUndo")) = some false) ∧ ((Value.ref (He.ga K "NoRule") == Value.ref (He.ga K "NoUndo")) = false) ∧ (PySem.W.subIn K (.ref (He.ga K "NoRule")) (.ref (He.ga K "NoLine")) = some false) ∧ ((Value.ref (He.ga K "NoRule") == Value.ref (He.ga K "NoLine")) = false) ∧ (PySem.W.findIn K (.ref (He.ga K "NoName")) "__setattr__" = some (some (.builtin "object.__setattr__"))) ∧ (PySem.W.findIn K (.ref (He.ga K "NoName")) "__getattribute__" = some (some (.builtin "BaseException.__getattribute__"))) ∧ (PySem.W.findIn K (.ref (He.ga K "NoName")) "__getattr__" = some none) ∧ (PySem.W.findIn K (.ref (He.ga K "NoName")) "name" = some none) ∧ (PySem.W.findIn K (.ref (He.ga K "NoName")) "place" = some none) ∧ (PySem.W.findIn K (.ref (He.ga K "NoName")) "__init__" = some (some (.ref (He.ma K (He.ga K "NoName") "__init__")))) ∧ (PySem.W.typeIn K (.ref (He.ma K (He.ga K "NoName") "__init__")) = some (.type "function")) ∧ (PySem.W.keepIn K (.ref (He.ma K (He.ga K "NoName") "__init__")) = true)),
  fun K => decide ((PySem.W.keepIn K (.ref (He.ga K "NoName")) = true) ∧ (PySem.W.subIn K (.ref (He.ga K "NoName")) (.type "BaseException") = some true) ∧ (PySem.W.hasDictIn K (He.ga K "NoName") = true) ∧ (PySem.W.findIn K (.ref (He.ga K "NoName")) "__class__" = some (some (.builtin "object.__class__"))) ∧ (PySem.W.mroIn K (He.ga K "NoName") (.type "object") = some true) ∧ (PySem.W.subIn K (.ref (He.ga K "NoName")) (.type "ValueError") = some true) ∧ (PySem.W.subIn K (.ref (He.ga K "NoName")) (.ref (He.ga K "SlotError")) = some true) ∧ (PySem.W.subIn K (.ref (He.ga K "NoName")) (.ref (He.ga K "NoJobs")) = some false) ∧ ((Value.ref (He.ga K "NoName") == Value.ref (He.ga K "NoJobs")) = false) ∧ (PySem.W.subIn K (.ref (He.ga K "NoName")) (.ref (He.ga K "NoRule")) = some false) ∧ ((Value.ref (He.ga K "NoName") == Value.ref (He.ga K "NoRule")) = false) ∧ (PySem.W.subIn K (.ref (He.ga K "NoName")) (.ref (He.ga K "NoLengths")) = some false) ∧ ((Value.ref (He.ga K "NoName") == Value.ref (He.ga K "NoLengths")) = false) ∧ (PySem.W.subIn K (.ref (He.ga K "NoName")) (.ref (He.ga K "NoLog")) = some false) ∧ ((Value.ref (He.ga K "NoName") == Value.ref (He.ga K "NoLog")) = false) ∧ (PySem.W.subIn K (.ref (He.ga K "NoName")) (.ref (He.ga K "NoMarks")) = some false) ∧ ((Value.ref (He.ga K "NoName") == Value.ref (He.ga K "NoMarks")) = false) ∧ (PySem.W.subIn K (.ref (He.ga K "NoName")) (.ref (He.ga K "NoNamed")) = some false) ∧ ((Value.ref (He.ga K "NoName") == Value.ref (He.ga K "NoNamed")) = false) ∧ (PySem.W.subIn K (.ref (He.ga K "NoName")) (.ref (He.ga K "NoOrder")) = some false)),
  fun K => decide (((Value.ref (He.ga K "NoName") == Value.ref (He.ga K "NoOrder")) = false) ∧ (PySem.W.subIn K (.ref (He.ga K "NoName")) (.ref (He.ga K "NoText")) = some false) ∧ ((Value.ref (He.ga K "NoName") == Value.ref (He.ga K "NoText")) = false) ∧ (PySem.W.subIn K (.ref (He.ga K "NoName")) (.ref (He.ga K "NoNumber")) = some false) ∧ ((Value.ref (He.ga K "NoName") == Value.ref (He.ga K "NoNumber")) = false) ∧ (PySem.W.subIn K (.ref (He.ga K "NoName")) (.ref (He.ga K "NoUndo")) = some false) ∧ ((Value.ref (He.ga K "NoName") == Value.ref (He.ga K "NoUndo")) = false) ∧ (PySem.W.subIn K (.ref (He.ga K "NoName")) (.ref (He.ga K "NoLine")) = some false) ∧ ((Value.ref (He.ga K "NoName") == Value.ref (He.ga K "NoLine")) = false) ∧ (PySem.W.excIn K (He.ga K "NoUndo") [.type "ValueError", .type "Exception", .type "BaseException", .type "object"] "ValueError.__new__" = true) ∧ (PySem.W.findIn K (.ref (He.ga K "NoUndo")) "__getattribute__" = some (some (.builtin "BaseException.__getattribute__"))) ∧ (PySem.W.findIn K (.ref (He.ga K "NoUndo")) "__getattr__" = some none) ∧ (PySem.W.findIn K (.ref (He.ga K "NoUndo")) "place" = some none) ∧ (PySem.W.keepIn K (.ref (He.ga K "NoUndo")) = true) ∧ (PySem.W.subIn K (.ref (He.ga K "NoUndo")) (.type "BaseException") = some true) ∧ (PySem.W.hasDictIn K (He.ga K "NoUndo") = true) ∧ (PySem.W.findIn K (.ref (He.ga K "NoUndo")) "__class__" = some (some (.builtin "object.__class__"))) ∧ (PySem.W.mroIn K (He.ga K "NoUndo") (.type "object") = some true) ∧ (PySem.W.subIn K (.ref (He.ga K "NoUndo")) (.type "ValueError") = some true) ∧ (PySem.W.subIn K (.ref (He.ga K "NoUndo")) (.ref (He.ga K "SlotError")) = some true)),
  fun K => decide ((PySem.W.subIn K (.ref (He.ga K "NoUndo")) (.ref (He.ga K "NoJobs")) = some false) ∧ ((Value.ref (He.ga K "NoUndo") == Value.ref (He.ga K "NoJobs")) = false) ∧ (PySem.W.subIn K (.ref (He.ga K "NoUndo")) (.ref (He.ga K "NoRule")) = some false) ∧ ((Value.ref (He.ga K "NoUndo") == Value.ref (He.ga K "NoRule")) = false) ∧ (PySem.W.subIn K (.ref (He.ga K "NoUndo")) (.ref (He.ga K "NoLengths")) = some false) ∧ ((Value.ref (He.ga K "NoUndo") == Value.ref (He.ga K "NoLengths")) = false) ∧ (PySem.W.subIn K (.ref (He.ga K "NoUndo")) (.ref (He.ga K "NoLog")) = some false) ∧ ((Value.ref (He.ga K "NoUndo") == Value.ref (He.ga K "NoLog")) = false) ∧ (PySem.W.subIn K (.ref (He.ga K "NoUndo")) (.ref (He.ga K "NoMarks")) = some false) ∧ ((Value.ref (He.ga K "NoUndo") == Value.ref (He.ga K "NoMarks")) = false) ∧ (PySem.W.subIn K (.ref (He.ga K "NoUndo")) (.ref (He.ga K "NoNamed")) = some false) ∧ ((Value.ref (He.ga K "NoUndo") == Value.ref (He.ga K "NoNamed")) = false) ∧ (PySem.W.subIn K (.ref (He.ga K "NoUndo")) (.ref (He.ga K "NoOrder")) = some false) ∧ ((Value.ref (He.ga K "NoUndo") == Value.ref (He.ga K "NoOrder")) = false) ∧ (PySem.W.subIn K (.ref (He.ga K "NoUndo")) (.ref (He.ga K "NoText")) = some false) ∧ ((Value.ref (He.ga K "NoUndo") == Value.ref (He.ga K "NoText")) = false) ∧ (PySem.W.subIn K (.ref (He.ga K "NoUndo")) (.ref (He.ga K "NoNumber")) = some false) ∧ ((Value.ref (He.ga K "NoUndo") == Value.ref (He.ga K "NoNumber")) = false) ∧ (PySem.W.subIn K (.ref (He.ga K "NoUndo")) (.ref (He.ga K "NoName")) = some false) ∧ ((Value.ref (He.ga K "NoUndo") == Value.ref (He.ga K "NoName")) = false)),
  bN "is_name",
  bI "MOST_LEVELS" 6,
  fun K => decide ((PySem.W.subIn K (.ref (He.ga K "NoUndo")) (.ref (He.ga K "NoLine")) = some false) ∧ ((Value.ref (He.ga K "NoUndo") == Value.ref (He.ga K "NoLine")) = false) ∧ (PySem.W.nsIn K mainGlobals "Board" = some (some (.ref (He.ga K "Board")))) ∧ ((He.Fa.cls "Board").ok K = true) ∧ ((He.Fa.mkr "Board").ok K = true) ∧ ((He.Fa.noat "Board" "rule").ok K = true) ∧ ((He.Fa.noat "Board" "processors").ok K = true) ∧ ((He.Fa.noat "Board" "now").ok K = true) ∧ ((He.Fa.noat "Board" "lines").ok K = true) ∧ ((He.Fa.noat "Board" "used").ok K = true) ∧ ((He.Fa.noat "Board" "ran").ok K = true) ∧ ((He.Fa.noat "Board" "finishes").ok K = true) ∧ ((He.Fa.meth "Board" "copied").ok K = true) ∧ ((He.Fa.meth "Board" "enter").ok K = true) ∧ ((He.Fa.meth "Board" "order").ok K = true) ∧ ((He.Fa.meth "Board" "running").ok K = true) ∧ ((He.Fa.meth "Board" "level_of").ok K = true) ∧ ((He.Fa.meth "Board" "end_units").ok K = true) ∧ ((He.Fa.meth "Board" "end_quanta").ok K = true) ∧ ((He.Fa.meth "Board" "lift").ok K = true)),
  fun K => decide (((He.Fa.meth "Board" "log").ok K = true) ∧ ((He.Fa.meth "Board" "lengths").ok K = true) ∧ (PySem.W.nsIn K mainGlobals "Bench" = some (some (.ref (He.ga K "Bench")))) ∧ ((He.Fa.cls "Bench").ok K = true) ∧ ((He.Fa.mkr "Bench").ok K = true) ∧ ((He.Fa.noat "Bench" "_board").ok K = true) ∧ ((He.Fa.noat "Bench" "_past").ok K = true) ∧ ((He.Fa.meth "Bench" "arrive").ok K = true) ∧ ((He.Fa.meth "Bench" "end_unit").ok K = true) ∧ ((He.Fa.meth "Bench" "undo").ok K = true) ∧ ((He.Fa.meth "Bench" "moment").ok K = true) ∧ ((He.Fa.meth "Bench" "running").ok K = true) ∧ ((He.Fa.meth "Bench" "state").ok K = true) ∧ ((He.Fa.meth "Bench" "lengths").ok K = true) ∧ ((He.Fa.meth "Bench" "log").ok K = true))]
def fsW0 : List (PySem.W.Frag → Bool) := [fun K => (mW "Board" "__init__" "Board.__init__" sBdInit [] []).ok K,
  fun K => (mW "Board" "copied" "Board.copied" sBdCopied [] []).ok K,
  fun K => (mW "Board" "enter" "Board.enter" sBdEnter [] []).ok K,
  fun K => (mW "Board" "order" "Board.order" sBdOrder [] []).ok K,
  fun K => (mW "Board" "running" "Board.running" sBdRunning [] []).ok K,
  fun K => (mW "Board" "level_of" "Board.level_of" sBdLevelOf [] []).ok K,
  fun K => (mW "Board" "end_units" "Board.end_units" sBdEndUnits [] []).ok K,
  fun K => (mW "Board" "end_quanta" "Board.end_quanta" sBdEndQuanta [] []).ok K,
  fun K => (mW "Board" "lift" "Board.lift" sBdLift [] []).ok K,
  fun K => (mW "Board" "log" "Board.log" sBdLog [] []).ok K,
  fun K => (mW "Board" "lengths" "Board.lengths" sBdLengths [] []).ok K,
  fun K => (mW "Bench" "__init__" "Bench.__init__" sBnInit [] [("processors", .int 1)]).ok K,
  fun K => (mW "Bench" "arrive" "Bench.arrive" sBnArrive [] [("entry", .int 0)]).ok K,
  fun K => (mW "Bench" "end_unit" "Bench.end_unit" sBnEnd [.adr (He.dflAt ("Bench", some "end_unit") 0)] []).ok K,
  fun K => (mW "Bench" "undo" "Bench.undo" sBnUndo [] []).ok K,
  fun K => (mW "Bench" "moment" "Bench.moment" sBnMoment [] []).ok K,
  fun K => (mW "Bench" "running" "Bench.running" sBnRunning [] []).ok K,
  fun K => (mW "Bench" "state" "Bench.state" sBnState [] []).ok K,
  fun K => (mW "Bench" "lengths" "Bench.lengths" sBnLengths [] []).ok K,
  fun K => (mW "Bench" "log" "Bench.log" sBnLog [] []).ok K]
def fwV : List He.DefD := [mW "Board" "__init__" "Board.__init__" sBdInit [] [],
  mW "Board" "copied" "Board.copied" sBdCopied [] [],
  mW "Board" "enter" "Board.enter" sBdEnter [] [],
  mW "Board" "order" "Board.order" sBdOrder [] [],
  mW "Board" "running" "Board.running" sBdRunning [] [],
  mW "Board" "level_of" "Board.level_of" sBdLevelOf [] [],
  mW "Board" "end_units" "Board.end_units" sBdEndUnits [] [],
  mW "Board" "end_quanta" "Board.end_quanta" sBdEndQuanta [] [],
  mW "Board" "lift" "Board.lift" sBdLift [] [],
  mW "Board" "log" "Board.log" sBdLog [] [],
  mW "Board" "lengths" "Board.lengths" sBdLengths [] [],
  mW "Bench" "__init__" "Bench.__init__" sBnInit [] [("processors", .int 1)],
  mW "Bench" "arrive" "Bench.arrive" sBnArrive [] [("entry", .int 0)],
  mW "Bench" "end_unit" "Bench.end_unit" sBnEnd [.adr (He.dflAt ("Bench", some "end_unit") 0)] [],
  mW "Bench" "undo" "Bench.undo" sBnUndo [] [],
  mW "Bench" "moment" "Bench.moment" sBnMoment [] [],
  mW "Bench" "running" "Bench.running" sBnRunning [] [],
  mW "Bench" "state" "Bench.state" sBnState [] [],
  mW "Bench" "lengths" "Bench.lengths" sBnLengths [] [],
  mW "Bench" "log" "Bench.log" sBnLog [] []]
def fsV : List (PySem.W.Frag → Bool) := fsV0 ++ fsV1 ++ fsW0
def fnV0 : List He.FnD := [dD "is_integer" sInteger,
  dD "is_tuple_of" sTupleOf,
  dD "check_rule" sCheck,
  dD "is_level" sLevel,
  dD "is_count" sCount,
  dD "_law_mix" sMix,
  dD "_law_store" sStore,
  dD "_law_pick" sPick,
  dD "_law_names" sNames,
  dD "_law_some" sSome,
  dD "_law_rule" sRule,
  dD "_law_enter" sEnter,
  dD "_law_order" sOrder,
  dD "_law_end" sEnd,
  dD "_law_state" sState,
  dD "_law_as_due" sAsDue,
  dD "_law_step" sStep,
  dD "_law_kind" sKind,
  dD "_law_caught" sCaught,
  dD "_law_bad_names" sBadNames,
  dD "_law_bad_finish" sBadFinish,
  dD "_law_wrong_right" sWrong,
  dD "_law_copy" sCopy,
  dD "_law_rule_right" sRuleRight,
  dD "law" sLaw,
  dM "NoRule" "__init__" "NoRule.__init__" sRuleInit,
  dM "NoName" "__init__" "NoName.__init__" sNameInit,
  dD "is_name" sName]
def fnV : List He.FnD := fnV0
abbrev RV : PySem.W.OpenRow := PySem.W.OpenLaw.row PySem.Challenge.rw_blindslots_k13_bench_errors_and_undo
abbrev qV : Program := PySem.W.view RV.prog [20, 48]
abbrev hV : PySem.W.Hook := hookC 4 fsV fnV fwV
def obV (s : PySem.W.SharedT) : SeeC := seeC fsV fnV fwV (partC 4 (HandSHeadRun.getT s))
theorem obV_eq (s : PySem.W.SharedT) : obV s = hV.obs s.abs := seeC_eq (HandSHeadRun.getT_eq s)
theorem runVa (w : World) (os : OsState) : (HandSHeadRun.endF (HandSHeadRun.stepQ (HandSHeadRun.denQ HandSHeadRun.tabQ) RV.prog w) 30000 RV.prog w os).map (fun s => HandSHeadRun.looksF RV.prog (PySem.W.boot_heap w.params) s.abs) = some true := by
  kernel_rfl
theorem runVb (w : World) (os : OsState) : (HandSHeadRun.endF (HandSHeadRun.stepQ (HandSHeadRun.denQ HandSHeadRun.tabQ) RV.prog w) 30000 RV.prog w os).map (fun s => HandSHeadRun.seenQ qV nmV (importedModules RV.prog.main.body) (fun s => PySem.W.xlAt qV [] s && PySem.W.recOk RV.toRowW.records s) s.abs) = some (PySem.W.openGood qV nmV) := by
  kernel_rfl
theorem runVc (w : World) (os : OsState) : (HandSHeadRun.endF (HandSHeadRun.stepQ (HandSHeadRun.denQ HandSHeadRun.tabQ) RV.prog w) 30000 RV.prog w os).map (fun s => obV s) = some (dueC fnV fwV) := by
  kernel_rfl
theorem runV (w : World) : HandSHeadRun.RunEq RV qV hV obV 30000 nmV w := fun os => join3 (runVa w os) (runVb w os) (runVc w os)
end Vk
set_option maxHeartbeats 4000000
namespace Vk
open PySem PySem.Spec PyProof.Rows L2
section
variable {P : Program} {w : World} {K : PySem.W.Frag} {mg : Str → Option Value} {base : Heap}
theorem scNameInit : FnScope ["self", "name"] ["self", "name"] (defScope sNameInit) := ⟨rfl, rfl, rfl, by decide +kernel, rfl, by decide +kernel, by decide +kernel⟩
theorem ok_nameInit {C fI : Addr} {fd : FuncData} (F : Fun K "__init__" "NoName.__init__" sNameInit fI fd) (T : OexC K C) (no : PySem.W.findIn K (.ref C) "name" = some none) : FnOk P w K mg base CX0 1 fI fd ["self", "name"] (spIni C "name") := by
  refine F.ok scNameInit (fun vs H Q E h => ?_) (fun cdv A outer s H vs Q E hr h => ?_)
  · obtain ⟨a, v, rfl, _⟩ := h
    rfl
  · obtain ⟨a, v, rfl, ha, k⟩ := h
    refine ⟨_, pss_one (ps_ost (pv 0) (pv 1)), ?_⟩
    exact ⟨_, rfl, _, rfl, a, C, rfl, T, no, .inl ⟨ha, fun dx n1 n2 => k dx n1 n2⟩⟩
theorem erc_name {C : Addr} (g : mg "NoName" = some (.ref C)) (T : OexC K C) (no : PySem.W.findIn K (.ref C) "name" = some none) (N : Nit K "NoName" "NoName.__init__" "name" sNameInit C) : ErC P w K mg base "NoName" "name" C := by
  obtain ⟨fI, fd, h1, h2, h3, h4⟩ := N.ex
  exact ⟨g, T, fI, fd, h1, h2, h4, ok_nameInit h3 T no⟩
end
end Vk
set_option maxHeartbeats 4000000
namespace Vk
open PySem PySem.Spec PyProof.Rows L2
theorem kit_same {K : PySem.W.Frag} {t : Value} : PySem.W.kitOne K t t = some true := by
  unfold PySem.W.kitOne
  rw [if_pos (beq_self_eq_true t)]
theorem kit_sub {K : PySem.W.Frag} {C D : Addr} (h1 : PySem.W.isClsIn K D = true) (h2 : PySem.W.typeIn K (.ref D) = some (.type "type")) (h3 : PySem.W.subIn K (.ref C) (.ref D) = some true) : PySem.W.kitOne K (.ref C) (.ref D) = some true := by
  unfold PySem.W.kitOne
  have e : ((PySem.W.clsIn K D).isSome && PySem.W.typeIn K (.ref D) == some (.type "type")) = true := by
    have h1' : (PySem.W.clsIn K D).isSome = true := h1
    rw [h1', h2]
    rfl
  by_cases z : (Value.ref C == Value.ref D) = true
  · rw [if_pos z]
  · rw [if_neg z]
    show (if ((PySem.W.clsIn K D).isSome && PySem.W.typeIn K (.ref D) == some (.type "type")) = true then PySem.W.subIn K (.ref C) (.ref D) else none) = _
    rw [if_pos e, h3]
theorem kit_ref {K : PySem.W.Frag} {C D : Addr} {b : Bool} (z : (Value.ref C == Value.ref D) = false) (h1 : PySem.W.isClsIn K D = true) (h2 : PySem.W.typeIn K (.ref D) = some (.type "type")) (h3 : PySem.W.subIn K (.ref C) (.ref D) = some b) : PySem.W.kitOne K (.ref C) (.ref D) = some b := by
  unfold PySem.W.kitOne
  have e : ((PySem.W.clsIn K D).isSome && PySem.W.typeIn K (.ref D) == some (.type "type")) = true := by
    have h1' : (PySem.W.clsIn K D).isSome = true := h1
    rw [h1', h2]
    rfl
  rw [if_neg (by rw [z]; exact Bool.false_ne_true)]
  show (if ((PySem.W.clsIn K D).isSome && PySem.W.typeIn K (.ref D) == some (.type "type")) = true then PySem.W.subIn K (.ref C) (.ref D) else none) = _
  rw [if_pos e, h3]
theorem kit_ve {K : PySem.W.Frag} {C : Addr} (h3 : PySem.W.subIn K (.ref C) (.type "ValueError") = some true) : PySem.W.kitOne K (.ref C) (.type "ValueError") = some true := by
  unfold PySem.W.kitOne
  have e : PySem.W.kitMeta "ValueError" = true := by decide +kernel
  rw [if_neg (by intro z; cases z)]
  show (if PySem.W.kitMeta "ValueError" = true then PySem.W.subIn K (.ref C) (.type "ValueError") else none) = _
  rw [if_pos e, h3]
end Vk
set_option maxHeartbeats 8000000
namespace Vk
open PySem PySem.Spec PyProof.Rows L2 GxR
/-- what the law needs of a head: the promise of its def, over the empty table of one code object -/
def LawTab (l : PySem.W.OpenLaw) (w : World) (K : PySem.W.Frag) (mg : Str → Option Value) (fa : Addr) : Prop := ∃ (fd : FuncData) (c P : Addr), PySem.W.tabIn K "is_name" = some (c, P) ∧ K.lookup P = none ∧
  (∀ (s : Shared) (u : Value), BindsTo s fd ⟨[u], []⟩ [("script", u)]) ∧ ∀ base : Heap, K.In base → base.Ns mainGlobals mg → TabB base mg c P → FnOk l.prog w K mg base CX0 8 fa fd ["script"] (spLaw K P)

theorem all_mk {l : PySem.W.OpenLaw} {w : World} {K : PySem.W.Frag} {h : Heap} {mg : Str → Option Value} {fa : Addr} (X : K.In h) (G : h.Ns mainGlobals mg) (hfa : mg "law" = some (.ref fa))
    {f0 : Addr} {oc0 kV0 dc0 pm0 cd0 ct0 : Value} {od0 an0 : Option Addr} {sl0 : Array (Option Value)}
    {f1 : Addr} {oc1 kV1 dc1 pm1 cd1 ct1 : Value} {od1 an1 : Option Addr} {sl1 : Array (Option Value)}
    {f2 : Addr} {oc2 kV2 dc2 pm2 cd2 ct2 : Value} {od2 an2 : Option Addr} {sl2 : Array (Option Value)}
    {f3 : Addr} {oc3 kV3 dc3 pm3 cd3 ct3 : Value} {od3 an3 : Option Addr} {sl3 : Array (Option Value)}
    {f4 : Addr} {oc4 kV4 dc4 pm4 cd4 ct4 : Value} {od4 an4 : Option Addr} {sl4 : Array (Option Value)}
    {f5 : Addr} {oc5 kV5 dc5 pm5 cd5 ct5 : Value} {od5 an5 : Option Addr} {sl5 : Array (Option Value)}
    {f6 : Addr} {oc6 kV6 dc6 pm6 cd6 ct6 : Value} {od6 an6 : Option Addr} {sl6 : Array (Option Value)}
    {f7 : Addr} {oc7 kV7 dc7 pm7 cd7 ct7 : Value} {od7 an7 : Option Addr} {sl7 : Array (Option Value)}
    {f8 : Addr} {oc8 kV8 dc8 pm8 cd8 ct8 : Value} {od8 an8 : Option Addr} {sl8 : Array (Option Value)}
    {f9 : Addr} {oc9 kV9 dc9 pm9 cd9 ct9 : Value} {od9 an9 : Option Addr} {sl9 : Array (Option Value)}
    {f10 : Addr} {oc10 kV10 dc10 pm10 cd10 ct10 : Value} {od10 an10 : Option Addr} {sl10 : Array (Option Value)}
    {f11 : Addr} {oc11 kV11 dc11 pm11 cd11 ct11 : Value} {od11 an11 : Option Addr} {sl11 : Array (Option Value)}
    {f12 : Addr} {oc12 kV12 dc12 pm12 cd12 ct12 : Value} {od12 an12 : Option Addr} {sl12 : Array (Option Value)}
    {f13 : Addr} {oc13 kV13 dc13 pm13 cd13 ct13 : Value} {od13 an13 : Option Addr} {sl13 : Array (Option Value)}
    {f14 : Addr} {oc14 kV14 dc14 pm14 cd14 ct14 : Value} {od14 an14 : Option Addr} {sl14 : Array (Option Value)}
    {f15 : Addr} {oc15 kV15 dc15 pm15 cd15 ct15 : Value} {od15 an15 : Option Addr} {sl15 : Array (Option Value)}
    {f16 : Addr} {oc16 kV16 dc16 pm16 cd16 ct16 : Value} {od16 an16 : Option Addr} {sl16 : Array (Option Value)}
    {f17 : Addr} {oc17 kV17 dc17 pm17 cd17 ct17 : Value} {od17 an17 : Option Addr} {sl17 : Array (Option Value)}
    {f18 : Addr} {oc18 kV18 dc18 pm18 cd18 ct18 : Value} {od18 an18 : Option Addr} {sl18 : Array (Option Value)}
    {f19 : Addr} {oc19 kV19 dc19 pm19 cd19 ct19 : Value} {od19 an19 : Option Addr} {sl19 : Array (Option Value)}
    {f20 : Addr} {oc20 kV20 dc20 pm20 cd20 ct20 : Value} {od20 an20 : Option Addr} {sl20 : Array (Option Value)}
    {f21 : Addr} {oc21 kV21 dc21 pm21 cd21 ct21 : Value} {od21 an21 : Option Addr} {sl21 : Array (Option Value)}
    {f22 : Addr} {oc22 kV22 dc22 pm22 cd22 ct22 : Value} {od22 an22 : Option Addr} {sl22 : Array (Option Value)}
    {f23 : Addr} {oc23 kV23 dc23 pm23 cd23 ct23 : Value} {od23 an23 : Option Addr} {sl23 : Array (Option Value)}
    {f24 : Addr} {oc24 kV24 dc24 pm24 cd24 ct24 : Value} {od24 an24 : Option Addr} {sl24 : Array (Option Value)}
    {S : Addr}
    {E0 : Addr}
    {E1 : Addr}
    {E2 : Addr}
    {E3 : Addr}
    {E4 : Addr}
    {E5 : Addr}
    {E6 : Addr}
    {E7 : Addr}
    {E8 : Addr}
    {E9 : Addr}
    {E10 : Addr}
    {E11 : Addr}
    {fI1 : Addr} {nm1 q1 : Str} {N1 : Addr} {bs1 sb1 : List Value} {sn1 : List Str} {ab1 : Bool} {col1 : Option Bool} {dd1 : Option Addr} {m01 m11 m21 m31 m51 : Option Value} {ocI1 kVI1 dcI1 pmI1 cdI1 ctI1 : Value} {odI1 anI1 : Option Addr} {slI1 : Array (Option Value)}
    {fI9 : Addr} {nm9 q9 : Str} {N9 : Addr} {bs9 sb9 : List Value} {sn9 : List Str} {ab9 : Bool} {col9 : Option Bool} {dd9 : Option Addr} {m09 m19 m29 m39 m59 : Option Value} {ocI9 kVI9 dcI9 pmI9 cdI9 ctI9 : Value} {odI9 anI9 : Option Addr} {slI9 : Array (Option Value)}
    {fN cN PN : Addr} {ocN kVN dcN pmN ctN eN : Value} {odN anN ddN : Option Addr} {slN scN : Array (Option Value)} {vsN : Array Value}
    {tML : Tok}
    (a0 : PySem.W.nsIn K mainGlobals "is_integer" = some (some (.ref f0)))
    (l0 : K.lookup f0 = some ⟨oc0, od0, .func (PySem.W.fnOf "is_integer" "is_integer" (defArgs sInteger) (defBody sInteger) (defScope sInteger) .none kV0 dc0 pm0 an0 cd0 ct0), sl0⟩)
    (c0 : PySem.W.codeIn K cd0 "is_integer" = true)
    (k0 : PySem.W.keepIn K (.ref f0) = true)
    (a1 : PySem.W.nsIn K mainGlobals "is_tuple_of" = some (some (.ref f1)))
    (l1 : K.lookup f1 = some ⟨oc1, od1, .func (PySem.W.fnOf "is_tuple_of" "is_tuple_of" (defArgs sTupleOf) (defBody sTupleOf) (defScope sTupleOf) .none kV1 dc1 pm1 an1 cd1 ct1), sl1⟩)
    (c1 : PySem.W.codeIn K cd1 "is_tuple_of" = true)
    (k1 : PySem.W.keepIn K (.ref f1) = true)
    (a2 : PySem.W.nsIn K mainGlobals "check_rule" = some (some (.ref f2)))
    (l2 : K.lookup f2 = some ⟨oc2, od2, .func (PySem.W.fnOf "check_rule" "check_rule" (defArgs sCheck) (defBody sCheck) (defScope sCheck) .none kV2 dc2 pm2 an2 cd2 ct2), sl2⟩)
    (c2 : PySem.W.codeIn K cd2 "check_rule" = true)
    (k2 : PySem.W.keepIn K (.ref f2) = true)
    (a3 : PySem.W.nsIn K mainGlobals "is_level" = some (some (.ref f3)))
    (l3 : K.lookup f3 = some ⟨oc3, od3, .func (PySem.W.fnOf "is_level" "is_level" (defArgs sLevel) (defBody sLevel) (defScope sLevel) .none kV3 dc3 pm3 an3 cd3 ct3), sl3⟩)
    (c3 : PySem.W.codeIn K cd3 "is_level" = true)
    (k3 : PySem.W.keepIn K (.ref f3) = true)
    (a4 : PySem.W.nsIn K mainGlobals "is_count" = some (some (.ref f4)))
    (l4 : K.lookup f4 = some ⟨oc4, od4, .func (PySem.W.fnOf "is_count" "is_count" (defArgs sCount) (defBody sCount) (defScope sCount) .none kV4 dc4 pm4 an4 cd4 ct4), sl4⟩)
    (c4 : PySem.W.codeIn K cd4 "is_count" = true)
    (k4 : PySem.W.keepIn K (.ref f4) = true)
    (a5 : PySem.W.nsIn K mainGlobals "_law_mix" = some (some (.ref f5)))
    (l5 : K.lookup f5 = some ⟨oc5, od5, .func (PySem.W.fnOf "_law_mix" "_law_mix" (defArgs sMix) (defBody sMix) (defScope sMix) .none kV5 dc5 pm5 an5 cd5 ct5), sl5⟩)
    (c5 : PySem.W.codeIn K cd5 "_law_mix" = true)
    (k5 : PySem.W.keepIn K (.ref f5) = true)
    (a6 : PySem.W.nsIn K mainGlobals "_law_store" = some (some (.ref f6)))
    (l6 : K.lookup f6 = some ⟨oc6, od6, .func (PySem.W.fnOf "_law_store" "_law_store" (defArgs sStore) (defBody sStore) (defScope sStore) .none kV6 dc6 pm6 an6 cd6 ct6), sl6⟩)
    (c6 : PySem.W.codeIn K cd6 "_law_store" = true)
    (k6 : PySem.W.keepIn K (.ref f6) = true)
    (a7 : PySem.W.nsIn K mainGlobals "_law_pick" = some (some (.ref f7)))
    (l7 : K.lookup f7 = some ⟨oc7, od7, .func (PySem.W.fnOf "_law_pick" "_law_pick" (defArgs sPick) (defBody sPick) (defScope sPick) .none kV7 dc7 pm7 an7 cd7 ct7), sl7⟩)
    (c7 : PySem.W.codeIn K cd7 "_law_pick" = true)
    (k7 : PySem.W.keepIn K (.ref f7) = true)
    (a8 : PySem.W.nsIn K mainGlobals "_law_names" = some (some (.ref f8)))
    (l8 : K.lookup f8 = some ⟨oc8, od8, .func (PySem.W.fnOf "_law_names" "_law_names" (defArgs sNames) (defBody sNames) (defScope sNames) .none kV8 dc8 pm8 an8 cd8 ct8), sl8⟩)
    (c8 : PySem.W.codeIn K cd8 "_law_names" = true)
    (k8 : PySem.W.keepIn K (.ref f8) = true)
    (a9 : PySem.W.nsIn K mainGlobals "_law_some" = some (some (.ref f9)))
    (l9 : K.lookup f9 = some ⟨oc9, od9, .func (PySem.W.fnOf "_law_some" "_law_some" (defArgs sSome) (defBody sSome) (defScope sSome) .none kV9 dc9 pm9 an9 cd9 ct9), sl9⟩)
    (c9 : PySem.W.codeIn K cd9 "_law_some" = true)
    (k9 : PySem.W.keepIn K (.ref f9) = true)
    (a10 : PySem.W.nsIn K mainGlobals "_law_rule" = some (some (.ref f10)))
    (l10 : K.lookup f10 = some ⟨oc10, od10, .func (PySem.W.fnOf "_law_rule" "_law_rule" (defArgs sRule) (defBody sRule) (defScope sRule) .none kV10 dc10 pm10 an10 cd10 ct10), sl10⟩)
    (c10 : PySem.W.codeIn K cd10 "_law_rule" = true)
    (k10 : PySem.W.keepIn K (.ref f10) = true)
    (a11 : PySem.W.nsIn K mainGlobals "_law_enter" = some (some (.ref f11)))
    (l11 : K.lookup f11 = some ⟨oc11, od11, .func (PySem.W.fnOf "_law_enter" "_law_enter" (defArgs sEnter) (defBody sEnter) (defScope sEnter) .none kV11 dc11 pm11 an11 cd11 ct11), sl11⟩)
    (c11 : PySem.W.codeIn K cd11 "_law_enter" = true)
    (k11 : PySem.W.keepIn K (.ref f11) = true)
    (a12 : PySem.W.nsIn K mainGlobals "_law_order" = some (some (.ref f12)))
    (l12 : K.lookup f12 = some ⟨oc12, od12, .func (PySem.W.fnOf "_law_order" "_law_order" (defArgs sOrder) (defBody sOrder) (defScope sOrder) .none kV12 dc12 pm12 an12 cd12 ct12), sl12⟩)
    (c12 : PySem.W.codeIn K cd12 "_law_order" = true)
    (k12 : PySem.W.keepIn K (.ref f12) = true)
    (a13 : PySem.W.nsIn K mainGlobals "_law_end" = some (some (.ref f13)))
    (l13 : K.lookup f13 = some ⟨oc13, od13, .func (PySem.W.fnOf "_law_end" "_law_end" (defArgs sEnd) (defBody sEnd) (defScope sEnd) .none kV13 dc13 pm13 an13 cd13 ct13), sl13⟩)
    (c13 : PySem.W.codeIn K cd13 "_law_end" = true)
    (k13 : PySem.W.keepIn K (.ref f13) = true)
    (a14 : PySem.W.nsIn K mainGlobals "_law_state" = some (some (.ref f14)))
    (l14 : K.lookup f14 = some ⟨oc14, od14, .func (PySem.W.fnOf "_law_state" "_law_state" (defArgs sState) (defBody sState) (defScope sState) .none kV14 dc14 pm14 an14 cd14 ct14), sl14⟩)
    (c14 : PySem.W.codeIn K cd14 "_law_state" = true)
    (k14 : PySem.W.keepIn K (.ref f14) = true)
    (a15 : PySem.W.nsIn K mainGlobals "_law_as_due" = some (some (.ref f15)))
    (l15 : K.lookup f15 = some ⟨oc15, od15, .func (PySem.W.fnOf "_law_as_due" "_law_as_due" (defArgs sAsDue) (defBody sAsDue) (defScope sAsDue) .none kV15 dc15 pm15 an15 cd15 ct15), sl15⟩)
    (c15 : PySem.W.codeIn K cd15 "_law_as_due" = true)
    (k15 : PySem.W.keepIn K (.ref f15) = true)
    (a16 : PySem.W.nsIn K mainGlobals "_law_step" = some (some (.ref f16)))
    (l16 : K.lookup f16 = some ⟨oc16, od16, .func (PySem.W.fnOf "_law_step" "_law_step" (defArgs sStep) (defBody sStep) (defScope sStep) .none kV16 dc16 pm16 an16 cd16 ct16), sl16⟩)
    (c16 : PySem.W.codeIn K cd16 "_law_step" = true)
    (k16 : PySem.W.keepIn K (.ref f16) = true)
    (a17 : PySem.W.nsIn K mainGlobals "_law_kind" = some (some (.ref f17)))
    (l17 : K.lookup f17 = some ⟨oc17, od17, .func (PySem.W.fnOf "_law_kind" "_law_kind" (defArgs sKind) (defBody sKind) (defScope sKind) .none kV17 dc17 pm17 an17 cd17 ct17), sl17⟩)
    (c17 : PySem.W.codeIn K cd17 "_law_kind" = true)
    (k17 : PySem.W.keepIn K (.ref f17) = true)
    (a18 : PySem.W.nsIn K mainGlobals "_law_caught" = some (some (.ref f18)))
    (l18 : K.lookup f18 = some ⟨oc18, od18, .func (PySem.W.fnOf "_law_caught" "_law_caught" (defArgs sCaught) (defBody sCaught) (defScope sCaught) .none kV18 dc18 pm18 an18 cd18 ct18), sl18⟩)
    (c18 : PySem.W.codeIn K cd18 "_law_caught" = true)
    (k18 : PySem.W.keepIn K (.ref f18) = true)
    (a19 : PySem.W.nsIn K mainGlobals "_law_bad_names" = some (some (.ref f19)))
    (l19 : K.lookup f19 = some ⟨oc19, od19, .func (PySem.W.fnOf "_law_bad_names" "_law_bad_names" (defArgs sBadNames) (defBody sBadNames) (defScope sBadNames) .none kV19 dc19 pm19 an19 cd19 ct19), sl19⟩)
    (c19 : PySem.W.codeIn K cd19 "_law_bad_names" = true)
    (k19 : PySem.W.keepIn K (.ref f19) = true)
    (a20 : PySem.W.nsIn K mainGlobals "_law_bad_finish" = some (some (.ref f20)))
    (l20 : K.lookup f20 = some ⟨oc20, od20, .func (PySem.W.fnOf "_law_bad_finish" "_law_bad_finish" (defArgs sBadFinish) (defBody sBadFinish) (defScope sBadFinish) .none kV20 dc20 pm20 an20 cd20 ct20), sl20⟩)
    (c20 : PySem.W.codeIn K cd20 "_law_bad_finish" = true)
    (k20 : PySem.W.keepIn K (.ref f20) = true)
    (a21 : PySem.W.nsIn K mainGlobals "_law_wrong_right" = some (some (.ref f21)))
    (l21 : K.lookup f21 = some ⟨oc21, od21, .func (PySem.W.fnOf "_law_wrong_right" "_law_wrong_right" (defArgs sWrong) (defBody sWrong) (defScope sWrong) .none kV21 dc21 pm21 an21 cd21 ct21), sl21⟩)
    (c21 : PySem.W.codeIn K cd21 "_law_wrong_right" = true)
    (k21 : PySem.W.keepIn K (.ref f21) = true)
    (a22 : PySem.W.nsIn K mainGlobals "_law_copy" = some (some (.ref f22)))
    (l22 : K.lookup f22 = some ⟨oc22, od22, .func (PySem.W.fnOf "_law_copy" "_law_copy" (defArgs sCopy) (defBody sCopy) (defScope sCopy) .none kV22 dc22 pm22 an22 cd22 ct22), sl22⟩)
    (c22 : PySem.W.codeIn K cd22 "_law_copy" = true)
    (k22 : PySem.W.keepIn K (.ref f22) = true)
    (a23 : PySem.W.nsIn K mainGlobals "_law_rule_right" = some (some (.ref f23)))
    (l23 : K.lookup f23 = some ⟨oc23, od23, .func (PySem.W.fnOf "_law_rule_right" "_law_rule_right" (defArgs sRuleRight) (defBody sRuleRight) (defScope sRuleRight) .none kV23 dc23 pm23 an23 cd23 ct23), sl23⟩)
    (c23 : PySem.W.codeIn K cd23 "_law_rule_right" = true)
    (k23 : PySem.W.keepIn K (.ref f23) = true)
    (a24 : PySem.W.nsIn K mainGlobals "law" = some (some (.ref f24)))
    (l24 : K.lookup f24 = some ⟨oc24, od24, .func (PySem.W.fnOf "law" "law" (defArgs sLaw) (defBody sLaw) (defScope sLaw) .none kV24 dc24 pm24 an24 cd24 ct24), sl24⟩)
    (c24 : PySem.W.codeIn K cd24 "law" = true)
    (k24 : PySem.W.keepIn K (.ref f24) = true)
    (z_len : PySem.W.nsIn K mainGlobals "len" = some none)
    (z_isinstance : PySem.W.nsIn K mainGlobals "isinstance" = some none)
    (z_int : PySem.W.nsIn K mainGlobals "int" = some none)
    (z_bool : PySem.W.nsIn K mainGlobals "bool" = some none)
    (z_tuple : PySem.W.nsIn K mainGlobals "tuple" = some none)
    (z_str : PySem.W.nsIn K mainGlobals "str" = some none)
    (z_range : PySem.W.nsIn K mainGlobals "range" = some none)
    (z_enumerate : PySem.W.nsIn K mainGlobals "enumerate" = some none)
    (z_list : PySem.W.nsIn K mainGlobals "list" = some none)
    (z_all : PySem.W.nsIn K mainGlobals "all" = some none)
    (z_min : PySem.W.nsIn K mainGlobals "min" = some none)
    (z_dict : PySem.W.nsIn K mainGlobals "dict" = some none)
    (aS : PySem.W.nsIn K mainGlobals "SlotError" = some (some (.ref S)))
    (iS : PySem.W.isClsIn K S = true)
    (hS : PySem.W.hasDictIn K S = true)
    (tS : PySem.W.typeIn K (.ref S) = some (.type "type"))
    (eS : PySem.W.subIn K (.ref S) (.type "BaseException") = some true)
    (spG : PySem.W.specialIn K (.builtin "object.__class__") "__get__" = some (some (.builtin "getset_descriptor.__get__")))
    (tkG : PySem.W.takesIn K (.builtin "object.__class__") = some true)
    (zVE : PySem.W.nsIn K mainGlobals "ValueError" = some none)
    (aE0 : PySem.W.nsIn K mainGlobals "NoJobs" = some (some (.ref E0)))
    (iE0 : PySem.W.isClsIn K E0 = true)
    (tE0 : PySem.W.typeIn K (.ref E0) = some (.type "type"))
    (aE1 : PySem.W.nsIn K mainGlobals "NoRule" = some (some (.ref E1)))
    (iE1 : PySem.W.isClsIn K E1 = true)
    (tE1 : PySem.W.typeIn K (.ref E1) = some (.type "type"))
    (aE2 : PySem.W.nsIn K mainGlobals "NoLengths" = some (some (.ref E2)))
    (iE2 : PySem.W.isClsIn K E2 = true)
    (tE2 : PySem.W.typeIn K (.ref E2) = some (.type "type"))
    (aE3 : PySem.W.nsIn K mainGlobals "NoLog" = some (some (.ref E3)))
    (iE3 : PySem.W.isClsIn K E3 = true)
    (tE3 : PySem.W.typeIn K (.ref E3) = some (.type "type"))
    (aE4 : PySem.W.nsIn K mainGlobals "NoMarks" = some (some (.ref E4)))
    (iE4 : PySem.W.isClsIn K E4 = true)
    (tE4 : PySem.W.typeIn K (.ref E4) = some (.type "type"))
    (aE5 : PySem.W.nsIn K mainGlobals "NoNamed" = some (some (.ref E5)))
    (iE5 : PySem.W.isClsIn K E5 = true)
    (tE5 : PySem.W.typeIn K (.ref E5) = some (.type "type"))
    (aE6 : PySem.W.nsIn K mainGlobals "NoOrder" = some (some (.ref E6)))
    (iE6 : PySem.W.isClsIn K E6 = true)
    (tE6 : PySem.W.typeIn K (.ref E6) = some (.type "type"))
    (aE7 : PySem.W.nsIn K mainGlobals "NoText" = some (some (.ref E7)))
    (iE7 : PySem.W.isClsIn K E7 = true)
    (tE7 : PySem.W.typeIn K (.ref E7) = some (.type "type"))
    (aE8 : PySem.W.nsIn K mainGlobals "NoNumber" = some (some (.ref E8)))
    (iE8 : PySem.W.isClsIn K E8 = true)
    (tE8 : PySem.W.typeIn K (.ref E8) = some (.type "type"))
    (aE9 : PySem.W.nsIn K mainGlobals "NoName" = some (some (.ref E9)))
    (iE9 : PySem.W.isClsIn K E9 = true)
    (tE9 : PySem.W.typeIn K (.ref E9) = some (.type "type"))
    (aE10 : PySem.W.nsIn K mainGlobals "NoUndo" = some (some (.ref E10)))
    (iE10 : PySem.W.isClsIn K E10 = true)
    (tE10 : PySem.W.typeIn K (.ref E10) = some (.type "type"))
    (aE11 : PySem.W.nsIn K mainGlobals "NoLine" = some (some (.ref E11)))
    (iE11 : PySem.W.isClsIn K E11 = true)
    (tE11 : PySem.W.typeIn K (.ref E11) = some (.type "type"))
    (x1_ : K.lookup E1 = some (excClassObj nm1 q1 E1 N1 bs1 [.ref S, .type "ValueError", .type "Exception", .type "BaseException", .type "object"] true sn1 sb1 ab1 col1 dd1 m01 m11 m21 m31 m51 "ValueError.__new__"))
    (sa1 : PySem.W.findIn K (.ref E1) "__setattr__" = some (some (.builtin "object.__setattr__")))
    (ga1 : PySem.W.findIn K (.ref E1) "__getattribute__" = some (some (.builtin "BaseException.__getattribute__")))
    (gg1 : PySem.W.findIn K (.ref E1) "__getattr__" = some none)
    (np1 : PySem.W.findIn K (.ref E1) "place" = some none)
    (in1 : PySem.W.findIn K (.ref E1) "__init__" = some (some (.ref fI1)))
    (ti1 : PySem.W.typeIn K (.ref fI1) = some (.type "function"))
    (li1 : K.lookup fI1 = some ⟨ocI1, odI1, .func (PySem.W.fnOf "__init__" "NoRule.__init__" (defArgs sRuleInit) (defBody sRuleInit) (defScope sRuleInit) .none kVI1 dcI1 pmI1 anI1 cdI1 ctI1), slI1⟩)
    (ci1 : PySem.W.codeIn K cdI1 "NoRule.__init__" = true)
    (ki1 : PySem.W.keepIn K (.ref fI1) = true)
    (kc1 : PySem.W.keepIn K (.ref E1) = true)
    (ec1 : PySem.W.subIn K (.ref E1) (.type "BaseException") = some true)
    (hc1 : PySem.W.hasDictIn K E1 = true)
    (cc1 : PySem.W.findIn K (.ref E1) "__class__" = some (some (.builtin "object.__class__")))
    (mc1 : PySem.W.mroIn K E1 (.type "object") = some true)
    (vc1 : PySem.W.subIn K (.ref E1) (.type "ValueError") = some true)
    (sc1 : PySem.W.subIn K (.ref E1) (.ref S) = some true)
    (s1_0 : PySem.W.subIn K (.ref E1) (.ref E0) = some false)
    (n1_0 : (Value.ref E1 == Value.ref E0) = false)
    (s1_2 : PySem.W.subIn K (.ref E1) (.ref E2) = some false)
    (n1_2 : (Value.ref E1 == Value.ref E2) = false)
    (s1_3 : PySem.W.subIn K (.ref E1) (.ref E3) = some false)
    (n1_3 : (Value.ref E1 == Value.ref E3) = false)
    (s1_4 : PySem.W.subIn K (.ref E1) (.ref E4) = some false)
    (n1_4 : (Value.ref E1 == Value.ref E4) = false)
    (s1_5 : PySem.W.subIn K (.ref E1) (.ref E5) = some false)
    (n1_5 : (Value.ref E1 == Value.ref E5) = false)
    (s1_6 : PySem.W.subIn K (.ref E1) (.ref E6) = some false)
    (n1_6 : (Value.ref E1 == Value.ref E6) = false)
    (s1_7 : PySem.W.subIn K (.ref E1) (.ref E7) = some false)
    (n1_7 : (Value.ref E1 == Value.ref E7) = false)
    (s1_8 : PySem.W.subIn K (.ref E1) (.ref E8) = some false)
    (n1_8 : (Value.ref E1 == Value.ref E8) = false)
    (s1_9 : PySem.W.subIn K (.ref E1) (.ref E9) = some false)
    (n1_9 : (Value.ref E1 == Value.ref E9) = false)
    (s1_10 : PySem.W.subIn K (.ref E1) (.ref E10) = some false)
    (n1_10 : (Value.ref E1 == Value.ref E10) = false)
    (s1_11 : PySem.W.subIn K (.ref E1) (.ref E11) = some false)
    (n1_11 : (Value.ref E1 == Value.ref E11) = false)
    (x9_ : K.lookup E9 = some (excClassObj nm9 q9 E9 N9 bs9 [.ref S, .type "ValueError", .type "Exception", .type "BaseException", .type "object"] true sn9 sb9 ab9 col9 dd9 m09 m19 m29 m39 m59 "ValueError.__new__"))
    (sa9 : PySem.W.findIn K (.ref E9) "__setattr__" = some (some (.builtin "object.__setattr__")))
    (ga9 : PySem.W.findIn K (.ref E9) "__getattribute__" = some (some (.builtin "BaseException.__getattribute__")))
    (gg9 : PySem.W.findIn K (.ref E9) "__getattr__" = some none)
    (np9 : PySem.W.findIn K (.ref E9) "name" = some none)
    (npp9 : PySem.W.findIn K (.ref E9) "place" = some none)
    (in9 : PySem.W.findIn K (.ref E9) "__init__" = some (some (.ref fI9)))
    (ti9 : PySem.W.typeIn K (.ref fI9) = some (.type "function"))
    (li9 : K.lookup fI9 = some ⟨ocI9, odI9, .func (PySem.W.fnOf "__init__" "NoName.__init__" (defArgs sNameInit) (defBody sNameInit) (defScope sNameInit) .none kVI9 dcI9 pmI9 anI9 cdI9 ctI9), slI9⟩)
    (ci9 : PySem.W.codeIn K cdI9 "NoName.__init__" = true)
    (ki9 : PySem.W.keepIn K (.ref fI9) = true)
    (kc9 : PySem.W.keepIn K (.ref E9) = true)
    (ec9 : PySem.W.subIn K (.ref E9) (.type "BaseException") = some true)
    (hc9 : PySem.W.hasDictIn K E9 = true)
    (cc9 : PySem.W.findIn K (.ref E9) "__class__" = some (some (.builtin "object.__class__")))
    (mc9 : PySem.W.mroIn K E9 (.type "object") = some true)
    (vc9 : PySem.W.subIn K (.ref E9) (.type "ValueError") = some true)
    (sc9 : PySem.W.subIn K (.ref E9) (.ref S) = some true)
    (s9_0 : PySem.W.subIn K (.ref E9) (.ref E0) = some false)
    (n9_0 : (Value.ref E9 == Value.ref E0) = false)
    (s9_1 : PySem.W.subIn K (.ref E9) (.ref E1) = some false)
    (n9_1 : (Value.ref E9 == Value.ref E1) = false)
    (s9_2 : PySem.W.subIn K (.ref E9) (.ref E2) = some false)
    (n9_2 : (Value.ref E9 == Value.ref E2) = false)
    (s9_3 : PySem.W.subIn K (.ref E9) (.ref E3) = some false)
    (n9_3 : (Value.ref E9 == Value.ref E3) = false)
    (s9_4 : PySem.W.subIn K (.ref E9) (.ref E4) = some false)
    (n9_4 : (Value.ref E9 == Value.ref E4) = false)
    (s9_5 : PySem.W.subIn K (.ref E9) (.ref E5) = some false)
    (n9_5 : (Value.ref E9 == Value.ref E5) = false)
    (s9_6 : PySem.W.subIn K (.ref E9) (.ref E6) = some false)
    (n9_6 : (Value.ref E9 == Value.ref E6) = false)
    (s9_7 : PySem.W.subIn K (.ref E9) (.ref E7) = some false)
    (n9_7 : (Value.ref E9 == Value.ref E7) = false)
    (s9_8 : PySem.W.subIn K (.ref E9) (.ref E8) = some false)
    (n9_8 : (Value.ref E9 == Value.ref E8) = false)
    (s9_10 : PySem.W.subIn K (.ref E9) (.ref E10) = some false)
    (n9_10 : (Value.ref E9 == Value.ref E10) = false)
    (s9_11 : PySem.W.subIn K (.ref E9) (.ref E11) = some false)
    (n9_11 : (Value.ref E9 == Value.ref E11) = false)
    (xi10 : PySem.W.excIn K E10 [.type "ValueError", .type "Exception", .type "BaseException", .type "object"] "ValueError.__new__" = true)
    (ga10 : PySem.W.findIn K (.ref E10) "__getattribute__" = some (some (.builtin "BaseException.__getattribute__")))
    (gg10 : PySem.W.findIn K (.ref E10) "__getattr__" = some none)
    (npp10 : PySem.W.findIn K (.ref E10) "place" = some none)
    (kc10 : PySem.W.keepIn K (.ref E10) = true)
    (ec10 : PySem.W.subIn K (.ref E10) (.type "BaseException") = some true)
    (hc10 : PySem.W.hasDictIn K E10 = true)
    (cc10 : PySem.W.findIn K (.ref E10) "__class__" = some (some (.builtin "object.__class__")))
    (mc10 : PySem.W.mroIn K E10 (.type "object") = some true)
    (vc10 : PySem.W.subIn K (.ref E10) (.type "ValueError") = some true)
    (sc10 : PySem.W.subIn K (.ref E10) (.ref S) = some true)
    (s10_0 : PySem.W.subIn K (.ref E10) (.ref E0) = some false)
    (n10_0 : (Value.ref E10 == Value.ref E0) = false)
    (s10_1 : PySem.W.subIn K (.ref E10) (.ref E1) = some false)
    (n10_1 : (Value.ref E10 == Value.ref E1) = false)
    (s10_2 : PySem.W.subIn K (.ref E10) (.ref E2) = some false)
    (n10_2 : (Value.ref E10 == Value.ref E2) = false)
    (s10_3 : PySem.W.subIn K (.ref E10) (.ref E3) = some false)
    (n10_3 : (Value.ref E10 == Value.ref E3) = false)
    (s10_4 : PySem.W.subIn K (.ref E10) (.ref E4) = some false)
    (n10_4 : (Value.ref E10 == Value.ref E4) = false)
    (s10_5 : PySem.W.subIn K (.ref E10) (.ref E5) = some false)
    (n10_5 : (Value.ref E10 == Value.ref E5) = false)
    (s10_6 : PySem.W.subIn K (.ref E10) (.ref E6) = some false)
    (n10_6 : (Value.ref E10 == Value.ref E6) = false)
    (s10_7 : PySem.W.subIn K (.ref E10) (.ref E7) = some false)
    (n10_7 : (Value.ref E10 == Value.ref E7) = false)
    (s10_8 : PySem.W.subIn K (.ref E10) (.ref E8) = some false)
    (n10_8 : (Value.ref E10 == Value.ref E8) = false)
    (s10_9 : PySem.W.subIn K (.ref E10) (.ref E9) = some false)
    (n10_9 : (Value.ref E10 == Value.ref E9) = false)
    (s10_11 : PySem.W.subIn K (.ref E10) (.ref E11) = some false)
    (n10_11 : (Value.ref E10 == Value.ref E11) = false)
    (aN : PySem.W.nsIn K mainGlobals "is_name" = some (some (.ref fN)))
    (lN : K.lookup fN = some ⟨ocN, odN, .func (PySem.W.fnOf "is_name" "is_name" (defArgs sName) (defBody sName) (defScope sName) .none kVN dcN pmN anN (.ref cN) ctN), slN⟩)
    (cNf : PySem.W.codeIn K (.ref cN) "is_name" = true)
    (kNf : PySem.W.keepIn K (.ref fN) = true)
    (hcN : K.lookup cN = some ⟨eN, ddN, .fields vsN, scN⟩)
    (hvN : (vsN[11]? : Option Value) = some (.ref PN))
    (nPN : K.lookup PN = none)
    (aML : PySem.W.nsIn K mainGlobals "MOST_LEVELS" = some (some (.int 6 tML)))
    (g_Board : PySem.W.nsIn K mainGlobals "Board" = some (some (.ref (He.ga K "Board"))))
    (cl_Board : (He.Fa.cls "Board").ok K = true)
    (mk_Board : (He.Fa.mkr "Board").ok K = true)
    (no_Board_rule : (He.Fa.noat "Board" "rule").ok K = true)
    (no_Board_processors : (He.Fa.noat "Board" "processors").ok K = true)
    (no_Board_now : (He.Fa.noat "Board" "now").ok K = true)
    (no_Board_lines : (He.Fa.noat "Board" "lines").ok K = true)
    (no_Board_used : (He.Fa.noat "Board" "used").ok K = true)
    (no_Board_ran : (He.Fa.noat "Board" "ran").ok K = true)
    (no_Board_finishes : (He.Fa.noat "Board" "finishes").ok K = true)
    (fw_Board___init__ : ∃ fd, FunD K "__init__" "Board.__init__" (defArgs sBdInit) (defBody sBdInit) (defScope sBdInit) [] [] (mA K "Board" "__init__") fd)
    (me_Board_copied : (He.Fa.meth "Board" "copied").ok K = true)
    (fw_Board_copied : ∃ fd, FunD K "copied" "Board.copied" (defArgs sBdCopied) (defBody sBdCopied) (defScope sBdCopied) [] [] (mA K "Board" "copied") fd)
    (me_Board_enter : (He.Fa.meth "Board" "enter").ok K = true)
    (fw_Board_enter : ∃ fd, FunD K "enter" "Board.enter" (defArgs sBdEnter) (defBody sBdEnter) (defScope sBdEnter) [] [] (mA K "Board" "enter") fd)
    (me_Board_order : (He.Fa.meth "Board" "order").ok K = true)
    (fw_Board_order : ∃ fd, FunD K "order" "Board.order" (defArgs sBdOrder) (defBody sBdOrder) (defScope sBdOrder) [] [] (mA K "Board" "order") fd)
    (me_Board_running : (He.Fa.meth "Board" "running").ok K = true)
    (fw_Board_running : ∃ fd, FunD K "running" "Board.running" (defArgs sBdRunning) (defBody sBdRunning) (defScope sBdRunning) [] [] (mA K "Board" "running") fd)
    (me_Board_level_of : (He.Fa.meth "Board" "level_of").ok K = true)
    (fw_Board_level_of : ∃ fd, FunD K "level_of" "Board.level_of" (defArgs sBdLevelOf) (defBody sBdLevelOf) (defScope sBdLevelOf) [] [] (mA K "Board" "level_of") fd)
    (me_Board_end_units : (He.Fa.meth "Board" "end_units").ok K = true)
    (fw_Board_end_units : ∃ fd, FunD K "end_units" "Board.end_units" (defArgs sBdEndUnits) (defBody sBdEndUnits) (defScope sBdEndUnits) [] [] (mA K "Board" "end_units") fd)
    (me_Board_end_quanta : (He.Fa.meth "Board" "end_quanta").ok K = true)
    (fw_Board_end_quanta : ∃ fd, FunD K "end_quanta" "Board.end_quanta" (defArgs sBdEndQuanta) (defBody sBdEndQuanta) (defScope sBdEndQuanta) [] [] (mA K "Board" "end_quanta") fd)
    (me_Board_lift : (He.Fa.meth "Board" "lift").ok K = true)
    (fw_Board_lift : ∃ fd, FunD K "lift" "Board.lift" (defArgs sBdLift) (defBody sBdLift) (defScope sBdLift) [] [] (mA K "Board" "lift") fd)
    (me_Board_log : (He.Fa.meth "Board" "log").ok K = true)
    (fw_Board_log : ∃ fd, FunD K "log" "Board.log" (defArgs sBdLog) (defBody sBdLog) (defScope sBdLog) [] [] (mA K "Board" "log") fd)
    (me_Board_lengths : (He.Fa.meth "Board" "lengths").ok K = true)
    (fw_Board_lengths : ∃ fd, FunD K "lengths" "Board.lengths" (defArgs sBdLengths) (defBody sBdLengths) (defScope sBdLengths) [] [] (mA K "Board" "lengths") fd)
    (g_Bench : PySem.W.nsIn K mainGlobals "Bench" = some (some (.ref (He.ga K "Bench"))))
    (cl_Bench : (He.Fa.cls "Bench").ok K = true)
    (mk_Bench : (He.Fa.mkr "Bench").ok K = true)
    (no_Bench__board : (He.Fa.noat "Bench" "_board").ok K = true)
    (no_Bench__past : (He.Fa.noat "Bench" "_past").ok K = true)
    (fw_Bench___init__ : ∃ fd, FunD K "__init__" "Bench.__init__" (defArgs sBnInit) (defBody sBnInit) (defScope sBnInit) [] [("processors", .int 1)] (mA K "Bench" "__init__") fd)
    (me_Bench_arrive : (He.Fa.meth "Bench" "arrive").ok K = true)
    (fw_Bench_arrive : ∃ fd, FunD K "arrive" "Bench.arrive" (defArgs sBnArrive) (defBody sBnArrive) (defScope sBnArrive) [] [("entry", .int 0)] (mA K "Bench" "arrive") fd)
    (me_Bench_end_unit : (He.Fa.meth "Bench" "end_unit").ok K = true)
    (fw_Bench_end_unit : ∃ fd, FunD K "end_unit" "Bench.end_unit" (defArgs sBnEnd) (defBody sBnEnd) (defScope sBnEnd) [.ref (He.dflAt ("Bench", some "end_unit") 0 K)] [] (mA K "Bench" "end_unit") fd)
    (me_Bench_undo : (He.Fa.meth "Bench" "undo").ok K = true)
    (fw_Bench_undo : ∃ fd, FunD K "undo" "Bench.undo" (defArgs sBnUndo) (defBody sBnUndo) (defScope sBnUndo) [] [] (mA K "Bench" "undo") fd)
    (me_Bench_moment : (He.Fa.meth "Bench" "moment").ok K = true)
    (fw_Bench_moment : ∃ fd, FunD K "moment" "Bench.moment" (defArgs sBnMoment) (defBody sBnMoment) (defScope sBnMoment) [] [] (mA K "Bench" "moment") fd)
    (me_Bench_running : (He.Fa.meth "Bench" "running").ok K = true)
    (fw_Bench_running : ∃ fd, FunD K "running" "Bench.running" (defArgs sBnRunning) (defBody sBnRunning) (defScope sBnRunning) [] [] (mA K "Bench" "running") fd)
    (me_Bench_state : (He.Fa.meth "Bench" "state").ok K = true)
    (fw_Bench_state : ∃ fd, FunD K "state" "Bench.state" (defArgs sBnState) (defBody sBnState) (defScope sBnState) [] [] (mA K "Bench" "state") fd)
    (me_Bench_lengths : (He.Fa.meth "Bench" "lengths").ok K = true)
    (fw_Bench_lengths : ∃ fd, FunD K "lengths" "Bench.lengths" (defArgs sBnLengths) (defBody sBnLengths) (defScope sBnLengths) [] [] (mA K "Bench" "lengths") fd)
    (me_Bench_log : (He.Fa.meth "Bench" "log").ok K = true)
    (fw_Bench_log : ∃ fd, FunD K "log" "Bench.log" (defArgs sBnLog) (defBody sBnLog) (defScope sBnLog) [] [] (mA K "Bench" "log") fd)
    : LawTab l w K mg fa := by
  have D0 : Df K mg "is_integer" sInteger ["value", "least"] := by
    have F := fun_mk (st := sInteger) l0 c0 k0
    exact ⟨_, _, PySem.W.mg_of X G a0, F, F.binds (ps := ["value", "least"]) fun _ _ _ _ _ _ us hl => match us, hl with | [_, _], _ => rfl⟩
  have D1 : Df K mg "is_tuple_of" sTupleOf ["value", "many"] := by
    have F := fun_mk (st := sTupleOf) l1 c1 k1
    exact ⟨_, _, PySem.W.mg_of X G a1, F, F.binds (ps := ["value", "many"]) fun _ _ _ _ _ _ us hl => match us, hl with | [_, _], _ => rfl⟩
  have D2 : Df K mg "check_rule" sCheck ["rule"] := by
    have F := fun_mk (st := sCheck) l2 c2 k2
    exact ⟨_, _, PySem.W.mg_of X G a2, F, F.binds (ps := ["rule"]) fun _ _ _ _ _ _ us hl => match us, hl with | [_], _ => rfl⟩
  have D3 : Df K mg "is_level" sLevel ["level"] := by
    have F := fun_mk (st := sLevel) l3 c3 k3
    exact ⟨_, _, PySem.W.mg_of X G a3, F, F.binds (ps := ["level"]) fun _ _ _ _ _ _ us hl => match us, hl with | [_], _ => rfl⟩
  have D4 : Df K mg "is_count" sCount ["value"] := by
    have F := fun_mk (st := sCount) l4 c4 k4
    exact ⟨_, _, PySem.W.mg_of X G a4, F, F.binds (ps := ["value"]) fun _ _ _ _ _ _ us hl => match us, hl with | [_], _ => rfl⟩
  have D5 : Df K mg "_law_mix" sMix ["number", "turn"] := by
    have F := fun_mk (st := sMix) l5 c5 k5
    exact ⟨_, _, PySem.W.mg_of X G a5, F, F.binds (ps := ["number", "turn"]) fun _ _ _ _ _ _ us hl => match us, hl with | [_, _], _ => rfl⟩
  have D6 : Df K mg "_law_store" sStore ["script"] := by
    have F := fun_mk (st := sStore) l6 c6 k6
    exact ⟨_, _, PySem.W.mg_of X G a6, F, F.binds (ps := ["script"]) fun _ _ _ _ _ _ us hl => match us, hl with | [_], _ => rfl⟩
  have D7 : Df K mg "_law_pick" sPick ["store", "count"] := by
    have F := fun_mk (st := sPick) l7 c7 k7
    exact ⟨_, _, PySem.W.mg_of X G a7, F, F.binds (ps := ["store", "count"]) fun _ _ _ _ _ _ us hl => match us, hl with | [_, _], _ => rfl⟩
  have D8 : Df K mg "_law_names" sNames ["store", "count"] := by
    have F := fun_mk (st := sNames) l8 c8 k8
    exact ⟨_, _, PySem.W.mg_of X G a8, F, F.binds (ps := ["store", "count"]) fun _ _ _ _ _ _ us hl => match us, hl with | [_, _], _ => rfl⟩
  have D9 : Df K mg "_law_some" sSome ["store", "names"] := by
    have F := fun_mk (st := sSome) l9 c9 k9
    exact ⟨_, _, PySem.W.mg_of X G a9, F, F.binds (ps := ["store", "names"]) fun _ _ _ _ _ _ us hl => match us, hl with | [_, _], _ => rfl⟩
  have D10 : Df K mg "_law_rule" sRule ["store"] := by
    have F := fun_mk (st := sRule) l10 c10 k10
    exact ⟨_, _, PySem.W.mg_of X G a10, F, F.binds (ps := ["store"]) fun _ _ _ _ _ _ us hl => match us, hl with | [_], _ => rfl⟩
  have D11 : Df K mg "_law_enter" sEnter ["lines", "plan", "name", "door"] := by
    have F := fun_mk (st := sEnter) l11 c11 k11
    exact ⟨_, _, PySem.W.mg_of X G a11, F, F.binds (ps := ["lines", "plan", "name", "door"]) fun _ _ _ _ _ _ us hl => match us, hl with | [_, _, _, _], _ => rfl⟩
  have D12 : Df K mg "_law_order" sOrder ["lines"] := by
    have F := fun_mk (st := sOrder) l12 c12 k12
    exact ⟨_, _, PySem.W.mg_of X G a12, F, F.binds (ps := ["lines"]) fun _ _ _ _ _ _ us hl => match us, hl with | [_], _ => rfl⟩
  have D13 : Df K mg "_law_end" sEnd ["lines", "policy", "moment", "active", "finishing"] := by
    have F := fun_mk (st := sEnd) l13 c13 k13
    exact ⟨_, _, PySem.W.mg_of X G a13, F, F.binds (ps := ["lines", "policy", "moment", "active", "finishing"]) fun _ _ _ _ _ _ us hl => match us, hl with | [_, _, _, _, _], _ => rfl⟩
  have D14 : Df K mg "_law_state" sState ["lines"] := by
    have F := fun_mk (st := sState) l14 c14 k14
    exact ⟨_, _, PySem.W.mg_of X G a14, F, F.binds (ps := ["lines"]) fun _ _ _ _ _ _ us hl => match us, hl with | [_], _ => rfl⟩
  have D15 : Df K mg "_law_as_due" sAsDue ["bench", "lines", "cores", "facts"] := by
    have F := fun_mk (st := sAsDue) l15 c15 k15
    exact ⟨_, _, PySem.W.mg_of X G a15, F, F.binds (ps := ["bench", "lines", "cores", "facts"]) fun _ _ _ _ _ _ us hl => match us, hl with | [_, _, _, _], _ => rfl⟩
  have D16 : Df K mg "_law_step" sStep ["store", "bench", "lines", "policy", "cores", "facts", "names"] := by
    have F := fun_mk (st := sStep) l16 c16 k16
    exact ⟨_, _, PySem.W.mg_of X G a16, F, F.binds (ps := ["store", "bench", "lines", "policy", "cores", "facts", "names"]) fun _ _ _ _ _ _ us hl => match us, hl with | [_, _, _, _, _, _, _], _ => rfl⟩
  have D17 : Df K mg "_law_kind" sKind ["caught"] := by
    have F := fun_mk (st := sKind) l17 c17 k17
    exact ⟨_, _, PySem.W.mg_of X G a17, F, F.binds (ps := ["caught"]) fun _ _ _ _ _ _ us hl => match us, hl with | [_], _ => rfl⟩
  have D18 : Df K mg "_law_caught" sCaught ["bench", "way", "what"] := by
    have F := fun_mk (st := sCaught) l18 c18 k18
    exact ⟨_, _, PySem.W.mg_of X G a18, F, F.binds (ps := ["bench", "way", "what"]) fun _ _ _ _ _ _ us hl => match us, hl with | [_, _, _], _ => rfl⟩
  have D19 : Df K mg "_law_bad_names" sBadNames ["store", "lines", "facts"] := by
    have F := fun_mk (st := sBadNames) l19 c19 k19
    exact ⟨_, _, PySem.W.mg_of X G a19, F, F.binds (ps := ["store", "lines", "facts"]) fun _ _ _ _ _ _ us hl => match us, hl with | [_, _, _], _ => rfl⟩
  have D20 : Df K mg "_law_bad_finish" sBadFinish ["store", "lines", "cores", "facts"] := by
    have F := fun_mk (st := sBadFinish) l20 c20 k20
    exact ⟨_, _, PySem.W.mg_of X G a20, F, F.binds (ps := ["store", "lines", "cores", "facts"]) fun _ _ _ _ _ _ us hl => match us, hl with | [_, _, _, _], _ => rfl⟩
  have D21 : Df K mg "_law_wrong_right" sWrong ["store", "bench", "lines", "cores", "facts"] := by
    have F := fun_mk (st := sWrong) l21 c21 k21
    exact ⟨_, _, PySem.W.mg_of X G a21, F, F.binds (ps := ["store", "bench", "lines", "cores", "facts"]) fun _ _ _ _ _ _ us hl => match us, hl with | [_, _, _, _, _], _ => rfl⟩
  have D22 : Df K mg "_law_copy" sCopy ["lines", "facts", "names"] := by
    have F := fun_mk (st := sCopy) l22 c22 k22
    exact ⟨_, _, PySem.W.mg_of X G a22, F, F.binds (ps := ["lines", "facts", "names"]) fun _ _ _ _ _ _ us hl => match us, hl with | [_, _, _], _ => rfl⟩
  have D23 : Df K mg "_law_rule_right" sRuleRight ["store"] := by
    have F := fun_mk (st := sRuleRight) l23 c23 k23
    exact ⟨_, _, PySem.W.mg_of X G a23, F, F.binds (ps := ["store"]) fun _ _ _ _ _ _ us hl => match us, hl with | [_], _ => rfl⟩
  have D24 : Df K mg "law" sLaw ["script"] := by
    have F := fun_mk (st := sLaw) l24 c24 k24
    exact ⟨_, _, PySem.W.mg_of X G a24, F, F.binds (ps := ["script"]) fun _ _ _ _ _ _ us hl => match us, hl with | [_], _ => rfl⟩
  have oex1 : OexC K E1 := ⟨⟨_, _, _, _, _, _, _, _, _, _, _, _, _, _, _, x1_, rfl⟩, sa1, ec1, tE1, kc1⟩
  have exc1 : ExcC K E1 := ⟨ga1, gg1, ec1, hc1, cc1, spG, tkG, mc1⟩
  have xfc1 : XfC K E1 := ⟨ga1, gg1, ec1, hc1⟩
  have nit1 : Nit K "NoRule" "NoRule.__init__" "place" sRuleInit E1 := by
    have F : Fun K "__init__" "NoRule.__init__" sRuleInit fI1 _ := fun_mk (st := sRuleInit) li1 ci1 ki1
    exact ⟨_, _, in1, ti1, F, F.binds (ps := ["self", "place"]) fun _ _ _ _ _ _ us hl => match us, hl with | [_, _], _ => rfl⟩
  have kn1 : Kn K mg E1 1 := ⟨exc1, xfc1, np1, PySem.W.mg_none_of X G zVE, kit_ve vc1, ⟨S, PySem.W.mg_of X G aS, kit_sub iS tS sc1, PySem.W.exm_ref eS hS tS sc1⟩,
    ⟨_, PySem.W.mg_of X G aE0, by rw [kit_ref n1_0 iE0 tE0 s1_0]; rfl⟩,
    ⟨_, PySem.W.mg_of X G aE1, by rw [kit_same]; rfl⟩,
    ⟨_, PySem.W.mg_of X G aE2, by rw [kit_ref n1_2 iE2 tE2 s1_2]; rfl⟩,
    ⟨_, PySem.W.mg_of X G aE3, by rw [kit_ref n1_3 iE3 tE3 s1_3]; rfl⟩,
    ⟨_, PySem.W.mg_of X G aE4, by rw [kit_ref n1_4 iE4 tE4 s1_4]; rfl⟩,
    ⟨_, PySem.W.mg_of X G aE5, by rw [kit_ref n1_5 iE5 tE5 s1_5]; rfl⟩,
    ⟨_, PySem.W.mg_of X G aE6, by rw [kit_ref n1_6 iE6 tE6 s1_6]; rfl⟩,
    ⟨_, PySem.W.mg_of X G aE7, by rw [kit_ref n1_7 iE7 tE7 s1_7]; rfl⟩,
    ⟨_, PySem.W.mg_of X G aE8, by rw [kit_ref n1_8 iE8 tE8 s1_8]; rfl⟩,
    ⟨_, PySem.W.mg_of X G aE9, by rw [kit_ref n1_9 iE9 tE9 s1_9]; rfl⟩,
    ⟨_, PySem.W.mg_of X G aE10, by rw [kit_ref n1_10 iE10 tE10 s1_10]; rfl⟩,
    ⟨_, PySem.W.mg_of X G aE11, by rw [kit_ref n1_11 iE11 tE11 s1_11]; rfl⟩⟩
  have oex9 : OexC K E9 := ⟨⟨_, _, _, _, _, _, _, _, _, _, _, _, _, _, _, x9_, rfl⟩, sa9, ec9, tE9, kc9⟩
  have exc9 : ExcC K E9 := ⟨ga9, gg9, ec9, hc9, cc9, spG, tkG, mc9⟩
  have xfc9 : XfC K E9 := ⟨ga9, gg9, ec9, hc9⟩
  have nit9 : Nit K "NoName" "NoName.__init__" "name" sNameInit E9 := by
    have F : Fun K "__init__" "NoName.__init__" sNameInit fI9 _ := fun_mk (st := sNameInit) li9 ci9 ki9
    exact ⟨_, _, in9, ti9, F, F.binds (ps := ["self", "name"]) fun _ _ _ _ _ _ us hl => match us, hl with | [_, _], _ => rfl⟩
  have kn9 : Kn K mg E9 9 := ⟨exc9, xfc9, npp9, PySem.W.mg_none_of X G zVE, kit_ve vc9, ⟨S, PySem.W.mg_of X G aS, kit_sub iS tS sc9, PySem.W.exm_ref eS hS tS sc9⟩,
    ⟨_, PySem.W.mg_of X G aE0, by rw [kit_ref n9_0 iE0 tE0 s9_0]; rfl⟩,
    ⟨_, PySem.W.mg_of X G aE1, by rw [kit_ref n9_1 iE1 tE1 s9_1]; rfl⟩,
    ⟨_, PySem.W.mg_of X G aE2, by rw [kit_ref n9_2 iE2 tE2 s9_2]; rfl⟩,
    ⟨_, PySem.W.mg_of X G aE3, by rw [kit_ref n9_3 iE3 tE3 s9_3]; rfl⟩,
    ⟨_, PySem.W.mg_of X G aE4, by rw [kit_ref n9_4 iE4 tE4 s9_4]; rfl⟩,
    ⟨_, PySem.W.mg_of X G aE5, by rw [kit_ref n9_5 iE5 tE5 s9_5]; rfl⟩,
    ⟨_, PySem.W.mg_of X G aE6, by rw [kit_ref n9_6 iE6 tE6 s9_6]; rfl⟩,
    ⟨_, PySem.W.mg_of X G aE7, by rw [kit_ref n9_7 iE7 tE7 s9_7]; rfl⟩,
    ⟨_, PySem.W.mg_of X G aE8, by rw [kit_ref n9_8 iE8 tE8 s9_8]; rfl⟩,
    ⟨_, PySem.W.mg_of X G aE9, by rw [kit_same]; rfl⟩,
    ⟨_, PySem.W.mg_of X G aE10, by rw [kit_ref n9_10 iE10 tE10 s9_10]; rfl⟩,
    ⟨_, PySem.W.mg_of X G aE11, by rw [kit_ref n9_11 iE11 tE11 s9_11]; rfl⟩⟩
  have exc10 : ExcC K E10 := ⟨ga10, gg10, ec10, hc10, cc10, spG, tkG, mc10⟩
  have xfc10 : XfC K E10 := ⟨ga10, gg10, ec10, hc10⟩
  have kn10 : Kn K mg E10 10 := ⟨exc10, xfc10, npp10, PySem.W.mg_none_of X G zVE, kit_ve vc10, ⟨S, PySem.W.mg_of X G aS, kit_sub iS tS sc10, PySem.W.exm_ref eS hS tS sc10⟩,
    ⟨_, PySem.W.mg_of X G aE0, by rw [kit_ref n10_0 iE0 tE0 s10_0]; rfl⟩,
    ⟨_, PySem.W.mg_of X G aE1, by rw [kit_ref n10_1 iE1 tE1 s10_1]; rfl⟩,
    ⟨_, PySem.W.mg_of X G aE2, by rw [kit_ref n10_2 iE2 tE2 s10_2]; rfl⟩,
    ⟨_, PySem.W.mg_of X G aE3, by rw [kit_ref n10_3 iE3 tE3 s10_3]; rfl⟩,
    ⟨_, PySem.W.mg_of X G aE4, by rw [kit_ref n10_4 iE4 tE4 s10_4]; rfl⟩,
    ⟨_, PySem.W.mg_of X G aE5, by rw [kit_ref n10_5 iE5 tE5 s10_5]; rfl⟩,
    ⟨_, PySem.W.mg_of X G aE6, by rw [kit_ref n10_6 iE6 tE6 s10_6]; rfl⟩,
    ⟨_, PySem.W.mg_of X G aE7, by rw [kit_ref n10_7 iE7 tE7 s10_7]; rfl⟩,
    ⟨_, PySem.W.mg_of X G aE8, by rw [kit_ref n10_8 iE8 tE8 s10_8]; rfl⟩,
    ⟨_, PySem.W.mg_of X G aE9, by rw [kit_ref n10_9 iE9 tE9 s10_9]; rfl⟩,
    ⟨_, PySem.W.mg_of X G aE10, by rw [kit_same]; rfl⟩,
    ⟨_, PySem.W.mg_of X G aE11, by rw [kit_ref n10_11 iE11 tE11 s10_11]; rfl⟩⟩
  have DN : DfC K mg "is_name" sName ["value"] cN := by
    have F : Fun K "is_name" "is_name" sName fN _ := fun_mk (st := sName) lN cNf kNf
    exact ⟨fN, ocN, odN, kVN, dcN, pmN, anN, ctN, slN, PySem.W.mg_of X G aN, lN, cNf, kNf, F.binds (ps := ["value"]) fun _ _ _ _ _ _ us hl => match us, hl with | [_], _ => rfl⟩
  have tN : PySem.W.tabIn K "is_name" = some (cN, PN) := by
    unfold PySem.W.tabIn
    rw [aN]
    dsimp only
    rw [lN]
    dsimp only [PySem.W.fnOf]
    rw [hcN]
    dsimp only
    rw [hvN]
  have M_Board_copied : MDf K (He.ga K "Board") "copied" "Board.copied" sBdCopied ["self"] := mdf_mk (He.meth_ok me_Board_copied) fw_Board_copied fun _ _ _ _ _ _ us hl => match us, hl with | [_], _ => rfl
  have M_Board_enter : MDf K (He.ga K "Board") "enter" "Board.enter" sBdEnter ["self", "name", "entry"] := mdf_mk (He.meth_ok me_Board_enter) fw_Board_enter fun _ _ _ _ _ _ us hl => match us, hl with | [_, _, _], _ => rfl
  have M_Board_order : MDf K (He.ga K "Board") "order" "Board.order" sBdOrder ["self"] := mdf_mk (He.meth_ok me_Board_order) fw_Board_order fun _ _ _ _ _ _ us hl => match us, hl with | [_], _ => rfl
  have M_Board_running : MDf K (He.ga K "Board") "running" "Board.running" sBdRunning ["self"] := mdf_mk (He.meth_ok me_Board_running) fw_Board_running fun _ _ _ _ _ _ us hl => match us, hl with | [_], _ => rfl
  have M_Board_level_of : MDf K (He.ga K "Board") "level_of" "Board.level_of" sBdLevelOf ["self", "name"] := mdf_mk (He.meth_ok me_Board_level_of) fw_Board_level_of fun _ _ _ _ _ _ us hl => match us, hl with | [_, _], _ => rfl
  have M_Board_end_units : MDf K (He.ga K "Board") "end_units" "Board.end_units" sBdEndUnits ["self", "units", "finishing"] := mdf_mk (He.meth_ok me_Board_end_units) fw_Board_end_units fun _ _ _ _ _ _ us hl => match us, hl with | [_, _, _], _ => rfl
  have M_Board_end_quanta : MDf K (He.ga K "Board") "end_quanta" "Board.end_quanta" sBdEndQuanta ["self", "names"] := mdf_mk (He.meth_ok me_Board_end_quanta) fw_Board_end_quanta fun _ _ _ _ _ _ us hl => match us, hl with | [_, _], _ => rfl
  have M_Board_lift : MDf K (He.ga K "Board") "lift" "Board.lift" sBdLift ["self"] := mdf_mk (He.meth_ok me_Board_lift) fw_Board_lift fun _ _ _ _ _ _ us hl => match us, hl with | [_], _ => rfl
  have M_Board_log : MDf K (He.ga K "Board") "log" "Board.log" sBdLog ["self"] := mdf_mk (He.meth_ok me_Board_log) fw_Board_log fun _ _ _ _ _ _ us hl => match us, hl with | [_], _ => rfl
  have M_Board_lengths : MDf K (He.ga K "Board") "lengths" "Board.lengths" sBdLengths ["self"] := mdf_mk (He.meth_ok me_Board_lengths) fw_Board_lengths fun _ _ _ _ _ _ us hl => match us, hl with | [_], _ => rfl
  have M_Bench_arrive : MDfK K (He.ga K "Bench") "arrive" "Bench.arrive" sBnArrive ["self", "name"] "entry" (.int 0) := mdfk_mk (He.meth_ok me_Bench_arrive) fw_Bench_arrive (fun _ _ _ _ _ _ _ _ _ => rfl) (fun _ _ _ _ _ _ _ _ _ => ⟨_, _, _, _, _, _, rfl, rfl, rfl⟩)
  have M_Bench_end_unit : MDfP K (He.ga K "Bench") "end_unit" "Bench.end_unit" sBnEnd ["self", "finishing"] (.ref (He.dflAt ("Bench", some "end_unit") 0 K)) := mdfp_mk (He.meth_ok me_Bench_end_unit) fw_Bench_end_unit (fun _ _ _ _ _ _ _ _ _ _ => ⟨_, rfl, rfl⟩) (fun _ _ _ _ _ _ _ _ _ => ⟨_, rfl, rfl⟩)
  have M_Bench_undo : MDf K (He.ga K "Bench") "undo" "Bench.undo" sBnUndo ["self"] := mdf_mk (He.meth_ok me_Bench_undo) fw_Bench_undo fun _ _ _ _ _ _ us hl => match us, hl with | [_], _ => rfl
  have M_Bench_moment : MDf K (He.ga K "Bench") "moment" "Bench.moment" sBnMoment ["self"] := mdf_mk (He.meth_ok me_Bench_moment) fw_Bench_moment fun _ _ _ _ _ _ us hl => match us, hl with | [_], _ => rfl
  have M_Bench_running : MDf K (He.ga K "Bench") "running" "Bench.running" sBnRunning ["self"] := mdf_mk (He.meth_ok me_Bench_running) fw_Bench_running fun _ _ _ _ _ _ us hl => match us, hl with | [_], _ => rfl
  have M_Bench_state : MDf K (He.ga K "Bench") "state" "Bench.state" sBnState ["self"] := mdf_mk (He.meth_ok me_Bench_state) fw_Bench_state fun _ _ _ _ _ _ us hl => match us, hl with | [_], _ => rfl
  have M_Bench_lengths : MDf K (He.ga K "Bench") "lengths" "Bench.lengths" sBnLengths ["self"] := mdf_mk (He.meth_ok me_Bench_lengths) fw_Bench_lengths fun _ _ _ _ _ _ us hl => match us, hl with | [_], _ => rfl
  have M_Bench_log : MDf K (He.ga K "Bench") "log" "Bench.log" sBnLog ["self"] := mdf_mk (He.meth_ok me_Bench_log) fw_Bench_log fun _ _ _ _ _ _ us hl => match us, hl with | [_], _ => rfl
  have B : Blt mg := ⟨PySem.W.mg_none_of X G z_len, PySem.W.mg_none_of X G z_isinstance, PySem.W.mg_none_of X G z_int, PySem.W.mg_none_of X G z_bool, PySem.W.mg_none_of X G z_tuple, PySem.W.mg_none_of X G z_str, PySem.W.mg_none_of X G z_range, PySem.W.mg_none_of X G z_enumerate, PySem.W.mg_none_of X G z_list⟩
  have F := fun_mk (st := sLaw) l24 c24 k24
  have e := hfa.symm.trans (PySem.W.mg_of X G a24)
  cases e
  refine ⟨PySem.W.fnOf "law" "law" (defArgs sLaw) (defBody sLaw) (defScope sLaw) .none kV24 dc24 pm24 an24 cd24 ct24, cN, PN, tN, nPN, fun s v => .of_eq rfl, fun base _ _ TB => ?_⟩
  have cI := ok_integer (P := l.prog) (w := w) (mg := mg) (base := base) D0 B
  have cT := ok_tupleOf (P := l.prog) (w := w) (mg := mg) (base := base) D1 B
  have cN' := ok_name (P := l.prog) (w := w) (mg := mg) (base := base) DN TB B (PySem.W.mg_none_of X G z_all)
  have cCn := ok_count (P := l.prog) (w := w) (mg := mg) (base := base) D4 cI
  have cLv := ok_level (P := l.prog) (w := w) (mg := mg) (base := base) D3 cT cCn
  have erR := erc_rule (P := l.prog) (w := w) (mg := mg) (base := base) (PySem.W.mg_of X G aE1) oex1 np1 nit1
  have ml : ∃ u, mg "MOST_LEVELS" = some u ∧ RelV (.int 6) u := ⟨_, PySem.W.mg_of X G aML, ⟨tML, rfl⟩⟩
  have cCR := ok_check (P := l.prog) (w := w) (mg := mg) (base := base) D2 B ml erR cT cLv cCn
  have TB' : BdC K (He.ga K "Board") := ⟨He.cls_ok cl_Board, He.noat_ok no_Board_rule, He.noat_ok no_Board_processors, He.noat_ok no_Board_now, He.noat_ok no_Board_lines, He.noat_ok no_Board_used, He.noat_ok no_Board_ran, He.noat_ok no_Board_finishes⟩
  have TN' : BnC K (He.ga K "Bench") := ⟨He.cls_ok cl_Bench, He.noat_ok no_Bench__board, He.noat_ok no_Bench__past⟩
  obtain ⟨fdBI, FBI⟩ := fw_Board___init__
  have FB := fund_fun FBI
  have nbd : BdNew l.prog w K mg base (He.ga K "Board") := ⟨PySem.W.mg_of X G g_Board, _, _, He.mkr_ok mk_Board, FBI.bindsN (fun _ _ _ _ _ _ us hl => match us, hl with | [_, _, _], _ => rfl), ok_binit FB TB'⟩
  have bCp := ok_copied (P := l.prog) (w := w) (mg := mg) (base := base) M_Board_copied TB' nbd (PySem.W.mg_none_of X G z_list) (PySem.W.mg_none_of X G z_dict)
  have bEn := ok_enter (P := l.prog) (w := w) (mg := mg) (base := base) M_Board_enter TB' B (PySem.W.mg_none_of X G z_min)
  have bOr := ok_order (P := l.prog) (w := w) (mg := mg) (base := base) M_Board_order TB'
  have bRu := ok_running (P := l.prog) (w := w) (mg := mg) (base := base) M_Board_running TB' B.tuple bOr
  have bLo := ok_levelOf (P := l.prog) (w := w) (mg := mg) (base := base) M_Board_level_of TB'
  have bLg := ok_logB (P := l.prog) (w := w) (mg := mg) (base := base) M_Board_log TB' B.tuple B.len
  have bLe := ok_lens (P := l.prog) (w := w) (mg := mg) (base := base) M_Board_lengths TB'
  have bQu := ok_quanta (P := l.prog) (w := w) (mg := mg) (base := base) M_Board_end_quanta TB' B (PySem.W.mg_none_of X G z_min) bLo
  have bLi := ok_lift (P := l.prog) (w := w) (mg := mg) (base := base) M_Board_lift TB' bOr
  have bUn := ok_units (P := l.prog) (w := w) (mg := mg) (base := base) M_Board_end_units TB' B.tuple bRu bLo bQu bLi
  have nAr := ok_arrive (P := l.prog) (w := w) (mg := mg) (base := base) M_Bench_arrive TN' TB' cN' bCp bEn
  have nRu := ok_brun (P := l.prog) (w := w) (mg := mg) (base := base) M_Bench_running TN' TB' bRu
  have nMo := ok_moment (P := l.prog) (w := w) (mg := mg) (base := base) M_Bench_moment TN' TB'
  have nLg := ok_blog (P := l.prog) (w := w) (mg := mg) (base := base) M_Bench_log TN' TB' bLg
  have nLe := ok_blens (P := l.prog) (w := w) (mg := mg) (base := base) M_Bench_lengths TN' TB' bLe
  have nSt := ok_state (P := l.prog) (w := w) (mg := mg) (base := base) M_Bench_state TN' TB' B.tuple
  have nEn := ok_end (P := l.prog) (w := w) (mg := mg) (base := base) M_Bench_end_unit TN' TB' B bRu bCp bUn
  obtain ⟨fdNI, FNI⟩ := fw_Bench___init__
  have nbn : BnNew l.prog w K mg base (He.ga K "Bench") (He.ga K "Board") := by
    obtain ⟨h1, h2⟩ := kw_mk (p1 := "self") (p2 := "rule") FNI (fun _ _ _ _ _ _ _ _ _ => rfl) (fun _ _ _ _ _ _ _ _ _ => ⟨_, _, _, _, _, _, rfl, rfl, rfl⟩)
    exact ⟨PySem.W.mg_of X G g_Bench, _, _, He.mkr_ok mk_Bench, h1, h2, ok_ninit FNI TN' nbd cCR⟩
  have cM := ok_mix (P := l.prog) (w := w) (mg := mg) (base := base) D5
  have cS := ok_store (P := l.prog) (w := w) (mg := mg) (base := base) D6 B.len
  have cP := ok_pick (P := l.prog) (w := w) (mg := mg) (base := base) D7 cM B.len
  have cNm := ok_names (P := l.prog) (w := w) (mg := mg) (base := base) D8 B cP
  have cSo := ok_some (P := l.prog) (w := w) (mg := mg) (base := base) D9 B B.list B.tuple cP
  have cRu := ok_rule (P := l.prog) (w := w) (mg := mg) (base := base) D10 B cP
  have cEn := ok_enterL (P := l.prog) (w := w) (mg := mg) (base := base) D11 B (PySem.W.mg_none_of X G z_min)
  have cOr := ok_orderL (P := l.prog) (w := w) (mg := mg) (base := base) D12 B
  have cEd := ok_endL (P := l.prog) (w := w) (mg := mg) (base := base) D13 B (PySem.W.mg_none_of X G z_min) cOr
  have cSt := ok_stateL (P := l.prog) (w := w) (mg := mg) (base := base) D14 B.tuple
  have cDu := ok_dueL (P := l.prog) (w := w) (mg := mg) (base := base) D15 TN' B.tuple B.list nRu nMo nSt nLg nLe cOr cSt
  have cSp := ok_step (P := l.prog) (w := w) (mg := mg) (base := base) D16 B TN' cP cSo nAr nEn cEn cOr cEd
  have erN := erc_name (P := l.prog) (w := w) (mg := mg) (base := base) (PySem.W.mg_of X G aE9) oex9 np9 nit9
  have eu : EuC K mg "NoUndo" E10 := ⟨PySem.W.mg_of X G aE10, xi10, kc10, ec10, tE10⟩
  have nUn := ok_undo (P := l.prog) (w := w) (mg := mg) (base := base) (CB := He.ga K "Board") M_Bench_undo TN'
  have nUx := ok_undoX (P := l.prog) (w := w) (mg := mg) (base := base) (CB := He.ga K "Board") M_Bench_undo TN' eu
  have nAx := ok_arrX (P := l.prog) (w := w) (mg := mg) (base := base) M_Bench_arrive erN TN' TB' cN'
  have nEx := ok_endX (P := l.prog) (w := w) (mg := mg) (base := base) M_Bench_end_unit erN TN' TB' B bRu
  have k1 := ok_kind (P := l.prog) (w := w) (mg := mg) (base := base) (i := 1) (by decide) D17 B kn1
  have k9 := ok_kind9 (P := l.prog) (w := w) (mg := mg) (base := base) (i := 9) rfl D17 B kn9 np9
  have k10 := ok_kind10 (P := l.prog) (w := w) (mg := mg) (base := base) (i := 10) rfl D17 B kn10
  have c0 := ok_caught0 (P := l.prog) (w := w) (mg := mg) (base := base) D18 TN' nAx (PySem.W.mg_of X G aS) (PySem.W.exm_ref eS hS tS sc9) k9
  have c1 := ok_caught1 (P := l.prog) (w := w) (mg := mg) (base := base) D18 TN' nEx (PySem.W.mg_of X G aS) (PySem.W.exm_ref eS hS tS sc9) k9
  have c2 := ok_caught2 (P := l.prog) (w := w) (mg := mg) (base := base) D18 TN' nUx (PySem.W.mg_of X G aS) (PySem.W.exm_ref eS hS tS sc10) k10
  have cBN := ok_badNam (P := l.prog) (w := w) (mg := mg) (base := base) D19 B cP cOr
  have cBF := ok_badFin (P := l.prog) (w := w) (mg := mg) (base := base) D20 B cP cSo cOr
  have cWr := ok_wrong (P := l.prog) (w := w) (mg := mg) (base := base) D21 cP cBN cBF c0 c1
  have cCo := ok_copyL (P := l.prog) (w := w) (mg := mg) (base := base) D22 B
  obtain ⟨kb, dI, vI, bI⟩ := kw_mk (p1 := "self") (p2 := "rule") FNI (fun _ _ _ _ _ _ _ _ _ => rfl) (fun _ _ _ _ _ _ _ _ _ => ⟨_, _, _, _, _, _, rfl, rfl, rfl⟩)
  have cRR := ok_ruleRight (P := l.prog) (w := w) (mg := mg) (base := base) D23 B cP (PySem.W.mg_of X G g_Bench) (He.mkr_ok mk_Bench) vI bI (ok_ninitX FNI cCR) (PySem.W.mg_of X G aS) (PySem.W.exm_ref eS hS tS sc1) k1
  exact ok_law F B TN' cS cP cNm cRu cSp cDu nbn nUn cCo cWr c2 cRR
end Vk
set_option maxHeartbeats 0
namespace Vk
open PySem PySem.Spec PyProof.Rows L2
theorem factsV {w : World} {K : PySem.W.Frag} {h : Heap} {mg : Str → Option Value} {fa : Addr} (X : K.In h) (G : h.Ns mainGlobals mg) (hfa : mg ("law" : Str) = some (.ref fa)) (c : seeC fsV fnV fwV K = dueC fnV fwV) : LawTab PySem.Challenge.rw_blindslots_k13_bench_errors_and_undo w K mg fa := by
  obtain ⟨oc0, od0, sl0, kV0, dc0, pm0, an0, cd0, ct0, a0, l0, c0, k0⟩ := okD (x := "is_integer") (st := sInteger) (defC c 0 rfl) (facC c 0 rfl)
  obtain ⟨oc1, od1, sl1, kV1, dc1, pm1, an1, cd1, ct1, a1, l1, c1, k1⟩ := okD (x := "is_tuple_of") (st := sTupleOf) (defC c 1 rfl) (facC c 1 rfl)
  obtain ⟨oc2, od2, sl2, kV2, dc2, pm2, an2, cd2, ct2, a2, l2, c2, k2⟩ := okD (x := "check_rule") (st := sCheck) (defC c 2 rfl) (facC c 2 rfl)
  obtain ⟨oc3, od3, sl3, kV3, dc3, pm3, an3, cd3, ct3, a3, l3, c3, k3⟩ := okD (x := "is_level") (st := sLevel) (defC c 3 rfl) (facC c 3 rfl)
  obtain ⟨oc4, od4, sl4, kV4, dc4, pm4, an4, cd4, ct4, a4, l4, c4, k4⟩ := okD (x := "is_count") (st := sCount) (defC c 4 rfl) (facC c 4 rfl)
  obtain ⟨oc5, od5, sl5, kV5, dc5, pm5, an5, cd5, ct5, a5, l5, c5, k5⟩ := okD (x := "_law_mix") (st := sMix) (defC c 5 rfl) (facC c 5 rfl)
  obtain ⟨oc6, od6, sl6, kV6, dc6, pm6, an6, cd6, ct6, a6, l6, c6, k6⟩ := okD (x := "_law_store") (st := sStore) (defC c 6 rfl) (facC c 6 rfl)
  obtain ⟨oc7, od7, sl7, kV7, dc7, pm7, an7, cd7, ct7, a7, l7, c7, k7⟩ := okD (x := "_law_pick") (st := sPick) (defC c 7 rfl) (facC c 7 rfl)
  obtain ⟨oc8, od8, sl8, kV8, dc8, pm8, an8, cd8, ct8, a8, l8, c8, k8⟩ := okD (x := "_law_names") (st := sNames) (defC c 8 rfl) (facC c 8 rfl)
  obtain ⟨oc9, od9, sl9, kV9, dc9, pm9, an9, cd9, ct9, a9, l9, c9, k9⟩ := okD (x := "_law_some") (st := sSome) (defC c 9 rfl) (facC c 9 rfl)
  obtain ⟨oc10, od10, sl10, kV10, dc10, pm10, an10, cd10, ct10, a10, l10, c10, k10⟩ := okD (x := "_law_rule") (st := sRule) (defC c 10 rfl) (facC c 10 rfl)
  obtain ⟨oc11, od11, sl11, kV11, dc11, pm11, an11, cd11, ct11, a11, l11, c11, k11⟩ := okD (x := "_law_enter") (st := sEnter) (defC c 11 rfl) (facC c 11 rfl)
  obtain ⟨oc12, od12, sl12, kV12, dc12, pm12, an12, cd12, ct12, a12, l12, c12, k12⟩ := okD (x := "_law_order") (st := sOrder) (defC c 12 rfl) (facC c 12 rfl)
  obtain ⟨oc13, od13, sl13, kV13, dc13, pm13, an13, cd13, ct13, a13, l13, c13, k13⟩ := okD (x := "_law_end") (st := sEnd) (defC c 13 rfl) (facC c 13 rfl)
  obtain ⟨oc14, od14, sl14, kV14, dc14, pm14, an14, cd14, ct14, a14, l14, c14, k14⟩ := okD (x := "_law_state") (st := sState) (defC c 14 rfl) (facC c 14 rfl)
  obtain ⟨oc15, od15, sl15, kV15, dc15, pm15, an15, cd15, ct15, a15, l15, c15, k15⟩ := okD (x := "_law_as_due") (st := sAsDue) (defC c 15 rfl) (facC c 15 rfl)
  obtain ⟨oc16, od16, sl16, kV16, dc16, pm16, an16, cd16, ct16, a16, l16, c16, k16⟩ := okD (x := "_law_step") (st := sStep) (defC c 16 rfl) (facC c 16 rfl)
  obtain ⟨oc17, od17, sl17, kV17, dc17, pm17, an17, cd17, ct17, a17, l17, c17, k17⟩ := okD (x := "_law_kind") (st := sKind) (defC c 17 rfl) (facC c 17 rfl)
  obtain ⟨oc18, od18, sl18, kV18, dc18, pm18, an18, cd18, ct18, a18, l18, c18, k18⟩ := okD (x := "_law_caught") (st := sCaught) (defC c 18 rfl) (facC c 18 rfl)
  obtain ⟨oc19, od19, sl19, kV19, dc19, pm19, an19, cd19, ct19, a19, l19, c19, k19⟩ := okD (x := "_law_bad_names") (st := sBadNames) (defC c 19 rfl) (facC c 19 rfl)
  obtain ⟨oc20, od20, sl20, kV20, dc20, pm20, an20, cd20, ct20, a20, l20, c20, k20⟩ := okD (x := "_law_bad_finish") (st := sBadFinish) (defC c 20 rfl) (facC c 20 rfl)
  obtain ⟨oc21, od21, sl21, kV21, dc21, pm21, an21, cd21, ct21, a21, l21, c21, k21⟩ := okD (x := "_law_wrong_right") (st := sWrong) (defC c 21 rfl) (facC c 21 rfl)
  obtain ⟨oc22, od22, sl22, kV22, dc22, pm22, an22, cd22, ct22, a22, l22, c22, k22⟩ := okD (x := "_law_copy") (st := sCopy) (defC c 22 rfl) (facC c 22 rfl)
  obtain ⟨oc23, od23, sl23, kV23, dc23, pm23, an23, cd23, ct23, a23, l23, c23, k23⟩ := okD (x := "_law_rule_right") (st := sRuleRight) (defC c 23 rfl) (facC c 23 rfl)
  obtain ⟨oc24, od24, sl24, kV24, dc24, pm24, an24, cd24, ct24, a24, l24, c24, k24⟩ := okD (x := "law") (st := sLaw) (defC c 24 rfl) (facC c 24 rfl)
  obtain ⟨z_len, z_isinstance, z_int, z_bool, z_tuple, z_str, z_range, z_enumerate, z_list, z_all, z_min, z_dict, aS, iS, hS, tS, eS, spG, tkG, zVE⟩ : (PySem.W.nsIn K mainGlobals "len" = some none) ∧ (PySem.W.nsIn K mainGlobals "isinstance" = some none) ∧ (PySem.W.nsIn K mainGlobals "int" = some none) ∧ (PySem.W.nsIn K mainGlobals "bool" = some none) ∧ (PySem.W.nsIn K mainGlobals "tuple" = some none) ∧ (PySem.W.nsIn K mainGlobals "str" = some none) ∧ (PySem.W.nsIn K mainGlobals "range" = some none) ∧ (PySem.W.nsIn K mainGlobals "enumerate" = some none) ∧ (PySem.W.nsIn K mainGlobals "list" = some none) ∧ (PySem.W.nsIn K mainGlobals "all" = some none) ∧ (PySem.W.nsIn K mainGlobals "min" = some none) ∧ (PySem.W.nsIn K mainGlobals "dict" = some none) ∧ (PySem.W.nsIn K mainGlobals "SlotError" = some (some (.ref (He.ga K "SlotError")))) ∧ (PySem.W.isClsIn K (He.ga K "SlotError") = true) ∧ (PySem.W.hasDictIn K (He.ga K "SlotError") = true) ∧ (PySem.W.typeIn K (.ref (He.ga K "SlotError")) = some (.type "type")) ∧ (PySem.W.subIn K (.ref (He.ga K "SlotError")) (.type "BaseException") = some true) ∧ (PySem.W.specialIn K (.builtin "object.__class__") "__get__" = some (some (.builtin "getset_descriptor.__get__"))) ∧ (PySem.W.takesIn K (.builtin "object.__class__") = some true) ∧ (PySem.W.nsIn K mainGlobals "ValueError" = some none) := of_decide_eq_true (facC c 25 rfl)
  obtain ⟨aE0, iE0, tE0, aE1, iE1, tE1, aE2, iE2, tE2, aE3, iE3, tE3, aE4, iE4, tE4, aE5, iE5, tE5, aE6, iE6⟩ : (PySem.W.nsIn K mainGlobals "NoJobs" = some (some (.ref (He.ga K "NoJobs")))) ∧ (PySem.W.isClsIn K (He.ga K "NoJobs") = true) ∧ (PySem.W.typeIn K (.ref (He.ga K "NoJobs")) = some (.type "type")) ∧ (PySem.W.nsIn K mainGlobals "NoRule" = some (some (.ref (He.ga K "NoRule")))) ∧ (PySem.W.isClsIn K (He.ga K "NoRule") = true) ∧ (PySem.W.typeIn K (.ref (He.ga K "NoRule")) = some (.type "type")) ∧ (PySem.W.nsIn K mainGlobals "NoLengths" = some (some (.ref (He.ga K "NoLengths")))) ∧ (PySem.W.isClsIn K (He.ga K "NoLengths") = true) ∧ (PySem.W.typeIn K (.ref (He.ga K "NoLengths")) = some (.type "type")) ∧ (PySem.W.nsIn K mainGlobals "NoLog" = some (some (.ref (He.ga K "NoLog")))) ∧ (PySem.W.isClsIn K (He.ga K "NoLog") = true) ∧ (PySem.W.typeIn K (.ref (He.ga K "NoLog")) = some (.type "type")) ∧ (PySem.W.nsIn K mainGlobals "NoMarks" = some (some (.ref (He.ga K "NoMarks")))) ∧ (PySem.W.isClsIn K (He.ga K "NoMarks") = true) ∧ (PySem.W.typeIn K (.ref (He.ga K "NoMarks")) = some (.type "type")) ∧ (PySem.W.nsIn K mainGlobals "NoNamed" = some (some (.ref (He.ga K "NoNamed")))) ∧ (PySem.W.isClsIn K (He.ga K "NoNamed") = true) ∧ (PySem.W.typeIn K (.ref (He.ga K "NoNamed")) = some (.type "type")) ∧ (PySem.W.nsIn K mainGlobals "NoOrder" = some (some (.ref (He.ga K "NoOrder")))) ∧ (PySem.W.isClsIn K (He.ga K "NoOrder") = true) := of_decide_eq_true (facC c 26 rfl)
  obtain ⟨nmx1_, qx1_, Nx1_, bsx1_, snx1_, sbx1_, abx1_, colx1_, ddx1_, m0x1_, m1x1_, m2x1_, m3x1_, m5x1_, x1_⟩ := okX (S := He.ga K "SlotError") (C := He.ga K "NoRule") (facC c 27 (f := fun K => bX (He.ga K "SlotError") (He.ga K "NoRule") K) rfl)
  obtain ⟨tE6, aE7, iE7, tE7, aE8, iE8, tE8, aE9, iE9, tE9, aE10, iE10, tE10, aE11, iE11, tE11, sa1, ga1, gg1, np1⟩ : (PySem.W.typeIn K (.ref (He.ga K "NoOrder")) = some (.type "type")) ∧ (PySem.W.nsIn K mainGlobals "NoText" = some (some (.ref (He.ga K "NoText")))) ∧ (PySem.W.isClsIn K (He.ga K "NoText") = true) ∧ (PySem.W.typeIn K (.ref (He.ga K "NoText")) = some (.type "type")) ∧ (PySem.W.nsIn K mainGlobals "NoNumber" = some (some (.ref (He.ga K "NoNumber")))) ∧ (PySem.W.isClsIn K (He.ga K "NoNumber") = true) ∧ (PySem.W.typeIn K (.ref (He.ga K "NoNumber")) = some (.type "type")) ∧ (PySem.W.nsIn K mainGlobals "NoName" = some (some (.ref (He.ga K "NoName")))) ∧ (PySem.W.isClsIn K (He.ga K "NoName") = true) ∧ (PySem.W.typeIn K (.ref (He.ga K "NoName")) = some (.type "type")) ∧ (PySem.W.nsIn K mainGlobals "NoUndo" = some (some (.ref (He.ga K "NoUndo")))) ∧ (PySem.W.isClsIn K (He.ga K "NoUndo") = true) ∧ (PySem.W.typeIn K (.ref (He.ga K "NoUndo")) = some (.type "type")) ∧ (PySem.W.nsIn K mainGlobals "NoLine" = some (some (.ref (He.ga K "NoLine")))) ∧ (PySem.W.isClsIn K (He.ga K "NoLine") = true) ∧ (PySem.W.typeIn K (.ref (He.ga K "NoLine")) = some (.type "type")) ∧ (PySem.W.findIn K (.ref (He.ga K "NoRule")) "__setattr__" = some (some (.builtin "object.__setattr__"))) ∧ (PySem.W.findIn K (.ref (He.ga K "NoRule")) "__getattribute__" = some (some (.builtin "BaseException.__getattribute__"))) ∧ (PySem.W.findIn K (.ref (He.ga K "NoRule")) "__getattr__" = some none) ∧ (PySem.W.findIn K (.ref (He.ga K "NoRule")) "place" = some none) := of_decide_eq_true (facC c 28 rfl)
  obtain ⟨ocI1, odI1, slI1, kVI1, dcI1, pmI1, anI1, cdI1, ctI1, li1, ci1⟩ := okM (x := "NoRule") (m := "__init__") (qn := "NoRule.__init__") (st := sRuleInit) (defC c 25 rfl) (facC c 29 rfl)
  obtain ⟨in1, ti1, ki1, kc1, ec1, hc1, cc1, mc1, vc1, sc1, s1_0, n1_0, s1_2, n1_2, s1_3, n1_3, s1_4, n1_4, s1_5, n1_5⟩ : (PySem.W.findIn K (.ref (He.ga K "NoRule")) "__init__" = some (some (.ref (He.ma K (He.ga K "NoRule") "__init__")))) ∧ (PySem.W.typeIn K (.ref (He.ma K (He.ga K "NoRule") "__init__")) = some (.type "function")) ∧ (PySem.W.keepIn K (.ref (He.ma K (He.ga K "NoRule") "__init__")) = true) ∧ (PySem.W.keepIn K (.ref (He.ga K "NoRule")) = true) ∧ (PySem.W.subIn K (.ref (He.ga K "NoRule")) (.type "BaseException") = some true) ∧ (PySem.W.hasDictIn K (He.ga K "NoRule") = true) ∧ (PySem.W.findIn K (.ref (He.ga K "NoRule")) "__class__" = some (some (.builtin "object.__class__"))) ∧ (PySem.W.mroIn K (He.ga K "NoRule") (.type "object") = some true) ∧ (PySem.W.subIn K (.ref (He.ga K "NoRule")) (.type "ValueError") = some true) ∧ (PySem.W.subIn K (.ref (He.ga K "NoRule")) (.ref (He.ga K "SlotError")) = some true) ∧ (PySem.W.subIn K (.ref (He.ga K "NoRule")) (.ref (He.ga K "NoJobs")) = some false) ∧ ((Value.ref (He.ga K "NoRule") == Value.ref (He.ga K "NoJobs")) = false) ∧ (PySem.W.subIn K (.ref (He.ga K "NoRule")) (.ref (He.ga K "NoLengths")) = some false) ∧ ((Value.ref (He.ga K "NoRule") == Value.ref (He.ga K "NoLengths")) = false) ∧ (PySem.W.subIn K (.ref (He.ga K "NoRule")) (.ref (He.ga K "NoLog")) = some false) ∧ ((Value.ref (He.ga K "NoRule") == Value.ref (He.ga K "NoLog")) = false) ∧ (PySem.W.subIn K (.ref (He.ga K "NoRule")) (.ref (He.ga K "NoMarks")) = some false) ∧ ((Value.ref (He.ga K "NoRule") == Value.ref (He.ga K "NoMarks")) = false) ∧ (PySem.W.subIn K (.ref (He.ga K "NoRule")) (.ref (He.ga K "NoNamed")) = some false) ∧ ((Value.ref (He.ga K "NoRule") == Value.ref (He.ga K "NoNamed")) = false) := of_decide_eq_true (facC c 30 rfl)
  obtain ⟨nmx9_, qx9_, Nx9_, bsx9_, snx9_, sbx9_, abx9_, colx9_, ddx9_, m0x9_, m1x9_, m2x9_, m3x9_, m5x9_, x9_⟩ := okX (S := He.ga K "SlotError") (C := He.ga K "NoName") (facC c 31 (f := fun K => bX (He.ga K "SlotError") (He.ga K "NoName") K) rfl)
  obtain ⟨ocI9, odI9, slI9, kVI9, dcI9, pmI9, anI9, cdI9, ctI9, li9, ci9⟩ := okM (x := "NoName") (m := "__init__") (qn := "NoName.__init__") (st := sNameInit) (defC c 26 rfl) (facC c 32 rfl)
  obtain ⟨s1_6, n1_6, s1_7, n1_7, s1_8, n1_8, s1_9, n1_9, s1_10, n1_10, s1_11, n1_11, sa9, ga9, gg9, np9, npp9, in9, ti9, ki9⟩ : (PySem.W.subIn K (.ref (He.ga K "NoRule")) (.ref (He.ga K "NoOrder")) = some false) ∧ ((Value.ref (He.ga K "NoRule") == Value.ref (He.ga K "NoOrder")) = false) ∧ (PySem.W.subIn K (.ref (He.ga K "NoRule")) (.ref (He.ga K "NoText")) = some false) ∧ ((Value.ref (He.ga K "NoRule") == Value.ref (He.ga K "NoText")) = false) ∧ (PySem.W.subIn K (.ref (He.ga K "NoRule")) (.ref (He.ga K "NoNumber")) = some false) ∧ ((Value.ref (He.ga K "NoRule") == Value.ref (He.ga K "NoNumber")) = false) ∧ (PySem.W.subIn K (.ref (He.ga K "NoRule")) (.ref (He.ga K "NoName")) = some false) ∧ ((Value.ref (He.ga K "NoRule") == Value.ref (He.ga K "NoName")) = false) ∧ (PySem.W.subIn K (.ref (He.ga K "NoRule")) (.ref (He.ga K "NoUndo")) = some false) ∧ ((Value.ref (He.ga K "NoRule") == Value.ref (He.ga K "NoUndo")) = false) ∧ (PySem.W.subIn K (.ref (He.ga K "NoRule")) (.ref (He.ga K "NoLine")) = some false) ∧ ((Value.ref (He.ga K "NoRule") == Value.ref (He.ga K "NoLine")) = false) ∧ (PySem.W.findIn K (.ref (He.ga K "NoName")) "__setattr__" = some (some (.builtin "object.__setattr__"))) ∧ (PySem.W.findIn K (.ref (He.ga K "NoName")) "__getattribute__" = some (some (.builtin "BaseException.__getattribute__"))) ∧ (PySem.W.findIn K (.ref (He.ga K "NoName")) "__getattr__" = some none) ∧ (PySem.W.findIn K (.ref (He.ga K "NoName")) "name" = some none) ∧ (PySem.W.findIn K (.ref (He.ga K "NoName")) "place" = some none) ∧ (PySem.W.findIn K (.ref (He.ga K "NoName")) "__init__" = some (some (.ref (He.ma K (He.ga K "NoName") "__init__")))) ∧ (PySem.W.typeIn K (.ref (He.ma K (He.ga K "NoName") "__init__")) = some (.type "function")) ∧ (PySem.W.keepIn K (.ref (He.ma K (He.ga K "NoName") "__init__")) = true) := of_decide_eq_true (facC c 33 rfl)
  obtain ⟨kc9, ec9, hc9, cc9, mc9, vc9, sc9, s9_0, n9_0, s9_1, n9_1, s9_2, n9_2, s9_3, n9_3, s9_4, n9_4, s9_5, n9_5, s9_6⟩ : (PySem.W.keepIn K (.ref (He.ga K "NoName")) = true) ∧ (PySem.W.subIn K (.ref (He.ga K "NoName")) (.type "BaseException") = some true) ∧ (PySem.W.hasDictIn K (He.ga K "NoName") = true) ∧ (PySem.W.findIn K (.ref (He.ga K "NoName")) "__class__" = some (some (.builtin "object.__class__"))) ∧ (PySem.W.mroIn K (He.ga K "NoName") (.type "object") = some true) ∧ (PySem.W.subIn K (.ref (He.ga K "NoName")) (.type "ValueError") = some true) ∧ (PySem.W.subIn K (.ref (He.ga K "NoName")) (.ref (He.ga K "SlotError")) = some true) ∧ (PySem.W.subIn K (.ref (He.ga K "NoName")) (.ref (He.ga K "NoJobs")) = some false) ∧ ((Value.ref (He.ga K "NoName") == Value.ref (He.ga K "NoJobs")) = false) ∧ (PySem.W.subIn K (.ref (He.ga K "NoName")) (.ref (He.ga K "NoRule")) = some false) ∧ ((Value.ref (He.ga K "NoName") == Value.ref (He.ga K "NoRule")) = false) ∧ (PySem.W.subIn K (.ref (He.ga K "NoName")) (.ref (He.ga K "NoLengths")) = some false) ∧ ((Value.ref (He.ga K "NoName") == Value.ref (He.ga K "NoLengths")) = false) ∧ (PySem.W.subIn K (.ref (He.ga K "NoName")) (.ref (He.ga K "NoLog")) = some false) ∧ ((Value.ref (He.ga K "NoName") == Value.ref (He.ga K "NoLog")) = false) ∧ (PySem.W.subIn K (.ref (He.ga K "NoName")) (.ref (He.ga K "NoMarks")) = some false) ∧ ((Value.ref (He.ga K "NoName") == Value.ref (He.ga K "NoMarks")) = false) ∧ (PySem.W.subIn K (.ref (He.ga K "NoName")) (.ref (He.ga K "NoNamed")) = some false) ∧ ((Value.ref (He.ga K "NoName") == Value.ref (He.ga K "NoNamed")) = false) ∧ (PySem.W.subIn K (.ref (He.ga K "NoName")) (.ref (He.ga K "NoOrder")) = some false) := of_decide_eq_true (facC c 34 rfl)
  obtain ⟨n9_6, s9_7, n9_7, s9_8, n9_8, s9_10, n9_10, s9_11, n9_11, xi10, ga10, gg10, npp10, kc10, ec10, hc10, cc10, mc10, vc10, sc10⟩ : ((Value.ref (He.ga K "NoName") == Value.ref (He.ga K "NoOrder")) = false) ∧ (PySem.W.subIn K (.ref (He.ga K "NoName")) (.ref (He.ga K "NoText")) = some false) ∧ ((Value.ref (He.ga K "NoName") == Value.ref (He.ga K "NoText")) = false) ∧ (PySem.W.subIn K (.ref (He.ga K "NoName")) (.ref (He.ga K "NoNumber")) = some false) ∧ ((Value.ref (He.ga K "NoName") == Value.ref (He.ga K "NoNumber")) = false) ∧ (PySem.W.subIn K (.ref (He.ga K "NoName")) (.ref (He.ga K "NoUndo")) = some false) ∧ ((Value.ref (He.ga K "NoName") == Value.ref (He.ga K "NoUndo")) = false) ∧ (PySem.W.subIn K (.ref (He.ga K "NoName")) (.ref (He.ga K "NoLine")) = some false) ∧ ((Value.ref (He.ga K "NoName") == Value.ref (He.ga K "NoLine")) = false) ∧ (PySem.W.excIn K (He.ga K "NoUndo") [.type "ValueError", .type "Exception", .type "BaseException", .type "object"] "ValueError.__new__" = true) ∧ (PySem.W.findIn K (.ref (He.ga K "NoUndo")) "__getattribute__" = some (some (.builtin "BaseException.__getattribute__"))) ∧ (PySem.W.findIn K (.ref (He.ga K "NoUndo")) "__getattr__" = some none) ∧ (PySem.W.findIn K (.ref (He.ga K "NoUndo")) "place" = some none) ∧ (PySem.W.keepIn K (.ref (He.ga K "NoUndo")) = true) ∧ (PySem.W.subIn K (.ref (He.ga K "NoUndo")) (.type "BaseException") = some true) ∧ (PySem.W.hasDictIn K (He.ga K "NoUndo") = true) ∧ (PySem.W.findIn K (.ref (He.ga K "NoUndo")) "__class__" = some (some (.builtin "object.__class__"))) ∧ (PySem.W.mroIn K (He.ga K "NoUndo") (.type "object") = some true) ∧ (PySem.W.subIn K (.ref (He.ga K "NoUndo")) (.type "ValueError") = some true) ∧ (PySem.W.subIn K (.ref (He.ga K "NoUndo")) (.ref (He.ga K "SlotError")) = some true) := of_decide_eq_true (facC c 35 rfl)
  obtain ⟨s10_0, n10_0, s10_1, n10_1, s10_2, n10_2, s10_3, n10_3, s10_4, n10_4, s10_5, n10_5, s10_6, n10_6, s10_7, n10_7, s10_8, n10_8, s10_9, n10_9⟩ : (PySem.W.subIn K (.ref (He.ga K "NoUndo")) (.ref (He.ga K "NoJobs")) = some false) ∧ ((Value.ref (He.ga K "NoUndo") == Value.ref (He.ga K "NoJobs")) = false) ∧ (PySem.W.subIn K (.ref (He.ga K "NoUndo")) (.ref (He.ga K "NoRule")) = some false) ∧ ((Value.ref (He.ga K "NoUndo") == Value.ref (He.ga K "NoRule")) = false) ∧ (PySem.W.subIn K (.ref (He.ga K "NoUndo")) (.ref (He.ga K "NoLengths")) = some false) ∧ ((Value.ref (He.ga K "NoUndo") == Value.ref (He.ga K "NoLengths")) = false) ∧ (PySem.W.subIn K (.ref (He.ga K "NoUndo")) (.ref (He.ga K "NoLog")) = some false) ∧ ((Value.ref (He.ga K "NoUndo") == Value.ref (He.ga K "NoLog")) = false) ∧ (PySem.W.subIn K (.ref (He.ga K "NoUndo")) (.ref (He.ga K "NoMarks")) = some false) ∧ ((Value.ref (He.ga K "NoUndo") == Value.ref (He.ga K "NoMarks")) = false) ∧ (PySem.W.subIn K (.ref (He.ga K "NoUndo")) (.ref (He.ga K "NoNamed")) = some false) ∧ ((Value.ref (He.ga K "NoUndo") == Value.ref (He.ga K "NoNamed")) = false) ∧ (PySem.W.subIn K (.ref (He.ga K "NoUndo")) (.ref (He.ga K "NoOrder")) = some false) ∧ ((Value.ref (He.ga K "NoUndo") == Value.ref (He.ga K "NoOrder")) = false) ∧ (PySem.W.subIn K (.ref (He.ga K "NoUndo")) (.ref (He.ga K "NoText")) = some false) ∧ ((Value.ref (He.ga K "NoUndo") == Value.ref (He.ga K "NoText")) = false) ∧ (PySem.W.subIn K (.ref (He.ga K "NoUndo")) (.ref (He.ga K "NoNumber")) = some false) ∧ ((Value.ref (He.ga K "NoUndo") == Value.ref (He.ga K "NoNumber")) = false) ∧ (PySem.W.subIn K (.ref (He.ga K "NoUndo")) (.ref (He.ga K "NoName")) = some false) ∧ ((Value.ref (He.ga K "NoUndo") == Value.ref (He.ga K "NoName")) = false) := of_decide_eq_true (facC c 36 rfl)
  obtain ⟨ocN, odN, slN, kVN, dcN, pmN, anN, ctN, cN, PN, eN, ddN, vsN, scN, aN, lN, cNf, kNf, hcN, hvN, nPN⟩ := okN (x := "is_name") (st := sName) (defC c 27 rfl) (facC c 37 rfl)
  obtain ⟨taML, aML⟩ := okI (x := "MOST_LEVELS") (i := 6) (facC c 38 rfl)
  obtain ⟨s10_11, n10_11, g_Board, cl_Board, mk_Board, no_Board_rule, no_Board_processors, no_Board_now, no_Board_lines, no_Board_used, no_Board_ran, no_Board_finishes, me_Board_copied, me_Board_enter, me_Board_order, me_Board_running, me_Board_level_of, me_Board_end_units, me_Board_end_quanta, me_Board_lift⟩ : (PySem.W.subIn K (.ref (He.ga K "NoUndo")) (.ref (He.ga K "NoLine")) = some false) ∧ ((Value.ref (He.ga K "NoUndo") == Value.ref (He.ga K "NoLine")) = false) ∧ (PySem.W.nsIn K mainGlobals "Board" = some (some (.ref (He.ga K "Board")))) ∧ ((He.Fa.cls "Board").ok K = true) ∧ ((He.Fa.mkr "Board").ok K = true) ∧ ((He.Fa.noat "Board" "rule").ok K = true) ∧ ((He.Fa.noat "Board" "processors").ok K = true) ∧ ((He.Fa.noat "Board" "now").ok K = true) ∧ ((He.Fa.noat "Board" "lines").ok K = true) ∧ ((He.Fa.noat "Board" "used").ok K = true) ∧ ((He.Fa.noat "Board" "ran").ok K = true) ∧ ((He.Fa.noat "Board" "finishes").ok K = true) ∧ ((He.Fa.meth "Board" "copied").ok K = true) ∧ ((He.Fa.meth "Board" "enter").ok K = true) ∧ ((He.Fa.meth "Board" "order").ok K = true) ∧ ((He.Fa.meth "Board" "running").ok K = true) ∧ ((He.Fa.meth "Board" "level_of").ok K = true) ∧ ((He.Fa.meth "Board" "end_units").ok K = true) ∧ ((He.Fa.meth "Board" "end_quanta").ok K = true) ∧ ((He.Fa.meth "Board" "lift").ok K = true) := of_decide_eq_true (facC c 39 rfl)
  obtain ⟨me_Board_log, me_Board_lengths, g_Bench, cl_Bench, mk_Bench, no_Bench__board, no_Bench__past, me_Bench_arrive, me_Bench_end_unit, me_Bench_undo, me_Bench_moment, me_Bench_running, me_Bench_state, me_Bench_lengths, me_Bench_log⟩ : ((He.Fa.meth "Board" "log").ok K = true) ∧ ((He.Fa.meth "Board" "lengths").ok K = true) ∧ (PySem.W.nsIn K mainGlobals "Bench" = some (some (.ref (He.ga K "Bench")))) ∧ ((He.Fa.cls "Bench").ok K = true) ∧ ((He.Fa.mkr "Bench").ok K = true) ∧ ((He.Fa.noat "Bench" "_board").ok K = true) ∧ ((He.Fa.noat "Bench" "_past").ok K = true) ∧ ((He.Fa.meth "Bench" "arrive").ok K = true) ∧ ((He.Fa.meth "Bench" "end_unit").ok K = true) ∧ ((He.Fa.meth "Bench" "undo").ok K = true) ∧ ((He.Fa.meth "Bench" "moment").ok K = true) ∧ ((He.Fa.meth "Bench" "running").ok K = true) ∧ ((He.Fa.meth "Bench" "state").ok K = true) ∧ ((He.Fa.meth "Bench" "lengths").ok K = true) ∧ ((He.Fa.meth "Bench" "log").ok K = true) := of_decide_eq_true (facC c 40 rfl)
  have fw_Board___init__ := He.DefD.funD (d := mW "Board" "__init__" "Board.__init__" sBdInit [] []) (dfwC c 0 rfl) (facC c 41 rfl)
  have fw_Board_copied := He.DefD.funD (d := mW "Board" "copied" "Board.copied" sBdCopied [] []) (dfwC c 1 rfl) (facC c 42 rfl)
  have fw_Board_enter := He.DefD.funD (d := mW "Board" "enter" "Board.enter" sBdEnter [] []) (dfwC c 2 rfl) (facC c 43 rfl)
  have fw_Board_order := He.DefD.funD (d := mW "Board" "order" "Board.order" sBdOrder [] []) (dfwC c 3 rfl) (facC c 44 rfl)
  have fw_Board_running := He.DefD.funD (d := mW "Board" "running" "Board.running" sBdRunning [] []) (dfwC c 4 rfl) (facC c 45 rfl)
  have fw_Board_level_of := He.DefD.funD (d := mW "Board" "level_of" "Board.level_of" sBdLevelOf [] []) (dfwC c 5 rfl) (facC c 46 rfl)
  have fw_Board_end_units := He.DefD.funD (d := mW "Board" "end_units" "Board.end_units" sBdEndUnits [] []) (dfwC c 6 rfl) (facC c 47 rfl)
  have fw_Board_end_quanta := He.DefD.funD (d := mW "Board" "end_quanta" "Board.end_quanta" sBdEndQuanta [] []) (dfwC c 7 rfl) (facC c 48 rfl)
  have fw_Board_lift := He.DefD.funD (d := mW "Board" "lift" "Board.lift" sBdLift [] []) (dfwC c 8 rfl) (facC c 49 rfl)
  have fw_Board_log := He.DefD.funD (d := mW "Board" "log" "Board.log" sBdLog [] []) (dfwC c 9 rfl) (facC c 50 rfl)
  have fw_Board_lengths := He.DefD.funD (d := mW "Board" "lengths" "Board.lengths" sBdLengths [] []) (dfwC c 10 rfl) (facC c 51 rfl)
  have fw_Bench___init__ := He.DefD.funD (d := mW "Bench" "__init__" "Bench.__init__" sBnInit [] [("processors", .int 1)]) (dfwC c 11 rfl) (facC c 52 rfl)
  have fw_Bench_arrive := He.DefD.funD (d := mW "Bench" "arrive" "Bench.arrive" sBnArrive [] [("entry", .int 0)]) (dfwC c 12 rfl) (facC c 53 rfl)
  have fw_Bench_end_unit := He.DefD.funD (d := mW "Bench" "end_unit" "Bench.end_unit" sBnEnd [.adr (He.dflAt ("Bench", some "end_unit") 0)] []) (dfwC c 13 rfl) (facC c 54 rfl)
  have fw_Bench_undo := He.DefD.funD (d := mW "Bench" "undo" "Bench.undo" sBnUndo [] []) (dfwC c 14 rfl) (facC c 55 rfl)
  have fw_Bench_moment := He.DefD.funD (d := mW "Bench" "moment" "Bench.moment" sBnMoment [] []) (dfwC c 15 rfl) (facC c 56 rfl)
  have fw_Bench_running := He.DefD.funD (d := mW "Bench" "running" "Bench.running" sBnRunning [] []) (dfwC c 16 rfl) (facC c 57 rfl)
  have fw_Bench_state := He.DefD.funD (d := mW "Bench" "state" "Bench.state" sBnState [] []) (dfwC c 17 rfl) (facC c 58 rfl)
  have fw_Bench_lengths := He.DefD.funD (d := mW "Bench" "lengths" "Bench.lengths" sBnLengths [] []) (dfwC c 18 rfl) (facC c 59 rfl)
  have fw_Bench_log := He.DefD.funD (d := mW "Bench" "log" "Bench.log" sBnLog [] []) (dfwC c 19 rfl) (facC c 60 rfl)
  exact all_mk X G hfa a0 l0 c0 k0 a1 l1 c1 k1 a2 l2 c2 k2 a3 l3 c3 k3 a4 l4 c4 k4 a5 l5 c5 k5 a6 l6 c6 k6 a7 l7 c7 k7 a8 l8 c8 k8 a9 l9 c9 k9 a10 l10 c10 k10 a11 l11 c11 k11 a12 l12 c12 k12 a13 l13 c13 k13 a14 l14 c14 k14 a15 l15 c15 k15 a16 l16 c16 k16 a17 l17 c17 k17 a18 l18 c18 k18 a19 l19 c19 k19 a20 l20 c20 k20 a21 l21 c21 k21 a22 l22 c22 k22 a23 l23 c23 k23 a24 l24 c24 k24 z_len z_isinstance z_int z_bool z_tuple z_str z_range z_enumerate z_list z_all z_min z_dict aS iS hS tS eS spG tkG zVE aE0 iE0 tE0 aE1 iE1 tE1 aE2 iE2 tE2 aE3 iE3 tE3 aE4 iE4 tE4 aE5 iE5 tE5 aE6 iE6 tE6 aE7 iE7 tE7 aE8 iE8 tE8 aE9 iE9 tE9 aE10 iE10 tE10 aE11 iE11 tE11 x1_ sa1 ga1 gg1 np1 in1 ti1 li1 ci1 ki1 kc1 ec1 hc1 cc1 mc1 vc1 sc1 s1_0 n1_0 s1_2 n1_2 s1_3 n1_3 s1_4 n1_4 s1_5 n1_5 s1_6 n1_6 s1_7 n1_7 s1_8 n1_8 s1_9 n1_9 s1_10 n1_10 s1_11 n1_11 x9_ sa9 ga9 gg9 np9 npp9 in9 ti9 li9 ci9 ki9 kc9 ec9 hc9 cc9 mc9 vc9 sc9 s9_0 n9_0 s9_1 n9_1 s9_2 n9_2 s9_3 n9_3 s9_4 n9_4 s9_5 n9_5 s9_6 n9_6 s9_7 n9_7 s9_8 n9_8 s9_10 n9_10 s9_11 n9_11 xi10 ga10 gg10 npp10 kc10 ec10 hc10 cc10 mc10 vc10 sc10 s10_0 n10_0 s10_1 n10_1 s10_2 n10_2 s10_3 n10_3 s10_4 n10_4 s10_5 n10_5 s10_6 n10_6 s10_7 n10_7 s10_8 n10_8 s10_9 n10_9 s10_11 n10_11 aN lN cNf kNf hcN hvN nPN aML g_Board cl_Board mk_Board no_Board_rule no_Board_processors no_Board_now no_Board_lines no_Board_used no_Board_ran no_Board_finishes fw_Board___init__ me_Board_copied fw_Board_copied me_Board_enter fw_Board_enter me_Board_order fw_Board_order me_Board_running fw_Board_running me_Board_level_of fw_Board_level_of me_Board_end_units fw_Board_end_units me_Board_end_quanta fw_Board_end_quanta me_Board_lift fw_Board_lift me_Board_log fw_Board_log me_Board_lengths fw_Board_lengths g_Bench cl_Bench mk_Bench no_Bench__board no_Bench__past fw_Bench___init__ me_Bench_arrive fw_Bench_arrive me_Bench_end_unit fw_Bench_end_unit me_Bench_undo fw_Bench_undo me_Bench_moment fw_Bench_moment me_Bench_running fw_Bench_running me_Bench_state fw_Bench_state me_Bench_lengths fw_Bench_lengths me_Bench_log fw_Bench_log
theorem walkV {l : PySem.W.OpenLaw} {q : Program} {loose : List Str} {XP : (Str → Option Value) → Heap → Prop} {YP : World → Heap → Prop} {d dN : DefRec} (hn : l.most = some 63) (hdf : d.params.defaults = []) (hnm : d.name = ("law" : Str))
    (hrec : (recsOf q).find? (fun e => e.name == ("is_name" : Str)) = some dN)
    (F : ∀ (w : World) (mg : Str → Option Value) (fa : Addr) (h : Heap), YP w h → h.Ns mainGlobals mg → mg ("law" : Str) = some (.ref fa) → ∃ K : PySem.W.Frag, K.In h ∧ LawTab l w K mg fa) :
    PySem.W.WalkO q loose XP YP l.row.toRowW d [] (fun f vs => PySem.call f vs) := by
  refine Att.attach_callB hn hdf fun w s₀ s₁ mg mb fa o pm cd doc a vs ns G Y ho hd hcd hmg hobj hints hlen hbits hg => ?_
  rw [hnm] at hmg
  obtain ⟨K, KX, fd, c, P, ht, nl, hb, hF⟩ := F w mg fa _ Y G.T.g hmg
  obtain ⟨hC, hP⟩ := PySem.W.tab_of G.T KX hrec ht
  have one : ∀ {C : Addr × Addr → Prop}, C (c, P) → ∀ p ∈ [(c, P)], C p := fun h p hp => by
    rw [List.mem_singleton.mp hp]
    exact h
  exact LamX.law_callTs (k := 8) (cs := [(c, P)]) (sp := spLaw K P) (CX := CX0) KX G.T.g G.T.b G.T.builtins G.T.nolimit hg (one hP) (one nl) (one hC) G.T.bmain hobj hints (Nat.le_trans hlen (by decide)) ⟨rfl, by decide, by decide⟩
    (fun base i n t => let z := t (c, P) (List.mem_singleton.mpr rfl); hF base i n ⟨z.code, z.bm, z.gP⟩) hb (fun H hH hS => ⟨a, ns, rfl, hS, hlen, ⟨#[], hH (c, P) (List.mem_singleton.mpr rfl), by simp [TriplesOk]⟩, fun _ => rfl⟩) (fun _ _ _ z => z)
end Vk
open PySem PySem.W PyProof.Rows in
set_option maxRecDepth 100000 in
set_option maxHeartbeats 0 in
theorem PySem.Challenge.cw_blindslots_k13_bench_errors_and_undo_holds : PySem.Challenge.rw_blindslots_k13_bench_errors_and_undo.Holds := by
  w_on; o_law
  refine HandSHeadRun.head_any (r := Vk.RV) (q := Vk.qV) (H := Vk.hV) (ob := Vk.obV) (M := 30000) (loose := Vk.nmV) (d := HandSHeadRun.topDef Vk.RV.prog 48) (kwd := []) Vk.obV_eq (by kernel_rfl) (fun s => by kernel_rfl) Vk.runV (by kernel_rfl) (by kernel_rfl) (by kernel_rfl) (by rfl) (by first | assumption | decide +kernel) (by decide +kernel) ⟨rfl, rfl, rfl, rfl, rfl, by decide +kernel⟩ ?hw ?hc
  case hw => w_witness2
  case hc =>
    refine Vk.walkV (l := PySem.Challenge.rw_blindslots_k13_bench_errors_and_undo) rfl (by kernel_rfl) (by kernel_rfl) (dN := HandSHeadRun.topDef Vk.RV.prog 20) (by kernel_rfl)  ?_
    intro w mg fa h Y G hmg
    obtain ⟨K, KX, c⟩ := Y
    exact ⟨K, KX, Vk.factsV KX G hmg c⟩
