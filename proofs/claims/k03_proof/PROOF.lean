import PyProof.Rows.All
import Wide.All
import OpenK.AllK
import Wide.FinOn
import KE.KExcSuper
import HandS.ForMost
import HandS.Exc
import HandS.ExcInit
import KE.GoesEnum
import HandS.Star
import HandS.TupAny
import HandS.TupMul
import HandS.SetKeys
import HandS.DictComp
import HandS.IsInst
import HandS.Defaults
import HandS.WordsExc
import HandS.ReCall
import HandS.TryMany
import HandS.ExcOwn
import HandS.ExcField
import HandS.HeadHook1
import HandS.HeadHook2
import HandS.Evl
import HandS.Codes
import HandS.Walk
import HandS.ExcIs
import KE.KExcIs
import PyProof.EqKinds
import KE.GoesZip
import HandS.Zip
import HandS.Flow
import HandS.Deep
import KE.KStateDown
import HandS.Ends
import HandS.Head0
import HandS.Head1
import HandS.Head2
import HandS.HeadEnd
import PyProof.FString
import PyProof.FString4
import PyProof.FitsInt
import PyProof.StrLawsRepr
import PySem.Challenge.RW_shearyard_k03_whole_common_and_united_st
section
set_option Elab.async false
set_option linter.all false
set_option maxRecDepth 100000
set_option maxHeartbeats 2000000
/-! An own exception class (any number of own base classes over ValueError) whose __init__ says super().__init__(message) and then self.f = f for each of its parameters. -/
namespace PySem
namespace SupX
open PySem.W PySem.Calls PyProof.Rows PySem.HandSPX

structure StP where
  f : Str
  q1 : Pos
  q2 : Pos
  q3 : Pos
  q4 : Pos
def stB : List StP → List Stmt
  | [] => []
  | z :: r => .Assign [.Attribute (.Name "self" z.q1) z.f z.q2] (.Name z.f z.q3) z.q4 :: stB r
def iB (msg : Expr) (p0 p1 p2 p3 p4 : Pos) (l : List StP) : List Stmt :=
  .Expr (.Call (.Attribute (.Call (.Name "super" p0) [] [] p1) "__init__" p2) [msg] [] p3) p4 :: stB l
def putAll : List (Str × Value) → (Str → Option Value) → (Str → Option Value)
  | [], m => m
  | (f, v) :: r, m => putAll r (fun y => if y = f then some v else m y)
/-- the message's expression gives some value and writes nothing -/
def MsgOk (prog : Program) (w : World) (env : Env) (m : Str → Option Value) (msg : Expr) : Prop :=
  ∀ (A : Around) (E : Value → Shared → Prop) (s : Shared) (Q : Value → Shared → Prop), s.heap.Ns env.locals m → (∀ v t, Q v { s with toks := t }) → wpAny (model prog w) A (eval msg env) Q E s

theorem lookup_nd {k : Str} {v : Value} : ∀ {l : List (Str × Value)}, (l.map (·.1)).Nodup → (k, v) ∈ l → l.lookup k = some v
  | [], _, h => nomatch h
  | (a, b) :: r, nd, h => by
    rw [List.map_cons, List.nodup_cons] at nd
    rcases List.mem_cons.mp h with e | e
    · cases e
      simp [List.lookup]
    · have ne : ¬ k = a := fun z => nd.1 (by rw [← z]; exact List.mem_map_of_mem (f := (·.1)) e)
      have nb : (k == a) = false := by simpa using ne
      show (match k == a with | true => some b | false => r.lookup k) = some v
      rw [nb]
      exact lookup_nd nd.2 e
theorem lookup_rev {k : Str} {v : Value} {l : List (Str × Value)} (nd : (l.map (·.1)).Nodup) (h : (k, v) ∈ l) : l.reverse.lookup k = some v :=
  lookup_nd (by rw [List.map_reverse]; exact List.pairwise_reverse.mpr (List.Pairwise.imp (fun z => Ne.symm z) nd)) (List.mem_reverse.mpr h)

section
variable {prog : Program} {w : World} {M : Model} {A : Around} {E : Value → Shared → Prop} {R : Result → Shared → Prop} {s : Shared} {K : Frag}
theorem ldK {name : Str} {scope : Scope} {L a : Addr} {cd : Value} {cells : List (Str × Addr)} {m : Str → Option Value} {x : Str} {pos : Pos} {v : Value} {Q : Value → Shared → Prop}
    (hn : s.heap.Ns L m) (hv : m x = some v) (h : Q v s) (hk : scope.kind = .function) (hl : scope.names.lookup x = some .local) (hd : (x == ("__debug__" : Str)) = false) :
    wpAny M A (eval (.Name x pos) (envX name scope L a cd cells)) Q E s := wpAny_Name (wpAny_loadName_local (env := envX name scope L a cd cells) hk hl hn hv h) hd

/-- the method-wrapper of ValueError.__init__ called on the fresh exception -/
theorem call_mw {h : Heap} {g : Array GenState} {d : Drawn} {t : Nat} {os : OsState} {nm q : Str} {C N : Addr} {bs bm : List Value} {hdct : Bool} {sn : List Str} {sub : List Value} {ab : Bool} {col : Option Bool} {dd : Option Addr} {k0 k1 k2 k3 k5 : Option Value}
    {u e t0 : Addr} {rest : List Value} {Q : Value → Shared → Prop} (hC : h.get? C = some (excClassObj nm q C N bs bm hdct sn sub ab col dd k0 k1 k2 k3 k5 "ValueError.__new__")) (hbm : refsVE bm = true)
    (he : h.get? e = some (excO C t0)) (hu : h.get? u = some (kxs_mw "ValueError.__init__" e)) (hrest : rest.length ≤ sizeLine)
    (hq : ∀ h' t1, (∀ b o, b ≠ e → h.get? b = some o → h'.get? b = some o) → h'.get? e = some (excO C t1) → Q .none ⟨h', g, d, t, os⟩) :
    wpAny (model prog w) A (call (.ref u) rest) Q E ⟨h, g, d, t, os⟩ := by
  refine wpAny_call (codeAny_of_tree ?_)
  show wpAny _ A.in1 (callAny (.ref u) ⟨rest, []⟩) _ _ _
  simp only [callAny]
  refine wpAny_bind (wpAny_load hu ?_)
  simp only [kxs_mw, show (Value.type "method-wrapper" == Value.type "method" || Value.type "method-wrapper" == Value.type "builtin_function_or_method" || Value.type "method-wrapper" == Value.type "method-wrapper") = true by decide, if_true]
  refine KFB.if_so (by decide) ?_
  refine wpAny_bind (check_bound_init F.excBase_ValueError.toExcCallFacts hC he rfl ?_)
  refine wpAny_bind (wpAny_pure (wpAny_pure ?_))
  refine ⟨Code.quiet_builtin _ (by decide +kernel), codeAny_builtin F.excBase_ValueError.initEntry ?_⟩
  rw [Around.under_plainId F.excBase_ValueError.init.plain _]
  wp_walk
  refine hq _ h.objs.size (fun b o hb ho => ?_) ?_
  · rw [Heap.get?_update_other _ _ (Ne.symm hb)]
    exact Heap.get?_push_of_some _ ho
  · rw [Heap.get?_update_self _ (Heap.get?_push_of_some _ he) rfl]
    rfl

/-- self.f = f, the further ones -/
theorem stores_old {name : Str} {scope : Scope} {L a C x dx : Addr} {cd : Value} {cells : List (Str × Addr)} {m : Str → Option Value} {fv : Array Value} {cdt : ClassData}
    (hk : scope.kind = .function) (hcd : clsIn K C = some cdt) (hm : refsVE cdt.mro = true) (hh : cdt.hasDict = true) (hsa : findIn K (.ref C) "__setattr__" = some (some (.builtin "object.__setattr__")))
    (hself : m "self" = some (.ref x)) (lself : scope.names.lookup ("self" : Str) = some .local) (hxL : x ≠ L) (hdL : dx ≠ L) (hnx : K.lookup x = none) (hnd : K.lookup dx = none) (hxd : x ≠ dx) :
    ∀ (l : List StP) (vs : List Value) (s : Shared) (m0 : Str → Option Value) (nl : List Str), vs.length = l.length → K.In s.heap → s.heap.Ns L m → s.heap.get? x = some { cls := .ref C, dict := some dx, data := .fields fv } → s.heap.Ns1 dx m0 → Within m0 nl → nl.length + l.length ≤ 900 →
      (∀ z ∈ l, scope.names.lookup z.f = some .local ∧ (z.f == ("__debug__" : Str)) = false ∧ findIn K (.ref C) z.f = some none) → (∀ (i : Nat) (z : StP) (v : Value), l[i]? = some z → vs[i]? = some v → m z.f = some v) →
      (∀ h' tk', (∀ b o, b ≠ dx → s.heap.get? b = some o → h'.get? b = some o) → h'.Ns1 dx (putAll ((l.map (·.f)).zip vs) m0) → R (.ok (.ret .none)) { s with heap := h', toks := tk' }) →
      wpAny (model prog w) A (execs (stB l) (envX name scope L a cd cells)) (fun fl s' => R (.ok (.ret (match fl with | .ret v => v | _ => .none))) s') E s := by
  intro l
  induction l with
  | nil =>
    intro vs s m0 nl hl X hn hx hns hw hz hloc hval hq
    cases vs with
    | cons _ _ => cases hl
    | nil => exact wpAny_execs_nil (hq s.heap s.toks (fun b o _ e => e) hns)
  | cons z r ih =>
    intro vs s m0 nl hl X hn hx hns hw hz hloc hval hq
    cases vs with
    | nil => cases hl
    | cons v vs =>
      obtain ⟨l1, l2, l3⟩ := hloc z List.mem_cons_self
      obtain ⟨oD, esD, epD, hoD, _, _⟩ := hns.count hw
      refine wpAny_execs_cons (plainObj_wpAny_Assign_Attribute ?_)
      refine ldK hn (hval 0 z v rfl rfl) ?_ hk l1 l2
      refine ldK hn hself ?_ hk lself (by decide)
      refine set_plain X (ox := { cls := .ref C, dict := some dx, data := .fields fv }) (od := some oD) ⟨hx, rfl, rfl, hoD⟩ hsa ?_
      refine PySem.OEX.osa_old X hx hns hw (by rw [List.length_cons] at hz; omega) hcd hm hh l3 fun h' tk' k hn' => ?_
      have X' : K.In h' := fun b o e => k b o (fun q => by rw [q, hnd] at e; cases e) (X b o e)
      obtain ⟨oL, esL, epL, hL, hrL⟩ := hn
      refine ih vs ⟨h', s.gens, s.drawn, tk', s.os⟩ _ (z.f :: nl) (by simpa using hl) X' ⟨oL, esL, epL, k _ _ (Ne.symm hdL) hL, hrL⟩ (k _ _ hxd hx) hn' (Within.cons z.f v hw) (by rw [List.length_cons] at hz ⊢; omega)
        (fun y hy => hloc y (List.mem_cons_of_mem _ hy)) (fun i y u h1 h2 => hval (i + 1) y u h1 h2) fun h2 t2 k2 n2 => ?_
      exact hq h2 t2 (fun b o hb e => k2 b o hb (k b o hb e)) n2
end
end SupX
end PySem
end
section
set_option Elab.async false
set_option linter.all false
set_option maxRecDepth 100000
set_option maxHeartbeats 2000000
namespace PySem
namespace SupX
open PySem.W PySem.Calls PyProof.Rows PySem.HandSPX

structure SupScope (scope : Scope) (l : List StP) : Prop where
  kind : scope.kind = .function
  co : scope.isCoroutine = false
  gen : scope.isGenerator = false
  cell : ∀ x ∈ scope.names, x.2 ≠ .cell
  self : scope.names.lookup ("self" : Str) = some .local
  sup : scope.names.lookup ("super" : Str) = some .globalImplicit
  clsv : scope.names.lookup ("__class__" : Str) = some .free
  loc : ∀ z ∈ l, scope.names.lookup z.f = some .local ∧ (z.f == ("__debug__" : Str)) = false
  nd : (("self" : Str) :: l.map (·.f)).Nodup
structure SupTxt (prog : Program) (K : Frag) (C fI : Addr) (qual : Str) (params : Arguments) (body : List Stmt) (scope : Scope) (l : List StP) : Prop where
  cls : ∃ nm q N bs bm sn sub ab col dd k0 k1 k2 k3 k5, K.lookup C = some (excClassObj nm q C N bs bm true sn sub ab col dd k0 k1 k2 k3 k5 "ValueError.__new__") ∧ refsVE bm = true
  sa : findIn K (.ref C) "__setattr__" = some (some (.builtin "object.__setattr__"))
  noat : ∀ z ∈ l, findIn K (.ref C) z.f = some none
  iC : findIn K (.ref C) "__init__" = some (some (.ref fI))
  tC : typeIn K (.ref fI) = some (.type "function")
  kC : keepIn K (.ref C) = true
  exC : subIn K (.ref C) (.type "BaseException") = some true
  veC : subIn K (.ref C) (.type "ValueError") = some true
  tyC : typeIn K (.ref C) = some (.type "type")
  mro : mroIn K C (.ref C) = some true
  sup : ks_superIn K C C "__init__" = some (some (.builtin "ValueError.__init__"))
  opq : nsIn K cStatics "thirdparty.any" = some none
  fn : ∃ (oc : Value) (od : Option Addr) (osl : Array (Option Value)) (kV doc pm : Value) (an : Option Addr) (cda : Addr) (ct : Value) (cc : Addr) (ccl : Value) (cdd : Option Addr) (cvs : Array Value) (ccs : Array (Option Value)) (file : Str) (tf : Tok) (cl : Value) (cld : Option Addr) (csl : Array (Option Value)),
    K.lookup fI = some ⟨oc, od, .func (ksFn "__init__" qual params body scope .none kV doc pm an (.ref cda) ct cc), osl⟩ ∧ codeIn K (.ref cda) qual = true ∧
    K.lookup cda = some ⟨ccl, cdd, .fields cvs, ccs⟩ ∧ cvs[2]? = some (.str file tf) ∧ ((prog.main.file : Str) == file) = true ∧ K.lookup cc = some ⟨cl, cld, .cell (some (.ref C)), csl⟩
structure InitEnd (h h' : Heap) (x C dx t1 : Addr) (l : List StP) (vs : List Value) : Prop where
  keep : ∀ b o, b ≠ x → h.get? b = some o → h'.get? b = some o
  obj : h'.get? x = some { cls := .ref C, dict := some dx, data := .fields #[.ref t1, .none, .none, .none, .bool false, .none] }
  dbig : h.objs.size ≤ dx
  dne : dx ≠ x
  ns : h'.Ns1 dx (putAll ((l.map (·.f)).zip vs) fun _ => none)

section
variable {prog : Program} {w : World} {A : Around} {E : Value → Shared → Prop} {R : Result → Shared → Prop} {s : Shared} {K : Frag} {mg mb : Str → Option Value} {C fI : Addr} {qual : Str} {params : Arguments} {scope : Scope} {msg : Expr} {p0 p1 p2 p3 p4 : Pos} {z0 : StP} {l : List StP}
/-- what the places of the text decide -/
structure SupPos (qual : Str) (scope : Scope) (fI : Addr) (msg : Expr) (p0 p1 p2 p3 p4 : Pos) : Prop where
  ev : ∀ (L : Addr) (cda cc : Addr), ∃ pl : Sem Bool, eval (.Call (.Attribute (.Call (.Name "super" p0) [] [] p1) "__init__" p2) [msg] [] p3) (ksEnv qual scope L fI (.ref cda) cc) = (do
      let ov ← attributeBase (.Call (.Name "super" p0) [] [] p1) "__init__" (ksEnv qual scope L fI (.ref cda) cc) (eval (.Call (.Name "super" p0) [] [] p1) (ksEnv qual scope L fI (.ref cda) cc))
      standAt p2.atName
      let (f, first) ← holding [ov] (getMethod ov "__init__" pl)
      callWith p3 f first (backTo p3 (starEach [msg] (ksEnv qual scope L fI (.ref cda) cc))) [])
  it : ∀ (L : Addr) (cda cc : Addr), interactive (ksEnv qual scope L fI (.ref cda) cc) = false
  st : ∀ (L : Addr) (cda cc : Addr), backTo p3 (starEach [msg] (ksEnv qual scope L fI (.ref cda) cc)) = [(false, eval msg (ksEnv qual scope L fI (.ref cda) cc))]
theorem sup_init (PP : SupPos qual scope fI msg p0 p1 p2 p3 p4) (T : SupTxt prog K C fI qual params (iB msg p0 p1 p2 p3 p4 (z0 :: l)) scope (z0 :: l)) (S : SupScope scope (z0 :: l)) (htop : (prog.main.scope.names.lookup ("super" : Str)).isSome = false)
    (hhead : ∃ ar : Arg, (params.posonlyargs ++ params.args).head? = some ar ∧ ar.arg = "self")
    (hbind : ∀ (kV doc pm : Value) (an : Option Addr) (cda : Addr) (ct : Value) (cc : Addr) (us : List Value), us.length = l.length + 2 →
      bindArgs (ksFn "__init__" qual params (iB msg p0 p1 p2 p3 p4 (z0 :: l)) scope .none kV doc pm an (.ref cda) ct cc) ⟨us, []⟩ = pure ((("self" : Str) :: (z0 :: l).map (·.f)).zip us))
    {x t0 : Addr} {vs : List Value} (X : K.In s.heap) (hlim : s.heap.NoLimit) (hG : s.heap.Ns mainGlobals mg) (gs : mg "super" = none) (hB : s.heap.Ns builtinsNs mb) (bsup : mb "super" = some (.type "super"))
    (hl : vs.length = l.length + 1) (hx : s.heap.get? x = some (excO C t0)) (hnx : K.lookup x = none) (hroom : A.depth < recursionLimit) (hl2 : l.length ≤ 800)
    (hmsg : ∀ (L cda cc : Addr), MsgOk prog w (ksEnv qual scope L fI (.ref cda) cc) (fun y => (((("self" : Str) :: (z0 :: l).map (·.f)).zip (.ref x :: vs)).reverse).lookup y) msg)
    (hq : ∀ h' tk dx t1, InitEnd s.heap h' x C dx t1 (z0 :: l) vs → R (.ok (.ret .none)) { s with heap := h', toks := tk }) :
    codeAny (model prog w) A (.call (.ref fI) ⟨.ref x :: vs, []⟩) R s := by
  obtain ⟨oc, od, osl, kV, doc, pm, an, cda, ct, cc, ccl, cdd, cvs, ccs, file, tf, cl, cld, csl, ho, hcd, hcode, hvs, hfile, hcell⟩ := T.fn
  obtain ⟨nm, q, N, bs, bm, sn, sub, ab, col, dd, k0, k1, k2, k3, k5, hC, hbm⟩ := T.cls
  have hcl : clsIn K C = some { name := nm, bases := bs, mro := .ref C :: bm, ns := N, qualname := q, hasDict := true, slotNames := sn, subclasses := sub, abstract := ab, collection := col, hasDel := false } := by unfold clsIn; rw [hC] <;> rfl
  obtain ⟨ar, har, hself⟩ := hhead
  have hlen : (Value.ref x :: vs).length = l.length + 2 := by rw [List.length_cons, hl]
  have hzl : ((("self" : Str) :: (z0 :: l).map (·.f)).zip (Value.ref x :: vs)).map (·.1) = ("self" : Str) :: (z0 :: l).map (·.f) := by
    rw [← List.unzip_fst, List.unzip_zip (by rw [hlen]; simp)]
  have hnd : (((("self" : Str) :: (z0 :: l).map (·.f)).zip (Value.ref x :: vs)).map (·.1)).Nodup := by rw [hzl]; exact S.nd
  have hm0 : ((("self" : Str) :: (z0 :: l).map (·.f)).zip (Value.ref x :: vs)).reverse.lookup ("self" : Str) = some (.ref x) := lookup_rev hnd List.mem_cons_self
  have hmi : ∀ (i : Nat) (z : StP) (v : Value), (z0 :: l)[i]? = some z → vs[i]? = some v → ((("self" : Str) :: (z0 :: l).map (·.f)).zip (Value.ref x :: vs)).reverse.lookup z.f = some v := fun i z v h1 h2 => by
    refine lookup_rev hnd (List.mem_cons_of_mem _ ?_)
    refine List.mem_iff_getElem?.mpr ⟨i, ?_⟩
    exact List.getElem?_zip_eq_some.mpr ⟨by rw [List.getElem?_map, h1]; rfl, h2⟩
  refine ks_codeAny_call_defAt (fd := ksFn "__init__" qual params (iB msg p0 p1 p2 p3 p4 (z0 :: l)) scope .none kV doc pm an (.ref cda) ct cc) (body := iB msg p0 p1 p2 p3 p4 (z0 :: l)) (binds := (("self" : Str) :: (z0 :: l).map (·.f)).zip (Value.ref x :: vs)) hroom (X _ _ ho) rfl hlim (codeRec_of X hcd) rfl (BindsTo.of_eq (hbind kV doc pm an cda ct cc _ hlen)) S.cell (fun y hy => ?_) (fun h₁ hns k => ?_) S.co S.gen S.kind
  · have hy1 : y.1 ∈ ("self" : Str) :: (z0 :: l).map (·.f) := (List.of_mem_zip (a := y.1) (b := y.2) hy).1
    rcases List.mem_cons.mp hy1 with e | e
    · rw [e]; exact S.self
    · obtain ⟨z, hz, e2⟩ := List.mem_map.mp e
      rw [← e2]; exact (S.loc z hz).1
  · obtain ⟨hh, g, d, t, os⟩ := s
    have X₁ : K.In h₁ := X.keeps k
    have hx₁ := k _ _ hx
    have hxL : x ≠ hh.objs.size := Nat.ne_of_lt (Heap.lt_size hx)
    show _root_.PySem.wpAt (model prog w) (A.deeper (ksEnv qual scope hh.objs.size fI (.ref cda) cc)) (.func _ (ksEnv qual scope hh.objs.size fI (.ref cda) cc)) (execs (iB msg p0 p1 p2 p3 p4 (z0 :: l)) (ksEnv qual scope hh.objs.size fI (.ref cda) cc)) _ _ _
    obtain ⟨pl, hev⟩ := PP.ev hh.objs.size cda cc
    refine ks_wpAt_execs_cons (ks_wpAt_Expr_any (ks_wpAt_MethodCall (pl := pl) ?_ hev) (PP.it _ _ _))
    have I₁ : InstAt h₁ x (excO C t0) C none := ⟨hx₁, rfl, rfl, trivial⟩
    refine ks_wpAt_super_base (env := ksEnv qual scope hh.objs.size fI (.ref cda) cc) S.sup S.clsv (by decide) rfl (X₁ _ _ ho) rfl har rfl (X₁ _ _ hcode) rfl hvs hfile htop ?_
    refine ks_loadName_global S.kind S.sup (loadGlobal_builtin (env := ksEnv qual scope hh.objs.size fI (.ref cda) cc) (hG.keeps k) gs (hB.keeps k) bsup ⟨rfl, ?_⟩)
    refine wpAny_loadName_free S.kind S.clsv rfl ⟨_, X₁ _ _ hcell, rfl⟩ ?_
    rw [hself]
    refine wpAny_loadName_local S.kind S.self hns hm0 ?_
    refine ks_wpAny_isType_cls (X₁ _ _ hC) rfl ⟨rfl, ?_⟩
    refine ks_wpAny_call_super (X₁ _ _ hC) rfl I₁.at_ I₁.cls (fun c e => by cases e) (looks_mroIn X₁ T.mro) (fun h₂ e₂ k₂ => ?_)
    have X₂ : K.In h₂ := X₁.keeps k₂
    have I₂ : InstAt h₂ x (excO C t0) C none := ⟨k₂ _ _ hx₁, rfl, rfl, trivial⟩
    have hsup := T.sup
    unfold ks_superIn at hsup
    rw [hcl] at hsup
    refine kxs_getMethod kxs_ValueError e₂ (looks_opaque X₂ T.opq) (l₀ := .ref C :: bm) (fun A Q E s k q => wpAny_bind ((looks_clsIn X₂ hcl) A _ E s k (wpAny_pure q))) rfl X₂ hsup (I₂.type.andThen (looks_subIn X₂ T.veC)) (ks_ne X₂ I₂ hcl) (by decide) ?_
    rw [PP.st]
    refine kxs_callWith (i := "ValueError.__init__") (x := x) (by rfl) (evalArgs_plain ?_)
    obtain ⟨oL, esL, epL, hL, hrL⟩ := hns
    have k₃ : ∀ b o, h₂.get? b = some o → (h₂.push (kxs_mw "ValueError.__init__" x)).get? b = some o := fun b o e => Heap.get?_push_of_some _ e
    refine spliced_cons ?_
    refine hmsg hh.objs.size cda cc _ _ _ _ ⟨oL, esL, epL, k₃ _ _ (k₂ _ _ hL), hrL⟩ fun v tk => ?_
    refine spliced_nil ?_
    have hmw : (h₂.push (kxs_mw "ValueError.__init__" x)).get? h₂.objs.size = some (kxs_mw "ValueError.__init__" x) := Heap.get?_push_at rfl rfl
    refine ⟨hmw, ?_⟩
    have X₃ : K.In (h₂.push (kxs_mw "ValueError.__init__" x)) := X₂.keeps k₃
    refine call_mw (X₃ _ _ hC) hbm (k₃ _ _ I₂.at_) hmw (by show 1 ≤ sizeLine; rw [sizeLine_eq]; decide) fun h₄ t₄ k₄ e₄ => ?_
    have kx : ∀ b o, b ≠ x → h₁.get? b = some o → h₄.get? b = some o := fun b o hb e => k₄ b o hb (k₃ _ _ (k₂ _ _ e))
    refine wpAt_of_wpAny ?_
    have hn₄ : h₄.Ns hh.objs.size (fun y => (((("self" : Str) :: (z0 :: l).map (·.f)).zip (Value.ref x :: vs)).reverse).lookup y) := ⟨oL, esL, epL, kx _ _ (Ne.symm hxL) hL, hrL⟩
    have X₄ : K.In h₄ := fun b o e => kx b o (fun q => by rw [q, hnx] at e; cases e) (X₁ b o e)
    cases vs with
    | nil => cases hl
    | cons v0 vr =>
      obtain ⟨l1, l2⟩ := S.loc z0 List.mem_cons_self
      show wpAny _ _ (execs (stB (z0 :: l)) _) _ _ _
      refine wpAny_execs_cons (plainObj_wpAny_Assign_Attribute ?_)
      refine ldK hn₄ (hmi 0 z0 v0 rfl rfl) ?_ S.kind l1 l2
      refine ldK hn₄ hm0 ?_ S.kind S.self (by decide)
      refine set_plain X₄ (ox := excO C t₄) (od := none) ⟨e₄, rfl, rfl, trivial⟩ T.sa ?_
      refine exc_osa X₄ e₄ hcl (show refsVE (.ref C :: bm) = true from hbm) rfl (T.noat z0 List.mem_cons_self) fun h₅ tk₅ dx k₅ dn dne hx₅ hn₅ => ?_
      have dL : dx ≠ hh.objs.size := fun q => by
        have z := Heap.lt_size (kx _ _ (Ne.symm hxL) hL)
        rw [← q] at z
        exact absurd (Nat.lt_of_lt_of_le z dn) (Nat.lt_irrefl _)
      have sz : hh.objs.size ≤ dx := Nat.le_trans (Nat.le_of_lt (Heap.lt_size (kx _ _ (Ne.symm hxL) hL))) dn
      have dK : K.lookup dx = none := by
        cases e : K.lookup dx with
        | none => rfl
        | some o => exact absurd (Nat.lt_of_lt_of_le (Heap.lt_size (X₄ _ _ e)) dn) (Nat.lt_irrefl _)
      have X₅ : K.In h₅ := fun b o e => k₅ b o (fun q => by rw [q, hnx] at e; cases e) (X₄ b o e)
      refine stores_old S.kind hcl (show refsVE (.ref C :: bm) = true from hbm) rfl T.sa hm0 S.self hxL dL hnx dK (Ne.symm dne) l vr ⟨h₅, g, d, tk₅, os⟩ _ [z0.f] (by simpa using hl) X₅ ⟨oL, esL, epL, k₅ _ _ (Ne.symm hxL) (kx _ _ (Ne.symm hxL) hL), hrL⟩ hx₅ hn₅ ?_ (by show 1 + l.length ≤ 900; omega)
        (fun z hz => ⟨(S.loc z (List.mem_cons_of_mem _ hz)).1, (S.loc z (List.mem_cons_of_mem _ hz)).2, T.noat z (List.mem_cons_of_mem _ hz)⟩) (fun i z u e1 e2 => hmi (i + 1) z u e1 e2) fun h₆ t₆ k₆ n₆ => ?_
      · intro y hy
        by_cases e : y = z0.f
        · rw [e]; exact List.mem_cons_self
        · have hy2 : (if y = z0.f then some v0 else none) ≠ none := hy
          rw [if_neg e] at hy2
          exact absurd rfl hy2
      · refine hq h₆ t₆ dx t₄ ⟨fun b o hb e => ?_, k₆ _ _ (Ne.symm dne) hx₅, sz, dne, n₆⟩
        have hbd : b ≠ dx := fun q => by
          have z := Heap.lt_size e
          rw [q] at z
          exact absurd (Nat.lt_of_lt_of_le z sz) (Nat.lt_irrefl _)
        exact k₆ _ _ hbd (k₅ _ _ hb (kx _ _ hb (k _ _ e)))

/-- a made one -/
structure Made (h h' : Heap) (e C d : Addr) (fs : List Str) (us : List Value) : Prop where
  keep : ∀ b o, h.get? b = some o → h'.get? b = some o
  new : h.objs.size ≤ e
  obj : ∃ oe vs, h'.get? e = some oe ∧ oe.cls = .ref C ∧ oe.dict = some d ∧ oe.data = .fields vs ∧ vs[1]? = some .none
  dbig : h.objs.size ≤ d
  dne : d ≠ e
  ns : h'.Ns1 d (putAll (fs.zip us) fun _ => none)
theorem sup_made (PP : SupPos qual scope fI msg p0 p1 p2 p3 p4) (T : SupTxt prog K C fI qual params (iB msg p0 p1 p2 p3 p4 (z0 :: l)) scope (z0 :: l)) (S : SupScope scope (z0 :: l)) (htop : (prog.main.scope.names.lookup ("super" : Str)).isSome = false)
    (hhead : ∃ ar : Arg, (params.posonlyargs ++ params.args).head? = some ar ∧ ar.arg = "self")
    (hbind : ∀ (kV doc pm : Value) (an : Option Addr) (cda : Addr) (ct : Value) (cc : Addr) (us : List Value), us.length = l.length + 2 →
      bindArgs (ksFn "__init__" qual params (iB msg p0 p1 p2 p3 p4 (z0 :: l)) scope .none kV doc pm an (.ref cda) ct cc) ⟨us, []⟩ = pure ((("self" : Str) :: (z0 :: l).map (·.f)).zip us))
    {vs : List Value} (X : K.In s.heap) (hlim : s.heap.NoLimit) (hG : s.heap.Ns mainGlobals mg) (gs : mg "super" = none) (hB : s.heap.Ns builtinsNs mb) (bsup : mb "super" = some (.type "super"))
    (hl : vs.length = l.length + 1) (hroom : A.depth + 1 < recursionLimit) (hl2 : l.length ≤ 800)
    (hmsg : ∀ (x L cda cc : Addr), MsgOk prog w (ksEnv qual scope L fI (.ref cda) cc) (fun y => (((("self" : Str) :: (z0 :: l).map (·.f)).zip (.ref x :: vs)).reverse).lookup y) msg)
    (hq : ∀ h' tk e d, Made s.heap h' e C d ((z0 :: l).map (·.f)) vs → R (.ok (.ret (.ref e))) { s with heap := h', toks := tk }) :
    codeAny (model prog w) A (.call (.ref C) ⟨vs, []⟩) R s := by
  obtain ⟨nm, q, N, bs, bm, sn, sub, ab, col, dd, k0, k1, k2, k3, k5, hC, hbm⟩ := T.cls
  obtain ⟨hp, g, dr, tk, os⟩ := s
  have k : ∀ b o, hp.get? b = some o → ((hp.push (kdv_tup vs)).push (excO C hp.objs.size)).get? b = some o := fun b o e => Heap.get?_push_of_some _ (Heap.get?_push_of_some _ e)
  have hget : ((hp.push (kdv_tup vs)).push (excO C hp.objs.size)).get? (hp.objs.size + 1) = some (excO C hp.objs.size) := by heap_get
  have hnx : K.lookup (hp.objs.size + 1) = none := by
    cases e : K.lookup (hp.objs.size + 1) with
    | none => rfl
    | some o =>
      have z : hp.get? (hp.objs.size + 1) = some o := X _ _ e
      exact absurd (Nat.lt_of_succ_lt (Heap.lt_size z)) (Nat.lt_irrefl _)
  have hvl : vs.length ≤ sizeLine := by
    rw [sizeLine_eq]
    omega
  refine call_own F.excBase_ValueError (fun X => refsVE_contains X bm hbm) (X _ _ hC) (looks_findIn X T.iC) (fun self => bind_fn X self T.tC) hvl ?_
  refine sup_init (s := ⟨(hp.push (kdv_tup vs)).push (excO C hp.objs.size), g, dr, tk, os⟩) PP T S htop hhead hbind (X.keeps k) (hlim.keeps k) (hG.keeps k) gs (hB.keeps k) bsup hl hget hnx ?_ hl2 (hmsg _) fun h' tk' dx t1 M => ?_
  · show A.depth + 1 < recursionLimit
    exact hroom
  · have dn : ((hp.push (kdv_tup vs)).push (excO C hp.objs.size)).objs.size ≤ dx := M.dbig
    have old : ∀ b o, hp.get? b = some o → h'.get? b = some o := fun b o e => M.keep b o (Nat.ne_of_lt (Nat.lt_succ_of_lt (Heap.lt_size e))) (k b o e)
    rw [Heap.size_push, Heap.size_push] at dn
    exact ⟨rfl, hq h' tk' (hp.objs.size + 1) dx ⟨old, Nat.le_succ _, ⟨_, _, M.obj, rfl, rfl, rfl, rfl⟩, (by show hp.objs.size ≤ dx; omega), M.dne, M.ns⟩⟩
end
/-- a class that is made by C(..): what its caller needs -/
structure SupCls (prog : Program) (w : World) (K : Frag) (mg : Str → Option Value) (x : Str) (C : Addr) (fs : List Str) (P : List L2.V → Prop) : Prop where
  gC : mg x = some (.ref C)
  gs : mg "super" = none
  kC : keepIn K (.ref C) = true
  exC : subIn K (.ref C) (.type "BaseException") = some true
  tyC : typeIn K (.ref C) = some (.type "type")
  made : ∀ (A : Around) (s : Shared) (R : Result → Shared → Prop) (mb : Str → Option Value) (vs : List L2.V) (us : List Value), L2.Vals vs us → P vs → vs.length = fs.length → K.In s.heap → s.heap.NoLimit → s.heap.Ns mainGlobals mg → s.heap.Ns builtinsNs mb → mb "super" = some (.type "super") → A.depth + 1 < recursionLimit →
    (∀ h' tk e d, Made s.heap h' e C d fs us → R (.ok (.ret (.ref e))) { s with heap := h', toks := tk }) → codeAny (model prog w) A (.call (.ref C) ⟨us, []⟩) R s
end SupX
end PySem
namespace L2
open PySem PySem.Spec PyProof.Rows
/-- the fields, the last one first -/
def xfs : List Str → List V → List (Str × V) → List (Str × V)
  | f :: fs, v :: vs, acc => xfs fs vs ((f, v) :: acc)
  | _, _, acc => acc
theorem xfs_ok : ∀ {fs : List Str} {vs : List V} {us : List Value} {acc : List (Str × V)} {m : Str → Option Value}, Vals vs us → (∀ f, RelO (acc.lookup f) (m f)) → ∀ f, RelO ((xfs fs vs acc).lookup f) (PySem.SupX.putAll (fs.zip us) m f)
  | [], _, _, _, _, _, r => r
  | _ :: _, [], _, _, _, .nil, r => r
  | g :: fs, v :: vs, _ :: us, acc, m, .cons rv rt, r => xfs_ok (fs := fs) rt (relO_put rv r)
section
variable {X : Cx} {C : Addr} {x : Str} {fs : List Str} {P : List V → Prop}
/-- C(e, ..) -/
def tMkSup (C : Addr) (fs : List Str) (P : List V → Prop) (ta : TA) : St → Hp → XK → Prop := fun σ H Q => ta σ H fun vs H1 => P vs ∧ vs.length = fs.length ∧ ∀ d, H1 d = none → Q (.ref C) (some d) (upd H1 d (.xd (xfs fs vs [])))
theorem pmk_sup {e : Expr} {es : List Expr} {ta : TA} {p pos : Pos} {k : Nat} (T : PySem.SupX.SupCls X.prog X.w X.K X.mg x C fs P) (hr : Room k X.A) (ha : PA X (e :: es) ta) (hg : Gl X x := by rfl) (hx : (x == ("__debug__" : Str)) = false := by decide)
    (he : starEach (e :: es) X.env = (false, eval e X.env) :: starEach es X.env := by rfl) (hpl : (backTo pos (starEach es X.env)).any (·.1) = false := by rfl) :
    PMk X (.Call (.Name x p) (e :: es) [] pos) (tMkSup C fs P ta) := by
  intro pins s σ H Q I h
  refine wpAny_Call_Name_kw (ld_glob I hg T.gC ?_ hx)
  refine PySem.W.callWith_K (h₀ := X.base) I.ok.mod.kin T.kC (thn (ha.run pos pins s σ H _ I h) fun us s1 hh => ?_) he hpl
  obtain ⟨vs, H1, I1, r1, hP, hl, q1⟩ := hh
  refine ⟨I1.kIn, ?_⟩
  show wpAny _ _ (call (.ref C) us) _ _ _
  have hlim := I1.nolimit
  obtain ⟨mb, hb1, hb2⟩ := I1.mod.blt
  have hG : s1.heap.Ns mainGlobals X.mg := I1.mod.glob.keeps I1.bk
  have hB : s1.heap.Ns builtinsNs mb := hb1.keeps I1.bk
  obtain ⟨hp, g, dr, tk, os⟩ := s1
  refine wpAny_call (T.made _ _ _ mb vs us r1 hP hl I1.kIn hlim hG hB ((hb2 _ (by decide)).trans (by decide +kernel)) (by have := hr.dp; omega) fun h' tk' e d M => ?_)
  show MkP X pins σ Q (.ref e) ⟨h', g, dr, tk', os⟩
  obtain ⟨oe, fv, hoe, hc, hd, hdat, h1⟩ := M.obj
  have hns := M.ns
  obtain ⟨G', g1, g2⟩ := restrict h' fun b => decide (b ≠ e)
  have gk : ∀ b, b ≠ e → G'.get? b = h'.get? b := fun b hb => g1 b (decide_eq_true hb)
  have ge : G'.get? e = none := g2 e (by simp)
  have old : ∀ b o, hp.get? b = some o → G'.get? b = some o := fun b o q => (gk b (Nat.ne_of_lt (Nat.lt_of_lt_of_le (Heap.lt_size q) M.new))).trans (M.keep b o q)
  have ob : ObjOk X.prog X.w (upd H1 d (.xd (xfs fs vs []))) G' d (.xd (xfs fs vs [])) :=
    ⟨_, hns.at (fun o q => (gk d M.dne).trans q), fun f => xfs_ok (acc := []) (m := fun _ => none) r1 (fun _ => True.intro) f⟩
  have J : Inv X pins σ (upd H1 d (.xd (xfs fs vs []))) ⟨G', g, dr, tk', os⟩ := I1.laid (t' := tk') old M.dbig ob
  refine ⟨e, oe, fv, ⟨G', g, dr, tk', os⟩, _, .ref C, some d, rfl, J, fun b o q => ?_, ge, hoe, ⟨hc, hd⟩, hdat, h1, ?_, rfl, I1.bare, raises_own T.exC T.tyC, q1 d (I1.hok.fresh M.dbig)⟩
  · by_cases hb : b = e
    · have q' : G'.get? b = some o := q
      rw [hb, ge] at q'
      cases q'
    · exact (gk b hb).symm.trans q
  · rw [upd_ne (Ne.symm M.dne)]
    exact I1.hok.fresh M.new
/-- raise C(e, ..) -/
def tRaiseSup (C : Addr) (fs : List Str) (P : List V → Prop) (W : WX) (ta : TA) : TS := fun _ σ H => tMkSup C fs P ta σ H fun cls d H' => W cls d σ H'
theorem ps_raiseSup {e : Expr} {es : List Expr} {ta : TA} {W : WX} {p pos pos2 : Pos} {k : Nat} (hc : X.calm = true) (T : PySem.SupX.SupCls X.prog X.w X.K X.mg x C fs P) (hr : Room k X.A) (tk : Takes X W) (ha : PA X (e :: es) ta) (hg : Gl X x := by rfl) (hx : (x == ("__debug__" : Str)) = false := by decide)
    (he : starEach (e :: es) X.env = (false, eval e X.env) :: starEach es X.env := by rfl) (hpl : (backTo pos (starEach es X.env)).any (·.1) = false := by rfl) :
    PS X (.Raise (some (.Call (.Name x p) (e :: es) [] pos)) none pos2) (tRaiseSup C fs P W ta) := ps_raise hc tk (pmk_sup T hr ha hg hx he hpl)
end
end L2
end
section
set_option Elab.async false
set_option linter.all false
set_option maxRecDepth 100000
set_option maxHeartbeats 2000000
/-! enumerate(t), t a tuple. -/
namespace PySem
theorem meets_enum_oneB {v : Value} {o : Obj} {H : Heap → Prop} (B : Begins v o H) :
    Meets (Builtin.«enumerate.__new__» ⟨[.type "enumerate", v], []⟩) (fun _ R s => H s.heap ∧
      R (.ok (.ret (.ref (s.heap.push o).objs.size))) { s with heap := (s.heap.push o).push { cls := .type "enumerate", data := .fields #[.none, .bool false, .ref s.heap.objs.size, rawInt 0, .none, .none] } }) :=
  .of_wp fun prog w A R s hh => by
    obtain ⟨hp, g, d, tk, os⟩ := s
    obtain ⟨hb, hr⟩ := hh
    have hsub := sub_enumerate
    have begun : ∀ {A' : Around} {E : Value → Shared → Prop} {Q : Value → Shared → Prop}, Q (.ref hp.objs.size) ⟨hp.push o, g, d, tk, os⟩ → wpAny (model prog w) A' (pyIter v) Q E ⟨hp, g, d, tk, os⟩ :=
      fun q => B.iter prog w _ _ ⟨hp, g, d, tk, os⟩ _ hb q
    wp_walk using begun
    refine wpAny_stack_any fun st => wpAny_pure ?_
    split
    · rename_i c _ _ _ _ _
      cases (c == Value.type "enumerate")
      all_goals
        wp_walk using begun
        exact ⟨_, rfl, hr⟩
    · wp_walk using begun
      exact ⟨_, rfl, hr⟩
section
variable {prog : Program} {w : World} {A : Around} {E : Value → Shared → Prop} {s : Shared}
theorem enum_begins1 {v : Value} {o : Obj} {H : Heap → Prop} {Q : Value → Shared → Prop} (B : Begins v o H) (h1 : H s.heap)
    (h : ∀ h', IsEnum h' (s.heap.objs.size + 1) s.heap.objs.size 0 .none → h'.get? s.heap.objs.size = some o → h'.objs.size = s.heap.objs.size + 2 →
      (∀ b o, s.heap.get? b = some o → h'.get? b = some o) → Q (.ref (s.heap.objs.size + 1)) { s with heap := h' }) :
    wpAny (model prog w) A (call (.type "enumerate") [v]) Q E s := by
  refine callType_new F.called_enumerate (by decide) (F.typeCall_enumerate_1 _) (F.newCall_enumerate_1 _) (fun obj => F.args_object_init_2 obj _) F.entry_enumerate_new (meets_enum_oneB B) ⟨h1, ?_⟩
  have hz : (s.heap.push o).objs.size = s.heap.objs.size + 1 := Heap.size_push ..
  show _ ∧ _
  rw [hz]
  have he : IsEnum ((s.heap.push o).push { cls := .type "enumerate", data := .fields #[.none, .bool false, .ref s.heap.objs.size, rawInt 0, .none, .none] }) (s.heap.objs.size + 1) s.heap.objs.size 0 .none := by
    have q := Heap.get?_push_size (s.heap.push o) (o := { cls := .type "enumerate", data := .fields #[.none, .bool false, .ref s.heap.objs.size, rawInt 0, .none, .none] }) rfl
    rw [hz] at q
    exact q
  exact ⟨⟨_, he, rfl⟩, h _ he (Heap.get?_push_of_some _ (Heap.get?_push_size _ B.free)) (by rw [Heap.size_push, hz]) fun b o x => Heap.get?_push_of_some _ (Heap.get?_push_of_some _ x)⟩
theorem enum_endT {e it l : Addr} {i : Nat} {items : Array Value} {c : Int} {old : Value} {Q : Option Value → Shared → Prop} (hh : A.in1.handled = none)
    (he : IsEnum s.heap e it c old) (hit : s.heap.IsTupleIter it l i) (hl : s.heap.IsTuple l items) (hx : items[i]? = none)
    (hQ : ∀ h', Heap.ExtBut it s.heap h' → Q none { s with heap := h' }) : wpAny (model prog w) A (pyNext (.ref e)) Q E s := by
  have ht : s.TypeIs (.ref e) "enumerate" := ⟨_, he, rfl⟩
  unfold pyNext
  refine wpAny_bind (wpAny_attempt (wpAny_callSpecial?_slot (name := Str.ofString "__next__") ht F.slot_enumerate_next
    (wpAny_call_entry F.slot_enumerate_next ht F.entry_enumerate_next ?_ (F.args_enumerate_next_1 _))))
  show wpAny _ _ (field (.ref e) 2 >>= _) _ _ _
  refine wpAny_bind (wpAny_field he rfl (x := .ref it) rfl (wpAny_bind (wpAny_nextOf_tuple_end hh hit hl hx fun h' x he' hx' => ?_)))
  obtain ⟨o, ho, hc⟩ := hx'
  refine wpAny_bind (wpAny_isInstance (T := "StopIteration") (b := true) ⟨o, ho, hc⟩ isSubtype_stop ?_)
  exact wpAny_pure (hQ _ he')
end
end PySem
namespace L2
open PySem PySem.Spec PyProof.Rows
/-- the tuple at a as it stands at each turn, each item in a new pair -/
def IteT (K : PySem.W.Frag) (a : Addr) : It :=
  ⟨fun i H => ∃ (xs : List V) (x : V), SqT K H a xs ∧ xs[i]? = some x, fun i H v H' => ∃ T x, v = .ref T ∧ H T = none ∧ H' = upd H T (.tup [.int (i : Nat), x]) ∧ ∀ xs, SqT K H a xs → xs[i]? = some x, fun i H => ∃ xs : List V, SqT K H a xs ∧ xs.length ≤ i⟩
theorem turn_enumT {P : Program} {w : World} {K : PySem.W.Frag} {elts : List Expr} {kk : Nat} {tpos : Pos} (a e it : Addr) (ha : a ≠ it) (hae : a ≠ e) :
    Turn P w K (.Tuple elts kk tpos) (IteT K a) [e, it] e (fun i h => (∃ old, IsEnum h e it ((i : Nat) : Int) old) ∧ h.IsTupleIter it a i ∧ e ≠ it) where
  mem := by simp
  obj := fun i h st b hb => by
    obtain ⟨⟨old, he⟩, ⟨o, ho, hc, hd⟩, _⟩ := st
    have e' : b = e ∨ b = it := by simpa using hb
    rcases e' with z | z
    · rw [z]; exact ⟨_, he, fun v q => nomatch q⟩
    · rw [z]; exact ⟨o, ho, fun v q => by rw [hd] at q; cases q⟩
  keep := fun i h h' st k => let ⟨⟨old, he⟩, hi, hne⟩ := st; ⟨⟨old, k e (by simp) _ he⟩, hi.at fun o q => k it (by simp) o q, hne⟩
  item := by
    intro X hP hw hK hc i pins s σ H E I hf st hg
    subst hP hw hK
    obtain ⟨⟨old, he⟩, hit, hne⟩ := st
    obtain ⟨xs, x, hq, hx⟩ := hg
    obtain ⟨its, rv, p, hz⟩ := I.tuple hq
    obtain ⟨u, hu, ru⟩ := rv.get hx
    have hil : i < its.toArray.size := by
      have z := (List.getElem?_eq_some_iff.mp hu).1
      simpa using z
    have D := Draws.tuple (prog := X.prog) (w := X.w) (A := X.A.in1) (I.ok.hd hc) it a ha its.toArray
    have hel : e < s.heap.objs.size := Heap.lt_size he
    have hill : it < s.heap.objs.size := by obtain ⟨_, q, _⟩ := hit; exact Heap.lt_size q
    refine wpAny_pyNext_enum_itemD D he ⟨hit, p⟩ hil hne (by simp [hne, Ne.symm hae]) fun x1 h' tk hP ho hit' hT hsz hk => ?_
    obtain rfl : x1 = u := by
      have z : its.toArray[i]? = some x1 := hP
      have z2 : its[i]? = some x1 := by simpa using z
      rw [hu] at z2
      exact (Option.some.inj z2).symm
    refine ⟨_, rfl, wpAny_letOwnedTupleGo_enum (s := { s with heap := h', toks := tk + 1 }) ho fun h'' he' sb => ?_⟩
    have hT2 : h''.get? s.heap.objs.size = some { cls := .type "tuple", data := .seq #[.int i tk, x1] } := (sb.2 _ (Nat.ne_of_gt hel)).trans hT
    have new : ObjOk X.prog X.w (upd H s.heap.objs.size (.tup [.int (i : Nat), x])) h'' s.heap.objs.size (.tup [.int (i : Nat), x]) :=
      ⟨by show 2 ≤ sizeLine; decide, [.int i tk, x1], .cons ⟨_, rfl⟩ (.cons ru .nil), ⟨_, hT2, rfl, _, rfl⟩⟩
    have I1 : Inv X pins σ (upd H s.heap.objs.size (.tup [.int (i : Nat), x])) { s with heap := h'', toks := tk + 1 } :=
      I.turnedNew (ch := [e, it]) (fun b ob hb q => (sb.2 b (fun z => hb (by simp [z]))).trans (hk b ob (fun z => hb (by simp [z])) (fun z => hb (by simp [z])) q)) hf (Nat.le_refl _) new
    refine ⟨.ref s.heap.objs.size, _, I1, rfl, ⟨_, x, rfl, I.hok.fresh (Nat.le_refl _), rfl, fun ys hy => by rw [I.tuple_inj hy hq]; exact hx⟩, ⟨⟨x1, ?_⟩, hit'.1.at fun o q => (sb.2 it (Ne.symm hne)).trans q, hne⟩, fun b hb => ?_⟩
    · have e1 : ((i + 1 : Nat) : Int) = (i : Int) + 1 := by omega
      rw [e1]; exact he'
    · have hb' : b < s.heap.objs.size := by
        have e' : b = e ∨ b = it := by simpa using hb
        rcases e' with z | z
        · rw [z]; exact hel
        · rw [z]; exact hill
      rw [upd_ne (Nat.ne_of_lt hb')]
      exact (hf b hb).1
  done := by
    intro X hP hw hK hc i pins s σ H E I hf st hg
    subst hP hw hK
    obtain ⟨⟨old, he⟩, hit, hne⟩ := st
    obtain ⟨xs, hq, hx⟩ := hg
    obtain ⟨its, rv, p, hz⟩ := I.tuple hq
    obtain ⟨f0, f1, f2, f3, f4, f5⟩ := hf it (by simp)
    have hl := rv.length
    exact enum_endT (I.ok.hd hc) he hit (show s.heap.IsTuple a its.toArray from p) (by simp; omega) fun h' eb => ⟨rfl, I.turned (t' := s.toks) (fun b o hb q => eb b o hb q) f0 f1 f3 f4 f5⟩
  self := fun A i s Q E st h => let ⟨⟨_, he⟩, _⟩ := st; wpAny_pyIter_enum he h
def iEnumT (K : PySem.W.Frag) (ta : TA) : TI := fun σ H R => ta σ H fun vs H1 => ∃ a xs, vs = [.ref a] ∧ SqT K H1 a xs ∧ R (IteT K a) H1
theorem pi_enumT {X : Cx} {e : Expr} {ta : TA} {p pos tpos : Pos} {elts : List Expr} {kk : Nat} (hg : Gl X "enumerate") (hm : X.mg "enumerate" = none) (ha : PA X [e] ta) (hs : starEach [e] X.env = [(false, eval e X.env)] := by rfl) :
    PI X (.Tuple elts kk tpos) (.Call (.Name "enumerate" p) [e] [] pos) (iEnumT X.K ta) := by
  refine ⟨fun pins s σ H R I h => ?_⟩
  refine Call_ (ld_blt I hg hm boot_enumerate (PyProof.Rows.callWith_type1 (thn (ha.run pos pins s σ H _ I h) fun us s1 ⟨vs, H1, I1, r1, q1⟩ => ?_) hs rfl))
  obtain ⟨a, xs, ex, hq, q⟩ := q1
  subst ex
  cases r1 with
  | cons r rr =>
    cases rr
    cases r
    obtain ⟨its, rv, p', hz⟩ := I1.tuple hq
    have hal : a < s1.heap.objs.size := by obtain ⟨_, z, _⟩ := p'; exact Heap.lt_size z
    refine enum_begins1 (begins_tuple a its.toArray) p' fun h' he hit hsz hk => wpAny_pyIter_enum he ?_
    have I2 : Inv X pins σ H1 { s1 with heap := h' } := I1.kept (t' := s1.toks) hk
    refine ⟨s1.heap.objs.size + 1, [s1.heap.objs.size + 1, s1.heap.objs.size], _, _, H1, rfl, I2, turn_enumT a (s1.heap.objs.size + 1) s1.heap.objs.size (Nat.ne_of_lt hal) (Nat.ne_of_lt (Nat.lt_succ_of_lt hal)), ⟨⟨.none, he⟩, ⟨_, hit, rfl, rfl⟩, Nat.succ_ne_self _⟩, fun b hb => ?_, q⟩
    have e' : b = s1.heap.objs.size + 1 ∨ b = s1.heap.objs.size := by simpa using hb
    have hle : s1.heap.objs.size ≤ b := by
      rcases e' with z | z
      · rw [z]; exact Nat.le_add_right _ _
      · rw [z]; exact Nat.le_refl _
    exact I1.fpOk hle (I1.hok.fresh hle)
end L2
end
section
set_option Elab.async false
set_option linter.all false
set_option maxRecDepth 100000
set_option maxHeartbeats 4000000
/-! What all laws of the yard lean on, over the hand layer. -/
namespace L2
open PySem PySem.Spec PyProof.Rows
section
variable {X : Cx}
/-! ### t * k, t not empty, 0 ≤ k -/
theorem tuple_mul0 (l : Addr) (items : Array Value) (n : Nat) (dd : Option Addr) (sl : Array (Option Value)) (x : Int) (u : Tok) (c0 : (decide (x < -(2 ^ 63)) || decide (x ≥ 2 ^ 63)) = false) (c1 : (items.isEmpty || x == 1) = false) (c2 : (decide (x ≤ 0) || items.isEmpty) = true) :
    Meets (Builtin.«tuple.__mul__» ⟨[.ref l, .int x u], []⟩) (fun _ R s => s.heap.get? l = some { cls := .type "tuple", dict := dd, data := .seq items n, slots := sl } ∧
      R (.ok (.ret (Value.ref s.heap.objs.size))) { s with heap := s.heap.push { cls := Value.type "tuple", data := Data.seq #[] }, toks := s.toks }) :=
  .of_wp fun prog w A R s h => by
    obtain ⟨hp, g, d, tk, os⟩ := s
    obtain ⟨hl, h⟩ := h
    have f1 := AutoSeq1.idx_int
    wp_walk using wpAny_loadPart' hl
    repeat (first
      | (refine wpAny_ite_false (decide_eq_false (by rw [c0]; exact Bool.false_ne_true)) ?_; wp_walk using wpAny_loadPart' hl)
      | (refine wpAny_ite_false (decide_eq_false (by rw [c1]; exact Bool.false_ne_true)) ?_; wp_walk using wpAny_loadPart' hl)
      | (refine wpAny_ite_true (decide_eq_true c2) ?_; wp_walk using wpAny_loadPart' hl))
    exact ⟨_, rfl, h⟩
theorem tuple_mul1 (l : Addr) (items : Array Value) (n : Nat) (sl : Array (Option Value)) (dd : Option Addr) (x : Int) (u : Tok) (c0 : (decide (x < -(2 ^ 63)) || decide (x ≥ 2 ^ 63)) = false) (c1 : (items.isEmpty || x == 1) = true) :
    Meets (Builtin.«tuple.__mul__» ⟨[.ref l, .int x u], []⟩) (fun _ R s => s.heap.get? l = some { cls := .type "tuple", dict := dd, data := .seq items n, slots := sl } ∧ R (.ok (.ret (Value.ref l))) s) :=
  .of_wp fun prog w A R s h => by
    obtain ⟨hp, g, d, tk, os⟩ := s
    obtain ⟨hl, h⟩ := h
    have f1 := AutoSeq1.idx_int
    wp_walk using wpAny_loadPart' hl
    repeat (first
      | (refine wpAny_ite_false (decide_eq_false (by rw [c0]; exact Bool.false_ne_true)) ?_; wp_walk using wpAny_loadPart' hl)
      | (refine wpAny_ite_true (decide_eq_true c1) ?_; wp_walk using wpAny_loadPart' hl))
    exact ⟨_, rfl, h⟩
def rRepG (K : PySem.W.Frag) : R2 := fun x y H Q => ∃ l k xs, x = .ref l ∧ y = .int k ∧ SqT K H l xs ∧ xs ≠ [] ∧ 0 ≤ k ∧ k ≤ 4000 ∧ xs.length ≤ 100 ∧ (k = 1 → Q (.ref l) H) ∧ (k ≠ 1 → ∀ p, H p = none → Q (.ref p) (upd H p (.tup (List.replicate k.toNat xs).flatten)))
theorem op_repG : OpR X (binaryOp .Mult) (rRepG X.K) := by
  intro pins s σ H x y v u Q I rx ry h
  obtain ⟨l, k, xs, rfl, rfl, hT, hne, h1, h2, hz, qs, qn⟩ := h
  cases rx
  obtain ⟨t, rfl⟩ := ry
  obtain ⟨its, r, ⟨⟨cls, dd, data, sl⟩, ho, hc, n, hd⟩, hs⟩ := I.tuple hT
  simp only at hc hd
  subst hc hd
  have hle : its.length = xs.length := r.length.symm
  have hn : its ≠ [] := fun e => hne (by
    rw [e] at hle
    exact List.eq_nil_of_length_eq_zero hle.symm)
  have hi : its.toArray.isEmpty = false := by
    cases its with
    | nil => exact absurd rfl hn
    | cons a b => rfl
  have hsz0 : its.toArray.size = xs.length := by rw [List.size_toArray, hle]
  have c0 : (decide (k < -(2 ^ 63)) || decide (k ≥ 2 ^ 63)) = false := by
    rw [decide_eq_false (by omega), decide_eq_false (by omega)] <;> rfl
  by_cases e1 : k = 1
  · have c1 : (its.toArray.isEmpty || k == 1) = true := by
      rw [hi, Bool.false_or]
      exact beq_iff_eq.mpr e1
    refine wpAny_binaryOp_repeat_ref (T := "tuple") (U := "int") (by decide) ⟨_, ho, rfl⟩ (fun s' => typeIs_int s' k t) noFill_tuple_mul F.fills_int_mul F.slot_int_rmul repeat_tuple F.slot_int_index.lookup
      (call_meets F.slot_int_rmul (typeIs_int s k t) F.entry_int_rmul (F.args_int_rmul_2 _ _) (int_rmul_tuple k t l its.toArray n dd sl)
        ⟨ho, rfl, ⟨_, ho, rfl⟩, call_meets F.slot_tuple_mul ⟨_, ho, rfl⟩ F.entry_tuple_mul (F.args_tuple_mul_2 _ _) (tuple_mul1 l its.toArray n sl dd k t c0 c1) ⟨ho, ?_⟩⟩)
    exact ⟨.ref l, H, I, rfl, qs e1⟩
  · have c1 : (its.toArray.isEmpty || k == 1) = false := by
      rw [hi, Bool.false_or]
      exact beq_eq_false_iff_ne.mpr e1
    by_cases e0 : k = 0
    · subst e0
      refine wpAny_binaryOp_repeat_ref (T := "tuple") (U := "int") (by decide) ⟨_, ho, rfl⟩ (fun s' => typeIs_int s' 0 t) noFill_tuple_mul F.fills_int_mul F.slot_int_rmul repeat_tuple F.slot_int_index.lookup
        (call_meets F.slot_int_rmul (typeIs_int s 0 t) F.entry_int_rmul (F.args_int_rmul_2 _ _) (int_rmul_tuple 0 t l its.toArray n dd sl)
          ⟨ho, rfl, ⟨_, ho, rfl⟩, call_meets F.slot_tuple_mul ⟨_, ho, rfl⟩ F.entry_tuple_mul (F.args_tuple_mul_2 _ _) (tuple_mul0 l its.toArray n dd sl 0 t c0 c1 rfl) ⟨ho, ?_⟩⟩)
      refine ⟨.ref s.heap.objs.size, _, I.laid (t' := s.toks) (o := .tup (List.replicate (0 : Int).toNat xs).flatten) (fun b ob q => Heap.get?_push_of_some _ q) (Nat.le_refl _) ?_, rfl, qn (by decide) _ (I.hok.fresh (Nat.le_refl _))⟩
      exact ⟨by rw [sizeLine_eq]; exact Nat.zero_le _, [], .nil, IsTup.new _ _⟩
    · have hm : ((its.toArray.size : Nat) : Int) * k ≤ 400000 := by
        rw [hsz0]
        have a1 : ((xs.length : Nat) : Int) * k ≤ 100 * k := Int.mul_le_mul_of_nonneg_right (by omega) (by omega)
        omega
      have flen : (List.replicate k.toNat its).flatten.length ≤ sizeLine := by
        rw [PyProof.Rows.lm_len_rep_flat, hle, sizeLine_eq]
        have a1 : k.toNat * xs.length ≤ 4000 * 100 := Nat.mul_le_mul (by omega) hz
        omega
      have c2 : (decide (k ≤ 0) || its.toArray.isEmpty) = false := by
        rw [hi, Bool.or_false]
        exact decide_eq_false (by omega)
      have c4 : Builtin.Tuple.tupleTooMany (((its.toArray.size : Nat) : Int) * k) = false := by
        unfold Builtin.Tuple.tupleTooMany
        rw [sizeLine_eq]
        exact decide_eq_false (by omega)
      refine wpAny_binaryOp_repeat_ref (T := "tuple") (U := "int") (by decide) ⟨_, ho, rfl⟩ (fun s' => typeIs_int s' k t) noFill_tuple_mul F.fills_int_mul F.slot_int_rmul repeat_tuple F.slot_int_index.lookup
        (call_meets F.slot_int_rmul (typeIs_int s k t) F.entry_int_rmul (F.args_int_rmul_2 _ _) (int_rmul_tuple k t l its.toArray n dd sl)
          ⟨ho, rfl, ⟨_, ho, rfl⟩, call_meets F.slot_tuple_mul ⟨_, ho, rfl⟩ F.entry_tuple_mul (F.args_tuple_mul_2 _ _) (tuple_mulW l its.toArray n dd sl k t c0 c1 c2 (by omega) c4 (by rw [size_rep, List.size_toArray]; exact flen)) ⟨ho, ?_⟩⟩)
      rw [size_rep]
      refine ⟨.ref s.heap.objs.size, _, I.laid (t' := s.toks) (o := .tup (List.replicate k.toNat xs).flatten) (fun b ob q => Heap.get?_push_of_some _ q) (Nat.le_refl _) ?_, rfl, qn e1 _ (I.hok.fresh (Nat.le_refl _))⟩
      exact ⟨by rw [PyProof.Rows.lm_len_rep_flat, sizeLine_eq]; have a1 : k.toNat * xs.length ≤ 4000 * 100 := Nat.mul_le_mul (by omega) hz; omega, _, r.rep k.toNat, IsTup.new _ _⟩

/-! ### t.count(x), t a tuple of texts -/
def eqs (z : Str) (v : Value) : Bool := match v with
  | .str y _ => y == z
  | _ => false
theorem eqs_count {z : Str} : ∀ {ys : List Str} {us : List Value}, Vals (ys.map V.str) us → us.countP (eqs z) = ys.count z
  | [], _, .nil => rfl
  | y :: ys, _, .cons r rt => by
    obtain ⟨t, rfl⟩ := r
    have ih := eqs_count (z := z) rt
    rw [List.countP_cons, List.count_cons, ih]
    rfl
theorem eqs_at {A : Around} {s : Shared} {z : Str} {t : Tok} : ∀ {ys : List Str} {us : List Value}, Vals (ys.map V.str) us → ∀ y ∈ us, SeqAt.EqAt A s y (.str z t) (eqs z y)
  | [], _, .nil, _, h => nomatch h
  | y :: ys, _, .cons r rt, u, h => by
    rcases List.mem_cons.mp h with e | e
    · subst e
      obtain ⟨k, rfl⟩ := r
      exact SeqAt.EqAt.str_str y k z t
    · exact eqs_at rt u e
def rCntT (K : PySem.W.Frag) : V → List V → Hp → VK → Prop := fun x xs H Q => ∃ (p : Addr) (ys : List Str) (z : Str), x = .ref p ∧ xs = [.str z] ∧ SqT K H p (ys.map V.str) ∧ Q (.int (ys.count z : Nat)) H
theorem mt_tcount : MtR X "tuple.count" (rCntT X.K) := by
  intro pins s σ H x xs v us Q I rx rxs h
  obtain ⟨p, ys, z, rfl, rfl, hs, q⟩ := h
  cases rx
  obtain ⟨u, rfl, ru⟩ := rxs.one
  obtain ⟨t, rfl⟩ := ru
  obtain ⟨its, rv, ⟨⟨cls, dd, data, sl⟩, ho, hc, n, hd⟩, hlen⟩ := I.tuple hs
  simp only at hc hd
  subst hc hd
  refine call_meets PySem.F.slot_tuple_count ⟨_, ho, rfl⟩ PySem.F.entry_tuple_count (PySem.F.args_tuple_count_2 _ _)
    (SeqAt.tuple_countAt p its.toArray n dd sl (.str z t) (eqs z)) ⟨ho, fun y hy => eqs_at rv y (by simpa using hy), ?_⟩
  have ec : its.toArray.toList.countP (eqs z) = ys.count z := eqs_count rv
  refine ⟨.int (ys.count z : Nat), H, I.tok _, ⟨s.toks, ?_⟩, q⟩
  show Value.int ((its.toArray.toList.countP (eqs z) : Nat) : Int) s.toks = Value.int ((ys.count z : Nat) : Int) s.toks
  rw [ec]

/-! ### f(e, ..), f a def of the module by its positional promise -/
def tCallR (sp : Sp) (E : XK) (t : TA) : TE := fun σ H Q => t σ H fun vs H1 => sp vs H1 Q E
theorem pe_callR {CX : CXT} {k : Nat} {f : Addr} {x : Str} {sp : Sp} {E : XK} {e : Expr} {es : List Expr} {t : TA} {p pos : Pos} (F : FnR X.prog X.w X.K X.mg X.base CX k f sp) (hr : Room k X.A) (hk : PySem.W.keepIn X.K (.ref f) = true) (hm : X.mg x = some (.ref f)) (hx : Passes CX X E) (ha : PA X (e :: es) t)
    (hg : Gl X x) (hd : (x == ("__debug__" : Str)) = false)
    (he : starEach (e :: es) X.env = (false, eval e X.env) :: starEach es X.env) (hpl : (backTo pos (starEach es X.env)).any (·.1) = false) :
    PE X (.Call (.Name x p) (e :: es) [] pos) (tCallR sp E t) := by
  refine ⟨fun pins s σ H Q I h => ?_⟩
  refine wpAny_Call_Name_kw (ld_glob I hg hm ?_ hd)
  refine PySem.W.callWith_K (h₀ := X.base) I.ok.mod.kin hk (thn (ha.run pos pins s σ H _ I h) fun us s1 ⟨vs, H1, I1, r, q⟩ => ⟨I1.kIn, ?_⟩) he hpl
  exact wpAny_call (run_fnR F hr hx I1 r q)
end
end L2
namespace Sh
open PySem PySem.Spec PyProof.Rows L2
/-! ### a def of the module keeps a promise -/
def DefOk (P : Program) (w : World) (K : PySem.W.Frag) (mg : Str → Option Value) (base : Heap) (CX : CXT) (k : Nat) (x : Str) (sp : Sp) : Prop :=
  ∃ f, mg x = some (.ref f) ∧ PySem.W.keepIn K (.ref f) = true ∧ FnR P w K mg base CX k f sp
/-- where a def stands -/
def Def0 (K : PySem.W.Frag) (mg : Str → Option Value) (x : Str) (st : Stmt) : Prop := ∃ f fd, mg x = some (.ref f) ∧ FunD K x x (defArgs st) (defBody st) (defScope st) [] [] f fd
section
variable {P : Program} {w : World} {K : PySem.W.Frag} {mg : Str → Option Value} {base : Heap} {k j : Nat} {x : Str} {sp : Sp} {st : Stmt}
theorem DefOk.mono {CX : CXT} (D : DefOk P w K mg base CX j x sp) (h : j ≤ k) : DefOk P w K mg base CX k x sp := by
  obtain ⟨f, a, b, c⟩ := D
  exact ⟨f, a, b, c.mono h⟩
theorem DefOk.imp {CX : CXT} {sp' : Sp} (D : DefOk P w K mg base CX k x sp) (h : ∀ vs H Q E, sp' vs H Q E → sp vs H Q E) : DefOk P w K mg base CX k x sp' := by
  obtain ⟨f, a, b, c⟩ := D
  exact ⟨f, a, b, c.imp h⟩
theorem pe_d {X : Cx} {CX : CXT} {E : XK} {e : Expr} {es : List Expr} {t : TA} {p pos : Pos} (D : DefOk X.prog X.w X.K X.mg X.base CX k x sp) (hr : Room k X.A) (hx : Passes CX X E) (ha : PA X (e :: es) t)
    (hg : Gl X x := by rfl) (hd : (x == ("__debug__" : Str)) = false := by decide)
    (he : starEach (e :: es) X.env = (false, eval e X.env) :: starEach es X.env := by rfl) (hpl : (backTo pos (starEach es X.env)).any (·.1) = false := by rfl) :
    PE X (.Call (.Name x p) (e :: es) [] pos) (tCallR sp E t) := by
  obtain ⟨f, a, b, c⟩ := D
  exact pe_callR c hr b a hx ha hg hd he hpl
/-- a def without defaults that raises nothing -/
theorem Def0.ok {N ps : List Str} (D : Def0 K mg x st) (S : FnScope N ps (defScope st)) (len : ∀ vs H Q E, sp vs H Q E → vs.length = ps.length)
    (hb : ∀ (kV doc pm : Value) (an : Option Addr) (cdv ct : Value) (us : List Value), us.length = ps.length → bindArgs (PySem.W.fnOf x x (defArgs st) (defBody st) (defScope st) .none kV doc pm an cdv ct) ⟨us, []⟩ = pure (ps.zip us))
    (hbody : ∀ (f : Addr) (cdv : Value) (A : Around) (outer : List Env) (s : Shared) (H : Hp) (vs : List V) (Q : VK) (E : XK), Room k (A.deeper (envOfC x (defScope st) s.heap.objs.size f cdv)) → sp vs H Q E →
      ∃ t, PSs (cxOf CX0 P w K mg base N x (defScope st) f cdv A outer s H E).nox (defBody st) t ∧ t { nx := fun _ H' => Q .non H', rt := Q } (start N vs) H) : DefOk P w K mg base CX0 (k + 1) x sp := by
  obtain ⟨f, fd, hm, F⟩ := D
  have G : FnOk P w K mg base CX0 (k + 1) f fd ps sp := F.ok S len fun cdv A outer s H vs Q E hr h => by
    obtain ⟨t, a, b⟩ := hbody f cdv A outer s H vs Q E hr h
    exact ⟨t, a.nox, b⟩
  have B : Binds K fd ps [] := F.bindsN hb
  refine ⟨f, hm, F.kp, fun A outer s H us vs Q E hr e0 r hs => G.raw B .nil A outer s H us vs Q E hr e0 r (by show sp (vs ++ []) H Q E; rw [List.append_nil]; exact hs)⟩
/-- a def without defaults that may raise -/
theorem Def0.okX {N ps : List Str} (D : Def0 K mg x st) (S : FnScope N ps (defScope st)) (len : ∀ vs H Q E, sp vs H Q E → vs.length = ps.length)
    (hb : ∀ (kV doc pm : Value) (an : Option Addr) (cdv ct : Value) (us : List Value), us.length = ps.length → bindArgs (PySem.W.fnOf x x (defArgs st) (defBody st) (defScope st) .none kV doc pm an cdv ct) ⟨us, []⟩ = pure (ps.zip us))
    (hbody : ∀ (f : Addr) (cdv : Value) (A : Around) (outer : List Env) (s : Shared) (H : Hp) (vs : List V) (Q : VK) (E : XK), Room k (A.deeper (envOfC x (defScope st) s.heap.objs.size f cdv)) → sp vs H Q E →
      ∃ t, PSs (cxOf (L2.CX P w) P w K mg base N x (defScope st) f cdv A outer s H E) (defBody st) t ∧ t { nx := fun _ H' => Q .non H', rt := Q } (start N vs) H) : DefOk P w K mg base (L2.CX P w) (k + 1) x sp := by
  obtain ⟨f, fd, hm, F⟩ := D
  have G : FnOk P w K mg base (L2.CX P w) (k + 1) f fd ps sp := F.ok S len fun cdv A outer s H vs Q E hr h => by
    obtain ⟨t, a, b⟩ := hbody f cdv A outer s H vs Q E hr h
    exact ⟨t, a, b⟩
  have B : Binds K fd ps [] := F.bindsN hb
  refine ⟨f, hm, F.kp, fun A outer s H us vs Q E hr e0 r hs => G.raw B .nil A outer s H us vs Q E hr e0 r (by show sp (vs ++ []) H Q E; rw [List.append_nil]; exact hs)⟩
end
end Sh
end
section
set_option Elab.async false
set_option linter.all false
set_option maxRecDepth 100000
set_option maxHeartbeats 2000000
set_option autoImplicit false
/-! Tuples whose object is known to have no dict: how they are made, and their methods. -/
namespace L2
open PySem PySem.Spec PyProof.Rows
/-- a tuple that is followed -/
def Tq (H : Hp) (a : Addr) (xs : List V) : Prop := Rd H a (.tup xs)
/-- .. whose object has no dict -/
def Tz (H : Hp) (a : Addr) (xs : List V) : Prop := ∃ o, H a = some (.frz o (.tup xs)) ∧ o.dict = none
theorem Tq.of {H : Hp} {a : Addr} {xs : List V} (h : H a = some (.tup xs)) : Tq H a xs := .inl h
theorem Tq.sq {K : PySem.W.Frag} {H : Hp} {a : Addr} {xs : List V} (h : Tq H a xs) : SqT K H a xs := .inl h
theorem Tq.same {H H' : Hp} {a : Addr} {xs : List V} (h : Tq H a xs) (s : ∀ b o, H b = some o → H' b = some o) : Tq H' a xs := by
  rcases h with h | ⟨o, h⟩
  · exact .inl (s _ _ h)
  · exact .inr ⟨o, s _ _ h⟩
theorem Tz.q {H : Hp} {a : Addr} {xs : List V} (h : Tz H a xs) : Tq H a xs := by
  obtain ⟨o, h, _⟩ := h
  exact .inr ⟨o, h⟩
theorem Tz.same {H H' : Hp} {a : Addr} {xs : List V} (h : Tz H a xs) (s : ∀ b o, H b = some o → H' b = some o) : Tz H' a xs := by
  obtain ⟨o, h, d⟩ := h
  exact ⟨o, s _ _ h, d⟩
theorem Tq.ne_none {H : Hp} {a p : Addr} {xs : List V} (h : Tq H a xs) (hp : H p = none) : a ≠ p := by
  rcases h with h | ⟨o, h⟩
  · exact ne_of_none h hp
  · exact ne_of_none h hp
/-- followed tuples stay -/
def TQ (H H' : Hp) : Prop := ∀ t xs, Tq H t xs → Tq H' t xs
theorem TQ.refl (H : Hp) : TQ H H := fun _ _ h => h
theorem TQ.trans {H H1 H2 : Hp} (x : TQ H H1) (y : TQ H1 H2) : TQ H H2 := fun t xs h => y t xs (x t xs h)
theorem TQ.of_same {H H' : Hp} (s : ∀ b o, H b = some o → H' b = some o) : TQ H H' := fun t xs q => q.same s
theorem TQ.new {H : Hp} {p : Addr} {o : HO} (h : H p = none) : TQ H (upd H p o) := fun t xs q => by
  have n := q.ne_none h
  rcases q with q | ⟨o, q⟩
  · exact .inl (by rw [upd_ne n]; exact q)
  · exact .inr ⟨o, by rw [upd_ne n]; exact q⟩
theorem TQ.lst {H : Hp} {p : Addr} {ys : List V} {o : HO} (h : H p = some (.lst ys)) : TQ H (upd H p o) := fun t xs q => by
  rcases q with q | ⟨o, q⟩
  · exact .inl (by rw [upd_ne (ne_of q h (by intro e; cases e))]; exact q)
  · exact .inr ⟨o, by rw [upd_ne (ne_of q h (by intro e; cases e))]; exact q⟩
section
variable {X : Cx}
/-- tuple(list) -/
def rTupF (K : PySem.W.Frag) : List V → Hp → VK → Prop := fun xs H Q => ∃ p ys, xs = [.ref p] ∧ SqL K H p ys ∧ ∀ l o, H l = none → o.dict = none → Q (.ref l) (upd H l (.frz o (.tup ys)))
theorem call_tupleF : CallR X (.type "tuple") (rTupF X.K) := by
  intro pins s σ H xs us Q I r h
  obtain ⟨p, ys, rfl, hq, q⟩ := h
  obtain ⟨u, rfl, rx⟩ := vals1 r
  cases rx
  obtain ⟨its, r', pl, hz⟩ := I.list hq
  have hlen := r'.length
  refine call_tuple_list pl.isList (fun h' kp => ?_) (by simp only [List.size_toArray] <;> omega)
  have I1 : Inv X pins σ H { s with heap := h' } := I.kept (t' := s.toks) kp
  have I2 : Inv X pins σ (upd H h'.objs.size (.frz { cls := .type "tuple", data := .seq its.toArray } (.tup ys))) { s with heap := h'.push { cls := .type "tuple", data := .seq its.toArray } } :=
    I1.laid (t' := s.toks) (fun b o e => Heap.get?_push_of_some _ e) (Nat.le_refl _) (show ObjOk X.prog X.w _ _ _ (.frz _ (.tup ys)) from ⟨Heap.get?_push_size _ rfl, hz, its, r', IsTup.new _ _⟩)
  exact ⟨.ref h'.objs.size, _, I2, rfl, q _ _ (I1.hok.fresh (Nat.le_refl _)) rfl⟩
/-- t + u, u not empty -/
def rCatF (K : PySem.W.Frag) : R2 := fun x y H Q => ∃ a b xs ys, x = .ref a ∧ y = .ref b ∧ SqT K H a xs ∧ SqT K H b ys ∧ ys ≠ [] ∧ xs.length + ys.length ≤ sizeLine ∧
  (xs = [] → Q (.ref b) H) ∧ (xs ≠ [] → ∀ p o, H p = none → o.dict = none → Q (.ref p) (upd H p (.frz o (.tup (xs ++ ys)))))
theorem op_catF : OpR X (binaryOp .Add) (rCatF X.K) := by
  intro pins s σ H x y v u Q I rx ry h
  obtain ⟨a, b, xs, ys, rfl, rfl, ha, hb, hy, hz, q0, q2⟩ := h
  by_cases hx : xs = []
  · exact op_catA pins s σ H _ _ v u Q I rx ry ⟨a, b, xs, ys, rfl, rfl, ha, hb, hz, q0, fun h => absurd hx h, fun h => absurd hx h⟩
  cases rx
  cases ry
  obtain ⟨its, r1, p1, _⟩ := I.tuple ha
  obtain ⟨its2, r2, p2, _⟩ := I.tuple hb
  refine HT.cat_tup p1 p2 (fun z => hx (r1.nil_iff.mp z)) (fun z => absurd (r2.nil_iff.mp z) hy) (fun z => ?_) (by rw [← r1.length, ← r2.length]; exact hz)
  refine ⟨.ref s.heap.objs.size, _, I.laid (t' := s.toks) (o := .frz { cls := .type "tuple", data := .seq (its ++ its2).toArray } (.tup (xs ++ ys))) (fun b ob q => Heap.get?_push_of_some _ q) (Nat.le_refl _) ?_, rfl, q2 hx _ _ (I.hok.fresh (Nat.le_refl _)) rfl⟩
  exact ⟨Heap.get?_push_size _ rfl, by rw [List.length_append]; exact hz, _, r1.append r2, IsTup.new _ _⟩
/-- (a, b) -/
def tTupF (t : TA) : TE := fun σ H Q => t σ H fun xs H1 => xs.length ≤ sizeLine ∧ ∀ p o, H1 p = none → o.dict = none → Q (.ref p) (upd H1 p (.frz o (.tup xs)))
theorem pe_tupF {es : List Expr} {x1 : Nat} {t : TA} {pos : Pos} (h : PA X es t) : PE X (.Tuple es x1 pos) (tTupF t) := by
  refine ⟨fun pins s σ H Q I hq => ?_⟩
  refine wpAny_Tuple_spliced (thn (h.run pos pins s σ H _ I hq) fun us s1 ⟨xs, H1, I1, r, z, q⟩ => ⟨by rw [← r.length]; exact z, ?_⟩)
  have hf : H1 s1.heap.objs.size = none := I1.hok.fresh (Nat.le_refl _)
  refine ⟨.ref s1.heap.objs.size, upd H1 s1.heap.objs.size (.frz { cls := .type "tuple", data := .seq us.toArray } (.tup xs)), I1.laid (t' := s1.toks) (fun b u e => Heap.get?_push_of_some _ e) (Nat.le_refl _) ?_, rfl, q _ _ hf rfl⟩
  exact ⟨Heap.get?_push_size _ rfl, z, us, r, ⟨_, Heap.get?_push_size _ rfl, rfl, _, rfl⟩⟩
/-- a method of it -/
def tyZ (x : V) (H : Hp) : Prop := ∃ a xs, x = .ref a ∧ Tz H a xs
theorem ty_Z : TyOk X "tuple" tyZ := by
  intro pins σ H s x v I r ty
  obtain ⟨a, xs, rfl, o, ho, hd⟩ := ty
  cases r
  obtain ⟨e, _, its, _, ⟨o2, e2, c, _⟩⟩ := I.hok a _ ho
  rw [e] at e2
  cases e2
  exact ⟨⟨o, e, c⟩, fun b eb => by cases eb; exact ⟨o, e, hd⟩⟩
end
end L2
end
section
set_option Elab.async false
set_option linter.all false
set_option maxRecDepth 100000
set_option maxHeartbeats 2000000
set_option autoImplicit false
/-! try with a first clause that has a name and takes what comes, whatever clauses follow. -/
namespace L2
open PySem PySem.Spec PyProof.Rows
/-- an exception that lies in the state s at hand, ahead of the clauses -/
structure Caught (X : Cx) (pins : List (Addr × Obj)) (σ : St) (H : Hp) (s : Shared) (a : Addr) (cls : Value) (d : Option Addr) : Prop where
  na : H a = none
  fly : ∃ B, HandSPX.FlyingZ B (X.env :: X.outer) a (Zc cls d) s.heap ∧ ∀ h, HandSPX.FlyingZ B (X.env :: X.outer) a (Zc cls d) h → s.heap.UpToSlots h → Inv X pins σ H { s with heap := h }
section
variable {X : Cx} {pins : List (Addr × Obj)} {σ : St} {H : Hp} {s : Shared} {a : Addr} {cls : Value} {d : Option Addr}
/-- into the suite of a clause -/
theorem suite_of {B : Heap} (hf : X.env.frame = some X.env.locals) (fl : HandSPX.FlyingZ B (X.env :: X.outer) a (Zc cls d) s.heap) (I : Inv X pins σ H s) (na : H a = none) :
    ∃ oe, (∃ vs, oe.data = .fields vs) ∧ s.heap.get? a = some oe ∧ Zc cls d oe ∧ Inv (X.suite a ((a, oe) :: (X.pn ++ pins))) [] σ H s := by
  obtain ⟨oe, vs, he, hz, hd⟩ := fl.there
  have off : ∀ f ∈ frs (X.env :: X.outer), a ≠ f := fun f hm e => by
    subst e
    obtain ⟨_, o, e2, nf⟩ := fl.2.2.1.mem hm
    rw [he] at e2
    cases e2
    exact nf _ hd
  refine ⟨oe, ⟨vs, hd⟩, he, hz, I.suite he hd na (off _ (List.mem_filterMap.mpr ⟨X.env, List.mem_cons_self, hf⟩)) fun hm => ?_⟩
  obtain ⟨en, hen, q⟩ := List.mem_filterMap.mp hm
  exact off a (List.mem_filterMap.mpr ⟨en, List.mem_cons_of_mem _ hen, q⟩) rfl
/-- a try statement by what its clauses do with what is caught -/
theorem ps_try_by {body : List Stmt} {hds : List ExceptHandler} {h₀ : ExceptHandler} {pos : Pos} {tb : WX → TS} {Wd : Ends → WX} (hs : X.stack = X.env :: X.outer) (hf : X.env.frame = some X.env.locals)
    (hb : ∀ (W : WX) (pn : List (Addr × Obj)) (xe : Value → Shared → Prop), Takes (X.tr pn xe) W → PassesOwn (model X.prog X.w) X.A X.env xe → PSs (X.tr pn xe) body (tb W))
    (hk : ∀ (pins : List (Addr × Obj)) (D : Ends) (σ : St) (H : Hp) (s : Shared) (a : Addr) (cls : Value) (d : Option Addr), X.Ok → Caught X pins σ H s a cls d → Wd D cls d σ H →
      wpAny (model X.prog X.w) X.A (handleBy (.ref a) X.env (h₀ :: hds)) (SP X pins D) X.xe s) :
    PS X (.Try body (h₀ :: hds) [] [] pos) (fun D σ H => tb (Wd D) D σ H) := by
  refine ⟨fun pins s σ H D I h => wpAny_Try_except ?_⟩
  have ok := I.ok
  have hfr : X.A.frames = some (X.env :: X.outer) := by rw [ok.frames, hs]
  have P := (hb (Wd D) (X.pn ++ pins) (fun e s₁ => wpAny (model X.prog X.w) X.A (noteFrame e X.env) (fun _ s₂ => wpAny (model X.prog X.w) X.A (setFlight e none) (fun _ s₃ =>
    wpAny (model X.prog X.w) X.A (handleBy e X.env (h₀ :: hds)) (SP X pins D) X.xe s₃) X.xe s₂) X.xe s₁) (fun u s' xx => by
      obtain ⟨a, B, sI, pins', σ', H', cls, d, rfl, J', nb, up, sky, na, os, ag, w⟩ := xx
      have sky' : Sky B (X.env :: X.outer) a (Zc cls d) X.env.locals s'.heap := by rw [← hs]; exact sky
      refine Sky.land Zc.steady hfr hf sky' fun h3 fl3 up3 => hk pins D σ' H' { s' with heap := h3 } a cls d ok ⟨na, B, fl3, fun h fl up4 => ?_⟩ w
      exact (J'.ofTry ok).landed nb fl.1 ((up.trans up3).trans up4) os ag) PassesOwn.looking).run [] s σ H D (I.toTry _) h
  refine wpAny_mono P (fun f s1 hsp => ?_) fun _ _ he => he
  cases f with
  | ret u =>
    obtain ⟨v, σ', H', J', r, q⟩ := hsp
    exact ⟨v, σ', H', J'.ofTry ok, r, q⟩
  | next =>
    obtain ⟨σ', H', J', q⟩ := hsp
    exact wpAny_execs_nil ⟨σ', H', J'.ofTry ok, q⟩
  | brk =>
    obtain ⟨σ', H', J', q⟩ := hsp
    exact ⟨σ', H', J'.ofTry ok, q⟩
  | cont =>
    obtain ⟨σ', H', J', q⟩ := hsp
    exact ⟨σ', H', J'.ofTry ok, q⟩
/-- the wish of a first clause 'except x as n' that takes it -/
def wFirst (K : PySem.W.Frag) (c : Value) (i : Nat) (ts : Addr → Value → Option Addr → TS) (D : Ends) : WX := fun cls d σ H =>
  PySem.W.exmOne K cls c = some true ∧ ∀ a, H a = none → ts a cls d { nx := fun σ' H' => D.nx (σ'.set i none) H', rt := D.rt, bk := fun σ' H' => D.bk (σ'.set i none) H', ct := fun σ' H' => D.ct (σ'.set i none) H' } (σ.set i (some (.ref a))) H
theorem ps_try_first {x n : Str} {c : Value} {i : Nat} {body suite : List Stmt} {b₀ : Stmt} {np pos pos' : Pos} {hds : List ExceptHandler} {tb : WX → TS} {ts : Addr → Value → Option Addr → TS} (hs : X.stack = X.env :: X.outer) (hf : X.env.frame = some X.env.locals) (hN : X.N.Nodup) (hi : X.N[i]? = some n) (hln : X.env.kindOf n = some .local) (hc : Names X x c)
    (hb : ∀ (W : WX) (pn : List (Addr × Obj)) (xe : Value → Shared → Prop), Takes (X.tr pn xe) W → PassesOwn (model X.prog X.w) X.A X.env xe → PSs (X.tr pn xe) body (tb W))
    (hsu : ∀ (a : Addr) (oe : Obj) (cls : Value) (d : Option Addr) (pn : List (Addr × Obj)), Zc cls d oe → (∃ vs, oe.data = .fields vs) → PSs (X.suite a ((a, oe) :: pn)) (b₀ :: suite) (ts a cls d)) :
    PS X (.Try body (.ExceptHandler (some (.Name x np)) (some n) (b₀ :: suite) pos' :: hds) [] [] pos) (fun D σ H => tb (wFirst X.K c i ts D) D σ H) := by
  refine ps_try_by (Wd := wFirst X.K c i ts) hs hf hb fun pins D σ H s a cls d ok C w => ?_
  obtain ⟨na, B, fl, back⟩ := C
  obtain ⟨hm, hw⟩ := w
  have I0 : Inv X pins σ H s := back s.heap fl (fun b o e _ => ⟨o.slots, e⟩)
  obtain ⟨oe, hd, he, hz, S⟩ := suite_of hf fl I0 na
  refine wpAny_handleBy_cons (codeAny_handlers_test ?_) (by intro q; cases q)
  have look : PySem.W.Looks (model X.prog X.w) s.heap (typeOf (.ref a)) cls := fun A Q E s k q => wpAny_typeOf_ref (k _ _ he) (by rw [hz.1]; exact q)
  have name : ∀ {Q : Value → Shared → Prop} {E : Value → Shared → Prop}, Q c s → wpAny (model X.prog X.w) (X.A.mark (some (.ref a))) (eval (.Name x np) X.env) Q E s := fun {Q E} q => by
    obtain ⟨hg, hdbg, hm | ⟨hm, hv, hnn⟩⟩ := hc
    · exact ld_glob (X := X.suite a ((a, oe) :: (X.pn ++ pins))) S hg hm q hdbg
    · exact ld_blt (X := X.suite a ((a, oe) :: (X.pn ++ pins))) S hg hm hv q hnn hdbg
  refine name ((PySem.W.exm_one (M := model X.prog X.w) I0.kIn look hm).here (codeAny_handlers_suite_as ?_))
  refine HandSPX.lands_againZ fl fun h4 fl4 up4 => ?_
  obtain ⟨oe4, hd4, _, hz4, S4⟩ := suite_of (s := { s with heap := h4 }) hf fl4 (back h4 fl4 up4) na
  refine store_ok (X := X.suite a ((a, oe4) :: (X.pn ++ pins))) (v := .ref a) S4 hN hi (.inl hln) rfl (fun s5 S5 => ?_) (.inr hln)
  have R := (hsu a oe4 cls d (X.pn ++ pins) hz4 hd4).run [] s5 _ H _ S5 (hw a na)
  refine wpAny_mono R (fun f s6 hsp => ?_) fun _ _ z => z.elim
  cases f with
  | ret u =>
    obtain ⟨v6, σ6, H6, S6, r6, q6⟩ := hsp
    exact gone_ok (S6.unsuite ok) hN hi hln fun s7 J7 => ⟨_, _, _, J7, r6, q6⟩
  | next =>
    obtain ⟨σ6, H6, S6, q6⟩ := hsp
    exact gone_ok (S6.unsuite ok) hN hi hln fun s7 J7 => ⟨_, _, J7, q6⟩
  | brk =>
    obtain ⟨σ6, H6, S6, q6⟩ := hsp
    exact gone_ok (S6.unsuite ok) hN hi hln fun s7 J7 => ⟨_, _, J7, q6⟩
  | cont =>
    obtain ⟨σ6, H6, S6, q6⟩ := hsp
    exact gone_ok (S6.unsuite ok) hN hi hln fun s7 J7 => ⟨_, _, J7, q6⟩
end
end L2
namespace Sh
open PySem PySem.Spec PyProof.Rows L2
/-- an own exception class in except clauses -/
structure XOk (K : PySem.W.Frag) (C : Addr) (fs : List Str) : Prop where
  xf : XfC K C
  no : ∀ f ∈ fs, PySem.W.findIn K (.ref C) f = some none
  me : PySem.W.exmOne K (.ref C) (.ref C) = some true
/-- a call whose exceptions are wished for at the slots at hand -/
theorem pe_dS {X : Cx} {CX : CXT} {E : L2.St → XK} {k : Nat} {x : Str} {sp : Sp} {e : Expr} {es : List Expr} {t : TA} {p pos : Pos} (D : DefOk X.prog X.w X.K X.mg X.base CX k x sp) (hr : Room k X.A) (hx : ∀ σ, PassesAt CX X σ (E σ)) (ha : PA X (e :: es) t)
    (hg : Gl X x := by rfl) (hd : (x == ("__debug__" : Str)) = false := by decide)
    (he : starEach (e :: es) X.env = (false, eval e X.env) :: starEach es X.env := by rfl) (hpl : (backTo pos (starEach es X.env)).any (·.1) = false := by rfl) :
    PE X (.Call (.Name x p) (e :: es) [] pos) (tCallS sp E t) := by
  obtain ⟨f, hm, hk, F⟩ := D
  refine ⟨fun pins s σ H Q I h => ?_⟩
  refine wpAny_Call_Name_kw (ld_glob I hg hm ?_ hd)
  refine PySem.W.callWith_K (h₀ := X.base) I.ok.mod.kin hk (thn (ha.run pos pins s σ H _ I h) fun us s1 ⟨vs, H1, I1, r, q⟩ => ⟨I1.kIn, ?_⟩) he hpl
  refine wpAny_call (codeAny_mono (F X.A X.stack s1 H1 us vs Q (E σ) hr I1.env0 r q) fun r s' hq => ?_)
  cases r with
  | error e => exact hx σ pins H1 s1 e s' I1 hq
  | ok fl =>
    cases fl with
    | ret u => exact I1.after hq
    | next => exact hq.elim
    | brk => exact hq.elim
    | cont => exact hq.elim
end Sh
end
section
set_option Elab.async false
set_option linter.all false
set_option maxRecDepth 100000
set_option maxHeartbeats 2000000
set_option autoImplicit false
/-! A hook that also tells of own exception classes with `super().__init__(..)`. -/
namespace Hx
open PySem PySem.Spec PyProof.Rows L2 He PySem.W
/-- an own exception class: its name, its fields, its __init__ as written -/
structure XDef where
  x : Str
  fs : List Str
  qual : Str
  params : Arguments
  body : List Stmt
  scope : Scope
abbrev XV : Type := Option (Str × Str × Arguments × FuncBody × Scope × Addr × Addr)
def iOf (K : Frag) (x : Str) : Addr := ma K (ga K x) "__init__"
def xvOf (K : Frag) (x : Str) : XV := match K.lookup (iOf K x) with
  | some ⟨_, _, .func fd, _⟩ => some (fd.name, fd.qualname, fd.params, fd.body, fd.scope, fd.globals, fd.builtins)
  | _ => none
def XDef.val (d : XDef) : XV := some ("__init__", d.qual, d.params, .stmts d.body, d.scope, mainGlobals, builtinsNs)
def cellB (K : Frag) (C : Addr) (cl : List (Str × Addr)) : Bool := match cl with
  | [(n, cc)] => decide (n = "__class__") && (match K.lookup cc with
    | some ⟨_, _, .cell (some (.ref D)), _⟩ => decide (D = C)
    | _ => false)
  | _ => false
def codeB (K : Frag) (file : Str) (cd : Value) : Bool := match cd with
  | .ref cda => (match K.lookup cda with
    | some ⟨_, _, .fields cvs, _⟩ => (match (cvs[2]? : Option Value) with
      | some (.str f _) => file == f
      | _ => false)
    | _ => false)
  | _ => false
def noneB (v : Value) : Bool := match v with
  | .none => true
  | _ => false
def funB (K : Frag) (file : Str) (d : XDef) : Bool := match K.lookup (iOf K d.x) with
  | some ⟨_, _, .func fd, _⟩ => noneB fd.defaults && (codeIn K fd.code d.qual && (codeB K file fd.code && cellB K (ga K d.x) fd.closure))
  | _ => false
def clsB (K : Frag) (C : Addr) : Bool := match K.lookup C with
  | some ⟨.type "type", _, .cls cd, sl⟩ => (match cd.mro, sl.toList with
    | .ref C' :: bm, [_, _, _, _, some (.builtin n), _] => decide (C' = C) && (decide (n = "ValueError.__new__") && (!cd.hasDel && (cd.hasDict && HandSPX.refsVE bm)))
    | _, _ => false)
  | _ => false
def XDef.ok (file : Str) (K : Frag) (d : XDef) : Bool :=
  clsB K (ga K d.x) && (funB K file d && (eqO (findIn K (.ref (ga K d.x)) "__setattr__") (some (some (.builtin "object.__setattr__"))) && ((d.fs.all fun f => eqO (findIn K (.ref (ga K d.x)) f) (some none)) &&
  (eqO (findIn K (.ref (ga K d.x)) "__init__") (some (some (.ref (iOf K d.x)))) && (decide (typeIn K (.ref (iOf K d.x)) = some (.type "function")) && (keepIn K (.ref (ga K d.x)) && (decide (subIn K (.ref (ga K d.x)) (.type "BaseException") = some true) &&
  (decide (subIn K (.ref (ga K d.x)) (.type "ValueError") = some true) && (decide (typeIn K (.ref (ga K d.x)) = some (.type "type")) && (decide (mroIn K (ga K d.x) (.ref (ga K d.x)) = some true) && (eqO (ks_superIn K (ga K d.x) (ga K d.x) "__init__") (some (some (.builtin "ValueError.__init__"))) &&
  (eqO (nsIn K cStatics "thirdparty.any") (some none) && (L2.xfB K (ga K d.x) && (decide (exmOne K (.ref (ga K d.x)) (.ref (ga K d.x)) = some true) && eqO (nsIn K mainGlobals d.x) (some (some (.ref (ga K d.x))))))))))))))))))
structure XFacts (prog : Program) (K : Frag) (d : XDef) (l : List SupX.StP) : Prop where
  txt : SupX.SupTxt prog K (ga K d.x) (iOf K d.x) d.qual d.params d.body d.scope l
  xf : L2.XfC K (ga K d.x)
  no : ∀ f ∈ d.fs, findIn K (.ref (ga K d.x)) f = some none
  me : exmOne K (.ref (ga K d.x)) (.ref (ga K d.x)) = some true
  gl : nsIn K mainGlobals d.x = some (some (.ref (ga K d.x)))
theorem facts_of {prog : Program} {K : Frag} {d : XDef} {l : List SupX.StP} (e : xvOf K d.x = d.val) (c : d.ok prog.main.file K = true) (hl : ∀ z ∈ l, z.f ∈ d.fs) : XFacts prog K d l := by
  unfold XDef.ok at c
  obtain ⟨c1, c⟩ := ba c
  obtain ⟨c2, c⟩ := ba c
  obtain ⟨c3, c⟩ := ba c
  obtain ⟨c4, c⟩ := ba c
  obtain ⟨c5, c⟩ := ba c
  obtain ⟨c6, c⟩ := ba c
  obtain ⟨c7, c⟩ := ba c
  obtain ⟨c8, c⟩ := ba c
  obtain ⟨c9, c⟩ := ba c
  obtain ⟨c10, c⟩ := ba c
  obtain ⟨c11, c⟩ := ba c
  obtain ⟨c12, c⟩ := ba c
  obtain ⟨c13, c⟩ := ba c
  obtain ⟨c14, c⟩ := ba c
  obtain ⟨c15, c16⟩ := ba c
  have no : ∀ f ∈ d.fs, findIn K (.ref (ga K d.x)) f = some none := fun f hf => eqO_ok (List.all_eq_true.mp c4 f hf)
  refine ⟨⟨?_, eqO_ok c3, fun z hz => no _ (hl z hz), eqO_ok c5, of_decide_eq_true c6, c7, of_decide_eq_true c8, of_decide_eq_true c9, of_decide_eq_true c10, of_decide_eq_true c11, eqO_ok c12, eqO_ok c13, ?_⟩, L2.xfB_ok c14, no, of_decide_eq_true c15, eqO_ok c16⟩
  · unfold clsB at c1
    split at c1
    · rename_i dd cd sl ho
      split at c1
      · rename_i C' bm k0 k1 k2 k3 n k5 hm hs
        obtain ⟨y1, y⟩ := ba c1
        obtain ⟨y2, y⟩ := ba y
        obtain ⟨y3, y⟩ := ba y
        obtain ⟨y4, y5⟩ := ba y
        have y1 := of_decide_eq_true y1
        have y2 := of_decide_eq_true y2
        have y3' : cd.hasDel = false := by
          cases h : cd.hasDel with
          | false => rfl
          | true => rw [h] at y3; cases y3
        clear y3
        obtain ⟨nm, bs, mro, ns, qn, hd, sn, sub, ab, col, del⟩ := cd
        dsimp only at hm y3' y4
        subst y1 y2 hm y3' y4
        have hsl : sl = #[k0, k1, k2, k3, some (.builtin "ValueError.__new__"), k5] := by
          obtain ⟨l⟩ := sl
          simp only at hs
          rw [hs]
        subst hsl
        exact ⟨nm, qn, ns, bs, bm, sn, sub, ab, col, dd, k0, k1, k2, k3, k5, ho, y5⟩
      · cases c1
    · cases c1
  · unfold funB at c2
    unfold xvOf at e
    cases q : K.lookup (iOf K d.x) with
    | none =>
      rw [q] at c2
      cases c2
    | some o =>
      obtain ⟨oc, od, dt, osl⟩ := o
      rw [q] at c2 e
      cases dt with
      | func fd =>
        obtain ⟨n1, n2, n3, n4, n5, n6, n7, n8, n9, n10, n11, n12, n13, n14, n15⟩ := fd
        have e2 : (some (n1, n2, n3, n4, n5, n6, n15) : XV) = (some (("__init__" : Str), d.qual, d.params, FuncBody.stmts d.body, d.scope, mainGlobals, builtinsNs) : XV) := e
        simp only [Option.some.injEq, Prod.mk.injEq] at e2
        obtain ⟨h1, h2, h3, h4, h5, h6, h8⟩ := e2
        subst h1 h2 h3 h4 h5 h6 h8
        have c3 : (noneB n8 && (codeIn K n13 d.qual && (codeB K prog.main.file n13 && cellB K (ga K d.x) n7))) = true := c2
        obtain ⟨k1, k2⟩ := ba c3
        obtain ⟨k3, k4⟩ := ba k2
        obtain ⟨k5, k6⟩ := ba k4
        have hn8 : n8 = .none := by
          cases n8 with
          | none => rfl
          | _ => cases k1
        subst hn8
        unfold codeB at k5
        unfold cellB at k6
        split at k5
        · rename_i cda
          split at k5
          · rename_i ccl cdd cvs ccs hcda
            split at k5
            · rename_i f tf hf
              split at k6
              · rename_i n cc
                obtain ⟨z1, z2⟩ := ba k6
                have z1 := of_decide_eq_true z1
                subst z1
                split at z2
                · rename_i cl cld D csl hcc
                  have z2 := of_decide_eq_true z2
                  subst z2
                  exact ⟨oc, od, osl, n9, n10, n11, n12, cda, n14, cc, ccl, cdd, cvs, ccs, f, tf, cl, cld, csl, rfl, k3, hcda, hf, k5, hcc⟩
                · cases z2
              · cases k6
            · cases k5
          · cases k5
        · cases k5
      | _ => cases c2
abbrev AlX : Type := AlD × (Bool × List XV)
def frX (n : Nat) (g : Addr → Option Obj) : Frag := frG g (asD g n ++ [cStatics])
def obsX (file : Str) (n : Nat) (fa : List Fa) (fn : List DefD) (xs : List XDef) (g : Addr → Option Obj) : AlX :=
  (obsD fa fn (frX n g), (xs.all fun d => d.ok file (frX n g), xs.map fun d => xvOf (frX n g) d.x))
def hookX (file : Str) (n : Nat) (fa : List Fa) (fn : List DefD) (xs : List XDef) : PySem.W.Hook where
  α := AlX
  obs := fun s => obsX file n fa fn xs s.heap.get?
  val := fun _ => (valD fn, (true, xs.map XDef.val))
  says := fun _ h => ∃ K : Frag, K.In h ∧ SaysD fa fn K ∧ (xs.all fun d => d.ok file K) = true ∧ (xs.map fun d => xvOf K d.x) = xs.map XDef.val
  of := fun _ _ e => ⟨_, frG_in, congrArg (fun z : AlX => z.1) e, congrArg (fun z : AlX => z.2.1) e, congrArg (fun z : AlX => z.2.2) e⟩
  keeps := fun _ _ _ ⟨K, hK, c⟩ k => ⟨K, PySem.W.Frag.In.keeps hK k, c⟩
theorem obsX_eq {file : Str} {n : Nat} {fa : List Fa} {fn : List DefD} {xs : List XDef} {g : Addr → Option Obj} {s : Shared} (h : ∀ a, g a = s.heap.get? a) : obsX file n fa fn xs g = (hookX file n fa fn xs).obs s := by
  have e : g = s.heap.get? := funext h
  rw [e] <;> rfl
theorem x_of {file : Str} {K : Frag} {xs : List XDef} (h1 : (xs.all fun d => d.ok file K) = true) (h2 : (xs.map fun d => xvOf K d.x) = xs.map XDef.val) (i : Nat) {d : XDef} (h : xs[i]? = some d := by rfl) : xvOf K d.x = d.val ∧ d.ok file K = true := by
  refine ⟨?_, List.all_eq_true.mp h1 d (List.mem_of_getElem? h)⟩
  have e2 : (xs.map fun d => xvOf K d.x)[i]? = (xs.map XDef.val)[i]? := by rw [h2]
  rw [List.getElem?_map, List.getElem?_map, h] at e2
  exact Option.some.inj e2
end Hx
end
section
set_option linter.all false
set_option autoImplicit false
/-! Plants as preorder lists: whole rows of branches, skipping, places, paths. -/
namespace Mth
variable {α : Type} (w : α → Nat)
/-- n plants one behind the other, and nothing else -/
def forest : List α → Nat → Bool
  | [], n => n == 0
  | _ :: _, 0 => false
  | k :: r, n + 1 => forest r (w k + n)
/-- behind n plants -/
def skip : List α → Nat → List α
  | [], _ => []
  | k :: r, 0 => k :: r
  | k :: r, n + 1 => skip r (w k + n)
theorem skip_zero (l : List α) : skip w l 0 = l := by cases l <;> rfl
theorem skip_add : ∀ (l : List α) (a b : Nat), skip w l (a + b) = skip w (skip w l a) b
  | [], _, _ => rfl
  | k :: r, 0, b => by rw [Nat.zero_add]; rfl
  | k :: r, a + 1, b => by
    rw [show a + 1 + b = (a + b) + 1 by omega]
    show skip w r (w k + (a + b)) = skip w (skip w r (w k + a)) b
    rw [← skip_add r (w k + a) b, Nat.add_assoc]
theorem forest_skip : ∀ (l : List α) (a b : Nat), forest w l (a + b) = true → forest w (skip w l a) b = true
  | [], a, b, h => by
    have e : a + b = 0 := eq_of_beq h
    have e2 : b = 0 := by omega
    rw [e2]; rfl
  | k :: r, 0, b, h => by rw [Nat.zero_add] at h; exact h
  | k :: r, a + 1, b, h => by
    rw [show a + 1 + b = (a + b) + 1 by omega] at h
    have h2 : forest w r (w k + (a + b)) = true := h
    show forest w (skip w r (w k + a)) b = true
    exact forest_skip r (w k + a) b (by rw [Nat.add_assoc]; exact h2)
theorem skip_suffix : ∀ (l : List α) (n : Nat), ∃ j, j ≤ l.length ∧ skip w l n = l.drop j
  | [], _ => ⟨0, Nat.le_refl _, rfl⟩
  | k :: r, 0 => ⟨0, Nat.zero_le _, rfl⟩
  | k :: r, n + 1 => by
    obtain ⟨j, hj, e⟩ := skip_suffix r (w k + n)
    exact ⟨j + 1, by rw [List.length_cons]; omega, e⟩
theorem skip_len (l : List α) (n : Nat) : (skip w l n).length ≤ l.length := by
  obtain ⟨j, hj, e⟩ := skip_suffix w l n
  rw [e, List.length_drop]; omega
theorem skip_lt (l : List α) (n : Nat) (h : l ≠ []) : (skip w l (n + 1)).length < l.length := by
  cases l with
  | nil => exact absurd rfl h
  | cons k r => exact Nat.lt_succ_of_le (skip_len w r _)
theorem forest_nil {n : Nat} (h : forest w [] n = true) : n = 0 := eq_of_beq h
theorem forest_zero {l : List α} (h : forest w l 0 = true) : l = [] := by
  cases l with
  | nil => rfl
  | cons _ _ => cases h
theorem forest_pos {l : List α} {n : Nat} (h : forest w l (n + 1) = true) : l ≠ [] := fun e => by
  rw [e] at h
  exact absurd (eq_of_beq h : n + 1 = 0) (by omega)
theorem forest_app : ∀ (l r : List α) (a b : Nat), forest w l a = true → forest w r b = true → forest w (l ++ r) (a + b) = true
  | [], r, a, b, h, g => by
    rw [forest_nil w h, Nat.zero_add]; exact g
  | k :: l, r, 0, b, h, g => by cases h
  | k :: l, r, a + 1, b, h, g => by
    rw [show a + 1 + b = (a + b) + 1 by omega]
    show forest w (l ++ r) (w k + (a + b)) = true
    rw [← Nat.add_assoc]
    exact forest_app l r (w k + a) b h g
theorem skip_app : ∀ (l r : List α) (a : Nat), forest w l a = true → skip w (l ++ r) a = r
  | [], r, a, h => by rw [forest_nil w h]; exact skip_zero w r
  | k :: l, r, 0, h => by cases h
  | k :: l, r, a + 1, h => skip_app l r (w k + a) h
/-- the part up to the skip is a forest -/
theorem forest_take : ∀ (l : List α) (a b : Nat), forest w l (a + b) = true → forest w (l.take (l.length - (skip w l a).length)) a = true
  | [], a, b, h => by
    have := forest_nil w h
    rw [show a = 0 by omega]; rfl
  | k :: r, 0, b, h => by
    rw [skip_zero, Nat.sub_self]; rfl
  | k :: r, a + 1, b, h => by
    rw [show a + 1 + b = (a + b) + 1 by omega] at h
    have h2 : forest w r ((w k + a) + b) = true := by rw [Nat.add_assoc]; exact h
    have q := forest_take r (w k + a) b h2
    have hl := skip_len w r (w k + a)
    show forest w ((k :: r).take ((k :: r).length - (skip w r (w k + a)).length)) (a + 1) = true
    rw [List.length_cons, show r.length + 1 - (skip w r (w k + a)).length = (r.length - (skip w r (w k + a)).length) + 1 by omega, List.take_succ_cons]
    exact q
/-! ### places -/
/-- the place behind n plants from place i on -/
def nxs (l : List α) (i n : Nat) : Nat := l.length - (skip w (l.drop i) n).length
theorem drop_nxs (l : List α) (i n : Nat) : l.drop (nxs w l i n) = skip w (l.drop i) n := by
  obtain ⟨j, hj, e⟩ := skip_suffix w (l.drop i) n
  unfold nxs
  rw [e, List.drop_drop, List.length_drop]
  rw [List.length_drop] at hj
  by_cases h : i ≤ l.length
  · rw [show l.length - (l.length - (i + j)) = i + j by omega]
  · rw [List.drop_eq_nil_of_le (by omega), List.drop_eq_nil_of_le (by omega)]
theorem nxs_le (l : List α) (i n : Nat) : nxs w l i n ≤ l.length := Nat.sub_le _ _
theorem nxs_zero {l : List α} {i : Nat} (h : i ≤ l.length) : nxs w l i 0 = i := by
  unfold nxs
  rw [skip_zero, List.length_drop]; omega
theorem nxs_add (l : List α) (i a b : Nat) : nxs w l i (a + b) = nxs w l (nxs w l i a) b := by
  unfold nxs
  rw [skip_add]
  have e := drop_nxs w l i a
  unfold nxs at e
  rw [e]
theorem nxs_ge (l : List α) {i : Nat} (n : Nat) (h : i ≤ l.length) : i ≤ nxs w l i n := by
  have q := skip_len w (l.drop i) n
  rw [List.length_drop] at q
  unfold nxs; omega
theorem nxs_gt {l : List α} {i : Nat} (n : Nat) (h : i < l.length) : i < nxs w l i (n + 1) := by
  have q := skip_lt w (l.drop i) n (by intro e; have := congrArg List.length e; rw [List.length_drop] at this; simp at this; omega)
  rw [List.length_drop] at q
  unfold nxs; omega
/-- m plants stand from place i to the end -/
def Fst (l : List α) (i m : Nat) : Prop := i ≤ l.length ∧ forest w (l.drop i) m = true
theorem Fst.lt {l : List α} {i m : Nat} (h : Fst w l i (m + 1)) : i < l.length := by
  refine Nat.lt_of_not_le fun q => ?_
  have e := h.2
  rw [List.drop_eq_nil_of_le q] at e
  exact forest_pos w e rfl
theorem Fst.skip {l : List α} {i a b : Nat} (h : Fst w l i (a + b)) : Fst w l (nxs w l i a) b :=
  ⟨nxs_le w l i a, by rw [drop_nxs]; exact forest_skip w _ a b h.2⟩
theorem Fst.in {l : List α} {i m : Nat} {k : α} (h : Fst w l i (m + 1)) (hk : l[i]? = some k) : Fst w l (i + 1) (w k + m) := by
  have hi := (List.getElem?_eq_some_iff.mp hk).1
  have e := h.2
  have d : l.drop i = k :: l.drop (i + 1) := by
    rw [List.drop_eq_getElem_cons hi]
    have := (List.getElem?_eq_some_iff.mp hk).2
    rw [this]
  rw [d] at e
  exact ⟨hi, e⟩
theorem nxs_in {l : List α} {i m : Nat} {k : α} (hk : l[i]? = some k) (n : Nat) : nxs w l i (n + 1) = nxs w l (i + 1) (w k + n) := by
  have hi := (List.getElem?_eq_some_iff.mp hk).1
  have d : l.drop i = k :: l.drop (i + 1) := by
    rw [List.drop_eq_getElem_cons hi]
    have := (List.getElem?_eq_some_iff.mp hk).2
    rw [this]
  unfold nxs
  rw [d]
  rfl
theorem nxs_lt_of {l : List α} {i a b : Nat} (h : Fst w l i (a + b)) (hb : 0 < b) : nxs w l i a < l.length := by
  obtain ⟨c, rfl⟩ : ∃ c, b = c + 1 := ⟨b - 1, by omega⟩
  exact Fst.lt w (h.skip w)
theorem nxs_mono {l : List α} {i m a b : Nat} (h : Fst w l i m) (hab : a < b) (hb : b ≤ m) : nxs w l i a < nxs w l i b := by
  obtain ⟨c, rfl⟩ : ∃ c, b = a + (c + 1) := ⟨b - a - 1, by omega⟩
  obtain ⟨d, rfl⟩ : ∃ d, m = a + (c + 1) + d := ⟨m - (a + (c + 1)), by omega⟩
  rw [nxs_add]
  exact nxs_gt w c (nxs_lt_of w (b := c + 1 + d) (by rw [← Nat.add_assoc]; exact h) (by omega))
theorem Fst.all {l : List α} (h : forest w l 1 = true) : ∀ i, i ≤ l.length → ∃ m, Fst w l i m
  | 0, _ => ⟨1, Nat.zero_le _, by rw [List.drop_zero]; exact h⟩
  | i + 1, hi => by
    obtain ⟨m, F⟩ := Fst.all h i (by omega)
    cases m with
    | zero =>
      have z := forest_zero w F.2
      have := congrArg List.length z
      rw [List.length_drop] at this
      simp at this
      omega
    | succ m => exact ⟨_, F.in w (List.getElem?_eq_getElem (by omega))⟩
theorem Fst.pos {l : List α} {i m : Nat} (h : Fst w l i m) (hi : i < l.length) : ∃ n, m = n + 1 := by
  cases m with
  | succ n => exact ⟨n, rfl⟩
  | zero =>
    have z := forest_zero w h.2
    have := congrArg List.length z
    rw [List.length_drop] at this
    simp at this
    omega
/-! ### paths -/
def kids (p : List Nat) (n : Nat) : List (List Nat) := (List.range n).map fun i => p ++ [i]
def pths : List α → List (List Nat) → List (List Nat)
  | [], _ => []
  | _ :: _, [] => []
  | k :: r, p :: st => p :: pths r (kids p (w k) ++ st)
/-- the paths that wait ahead of place i -/
def stk (l : List α) : Nat → List (List Nat)
  | 0 => [[]]
  | i + 1 => match stk l i, l[i]? with
    | p :: st, some k => kids p (w k) ++ st
    | st, _ => st
def pth (l : List α) (i : Nat) : List Nat := (stk w l i).headD []
theorem kids_len (p : List Nat) (n : Nat) : (kids p n).length = n := by simp [kids]
theorem stk_len {l : List α} (h : forest w l 1 = true) : ∀ i, i ≤ l.length → Fst w l i (stk w l i).length
  | 0, _ => ⟨Nat.zero_le _, by rw [List.drop_zero]; exact h⟩
  | i + 1, hi => by
    have F := stk_len h i (by omega)
    have hi' : i < l.length := by omega
    obtain ⟨n, hn⟩ := F.pos w hi'
    cases e : stk w l i with
    | nil => rw [e] at hn; cases hn
    | cons p st =>
      have hk : l[i]? = some l[i] := List.getElem?_eq_getElem hi'
      have q : stk w l (i + 1) = kids p (w l[i]) ++ st := by
        show (match stk w l i, l[i]? with
          | p :: st, some k => kids p (w k) ++ st
          | st, _ => st) = _
        rw [e, hk]
      rw [q, List.length_append, kids_len]
      rw [e, List.length_cons] at F
      exact F.in w hk
theorem stk_step {l : List α} (h : forest w l 1 = true) {i : Nat} (hi : i < l.length) : ∃ st, stk w l i = pth w l i :: st ∧ stk w l (i + 1) = kids (pth w l i) (w l[i]) ++ st := by
  have F := stk_len w h i (Nat.le_of_lt hi)
  obtain ⟨n, hn⟩ := F.pos w hi
  cases e : stk w l i with
  | nil => rw [e] at hn; cases hn
  | cons p st =>
    have ep : pth w l i = p := by unfold pth; rw [e]; rfl
    refine ⟨st, by rw [ep], ?_⟩
    have hk : l[i]? = some l[i] := List.getElem?_eq_getElem hi
    show (match stk w l i, l[i]? with
      | p :: st, some k => kids p (w k) ++ st
      | st, _ => st) = _
    rw [e, hk, ep]
theorem stk_succ {l u : List α} {i k : Nat} (a : stk w l i = stk w u k) (b : l[i]? = u[k]?) : stk w l (i + 1) = stk w u (k + 1) := by
  show (match stk w l i, l[i]? with
      | p :: st, some k => kids p (w k) ++ st
      | st, _ => st) = (match stk w u k, u[k]? with
      | p :: st, some k => kids p (w k) ++ st
      | st, _ => st)
  rw [a, b]
/-- where a path leads, from a place -/
def walk (l : List α) : Nat → List Nat → Option Nat
  | p, [] => some p
  | p, c :: cs => match l[p]? with
    | some k => if c < w k then walk l (nxs w l (p + 1) c) cs else none
    | none => none
theorem walk_app (l : List α) : ∀ (a : List Nat) (p : Nat) (b : List Nat), walk w l p (a ++ b) = (walk w l p a).bind fun q => walk w l q b
  | [], p, b => rfl
  | c :: a, p, b => by
    show (match l[p]? with
      | some k => if c < w k then walk w l (nxs w l (p + 1) c) (a ++ b) else none
      | none => none) = _
    show _ = (match l[p]? with
      | some k => if c < w k then walk w l (nxs w l (p + 1) c) a else none
      | none => none : Option Nat).bind _
    cases l[p]? with
    | none => rfl
    | some k =>
      dsimp only
      by_cases hc : c < w k
      · rw [if_pos hc, if_pos hc]
        exact walk_app l a _ b
      · rw [if_neg hc, if_neg hc]; rfl
theorem walk_one {l : List α} {p c : Nat} {k : α} (hk : l[p]? = some k) : walk w l p [c] = if c < w k then some (nxs w l (p + 1) c) else none := by
  show (match l[p]? with
    | some k => if c < w k then walk w l (nxs w l (p + 1) c) [] else none
    | none => none) = _
  rw [hk]; rfl
theorem kids_get {p : List Nat} {n t : Nat} (h : t < n) : (kids p n)[t]? = some (p ++ [t]) := by
  unfold kids
  rw [List.getElem?_map, List.getElem?_range h]; rfl
theorem stk_walk {l : List α} (h : forest w l 1 = true) : ∀ i, i ≤ l.length → ∀ (t : Nat) (p : List Nat), (stk w l i)[t]? = some p → walk w l 0 p = some (nxs w l i t)
  | 0, _, t, p, hp => by
    have e : (([[]] : List (List Nat)))[t]? = some p := hp
    cases t with
    | zero =>
      cases e
      rw [nxs_zero w (Nat.zero_le _)]; rfl
    | succ t => simp at e
  | i + 1, hi, t, p, hp => by
    have hi' : i < l.length := by omega
    obtain ⟨st, e1, e2⟩ := stk_step w h hi'
    have ih := stk_walk h i (by omega)
    have hk : l[i]? = some l[i] := List.getElem?_eq_getElem hi'
    rw [e2] at hp
    by_cases ht : t < w l[i]
    · rw [List.getElem?_append_left (by rw [kids_len]; exact ht), kids_get ht] at hp
      cases hp
      have q := ih 0 (pth w l i) (by rw [e1]; rfl)
      rw [nxs_zero w (by omega)] at q
      rw [walk_app, q]
      show walk w l i [t] = _
      rw [walk_one w hk, if_pos ht]
    · rw [List.getElem?_append_right (by rw [kids_len]; omega), kids_len] at hp
      have q := ih (t - w l[i] + 1) p (by rw [e1]; exact hp)
      rw [q, nxs_in w (m := 0) hk, show w l[i] + (t - w l[i]) = t by omega]
theorem pth_walk {l : List α} (h : forest w l 1 = true) {i : Nat} (hi : i < l.length) : walk w l 0 (pth w l i) = some i := by
  obtain ⟨st, e1, _⟩ := stk_step w h hi
  have q := stk_walk w h i (Nat.le_of_lt hi) 0 (pth w l i) (by rw [e1]; rfl)
  rw [nxs_zero w (Nat.le_of_lt hi)] at q
  exact q
/-! ### another branch in the place of one -/
theorem skip_swap : ∀ (x y y' : List α) (c : Nat) (x' : List α), y ≠ [] → skip w (x ++ y) c = x' ++ y → skip w (x ++ y') c = x' ++ y'
  | x, y, y', 0, x', hy, h => by
    rw [skip_zero] at h ⊢
    rw [List.append_cancel_right h]
  | [], y, y', c + 1, x', hy, h => by
    have q := skip_lt w y c hy
    rw [List.nil_append] at h
    rw [h, List.length_append] at q
    omega
  | k :: x, y, y', c + 1, x', hy, h => skip_swap x y y' (w k + c) x' hy h
theorem suffix_len {x' y z : List α} (h : x' ++ y = z) : y.length ≤ z.length := by rw [← h, List.length_append]; omega
/-- a path that leads to the place behind x leads there as well when another row stands from there on -/
theorem walk_swap {pre y y' : List α} (hy : y ≠ []) : ∀ (cs : List Nat) (u x : List α), pre = u ++ x → walk w (pre ++ y) u.length cs = some pre.length → walk w (pre ++ y') u.length cs = some pre.length
  | [], u, x, e, h => by
    have h2 : u.length = pre.length := Option.some.inj h
    show some u.length = _
    rw [h2]
  | c :: cs, u, [], e, h => by
    -- the walk goes on beyond the place: it cannot come back
    exfalso
    rw [List.append_nil] at e
    subst e
    have go : ∀ (cs : List Nat) (q : Nat), pre.length < q → walk w (pre ++ y) q cs ≠ some pre.length := by
      intro cs
      induction cs with
      | nil => intro q hq e; exact absurd (Option.some.inj e) (by omega)
      | cons c cs ih =>
        intro q hq e
        have e' : (match (pre ++ y)[q]? with
          | some k => if c < w k then walk w (pre ++ y) (nxs w (pre ++ y) (q + 1) c) cs else none
          | none => none) = some pre.length := e
        cases hk : (pre ++ y)[q]? with
        | none => rw [hk] at e'; cases e'
        | some k =>
          rw [hk] at e'
          dsimp only at e'
          by_cases hc : c < w k
          · rw [if_pos hc] at e'
            have hq2 := (List.getElem?_eq_some_iff.mp hk).1
            exact ih _ (Nat.lt_of_lt_of_le (by omega) (nxs_ge w _ c (show q + 1 ≤ _ from hq2))) e'
          · rw [if_neg hc] at e'; cases e'
    have e' : (match (pre ++ y)[pre.length]? with
      | some k => if c < w k then walk w (pre ++ y) (nxs w (pre ++ y) (pre.length + 1) c) cs else none
      | none => none) = some pre.length := h
    cases hk : (pre ++ y)[pre.length]? with
    | none => rw [hk] at e'; cases e'
    | some k =>
      rw [hk] at e'
      dsimp only at e'
      by_cases hc : c < w k
      · rw [if_pos hc] at e'
        have hq2 := (List.getElem?_eq_some_iff.mp hk).1
        exact go cs _ (Nat.lt_of_lt_of_le (by omega) (nxs_ge w _ c (show pre.length + 1 ≤ _ from hq2))) e'
      · rw [if_neg hc] at e'; cases e'
  | c :: cs, u, k :: x, e, h => by
    have hg : ∀ z : List α, (pre ++ z)[u.length]? = some k := fun z => by
      rw [e, List.append_assoc, List.getElem?_append_right (Nat.le_refl _), Nat.sub_self]; rfl
    have hd : ∀ z : List α, (pre ++ z).drop (u.length + 1) = x ++ z := fun z => by
      rw [e, List.append_assoc, List.drop_append, List.drop_eq_nil_of_le (by omega), show u.length + 1 - u.length = 1 by omega]; rfl
    have h' : (match (pre ++ y)[u.length]? with
      | some k => if c < w k then walk w (pre ++ y) (nxs w (pre ++ y) (u.length + 1) c) cs else none
      | none => none) = some pre.length := h
    show (match (pre ++ y')[u.length]? with
      | some k => if c < w k then walk w (pre ++ y') (nxs w (pre ++ y') (u.length + 1) c) cs else none
      | none => none) = some pre.length
    rw [hg] at h' ⊢
    dsimp only at h' ⊢
    by_cases hc : c < w k
    · rw [if_pos hc] at h' ⊢
      -- the place behind c branches lies at or ahead of the end of pre
      have back : ∀ (cs : List Nat) (q r : Nat), walk w (pre ++ y) q cs = some r → q ≤ r := by
        intro cs
        induction cs with
        | nil => intro q r e; exact Nat.le_of_eq (Option.some.inj e)
        | cons c cs ih =>
          intro q r e
          have e' : (match (pre ++ y)[q]? with
            | some k => if c < w k then walk w (pre ++ y) (nxs w (pre ++ y) (q + 1) c) cs else none
            | none => none) = some r := e
          cases hk : (pre ++ y)[q]? with
          | none => rw [hk] at e'; cases e'
          | some k =>
            rw [hk] at e'
            dsimp only at e'
            by_cases hc : c < w k
            · rw [if_pos hc] at e'
              have hq2 := (List.getElem?_eq_some_iff.mp hk).1
              have z1 := ih _ _ e'
              have z2 := nxs_ge w (pre ++ y) c (show q + 1 ≤ _ from hq2)
              omega
            · rw [if_neg hc] at e'; cases e'
      have hb := back cs _ _ h'
      have hs := drop_nxs w (pre ++ y) (u.length + 1) c
      rw [hd] at hs
      have hle : nxs w (pre ++ y) (u.length + 1) c ≤ pre.length := hb
      have ha : (pre ++ y).drop (nxs w (pre ++ y) (u.length + 1) c) = pre.drop (nxs w (pre ++ y) (u.length + 1) c) ++ y := by
        rw [List.drop_append, show nxs w (pre ++ y) (u.length + 1) c - pre.length = 0 by omega, List.drop_zero]
      rw [ha] at hs
      have sw := skip_swap w x y y' c _ hy hs.symm
      have en : nxs w (pre ++ y') (u.length + 1) c = nxs w (pre ++ y) (u.length + 1) c := by
        show (pre ++ y').length - (skip w ((pre ++ y').drop (u.length + 1)) c).length = _
        rw [hd, sw, List.length_append, List.length_append, List.length_drop]
        omega
      rw [en]
      have el : (pre.take (nxs w (pre ++ y) (u.length + 1) c)).length = nxs w (pre ++ y) (u.length + 1) c := by rw [List.length_take]; omega
      have r := walk_swap (y' := y') hy cs (pre.take (nxs w (pre ++ y) (u.length + 1) c)) (pre.drop (nxs w (pre ++ y) (u.length + 1) c)) (List.take_append_drop _ _).symm (by rw [el]; exact h')
      rw [el] at r
      exact r
    · rw [if_neg hc] at h'; cases h'
end Mth
namespace Mth
variable {α : Type} (w : α → Nat)
theorem end_step {l : List α} (h : forest w l 1 = true) {p t : Nat} {k : α} (hk : l[p]? = some k) (ht : t < w k) : nxs w l (p + 1) t < l.length ∧ p + 1 ≤ nxs w l (p + 1) t ∧ nxs w l (nxs w l (p + 1) t) 1 = nxs w l (p + 1) (t + 1) := by
  have hp := (List.getElem?_eq_some_iff.mp hk).1
  obtain ⟨m, F⟩ := Fst.all w h p (Nat.le_of_lt hp)
  obtain ⟨n, rfl⟩ := F.pos w hp
  have G := F.in w hk
  refine ⟨nxs_lt_of w (b := w k - t + n) (by rw [show t + (w k - t + n) = w k + n by omega]; exact G) (by omega), nxs_ge w l t hp, ?_⟩
  rw [nxs_add]
theorem end_last {l : List α} {p : Nat} {k : α} (hk : l[p]? = some k) : nxs w l (p + 1) (w k) = nxs w l p 1 := by
  have q := nxs_in w (m := 0) hk 0
  rw [Nat.add_zero] at q
  exact q.symm
/-- the ends of the branches at all places -/
def ends (l : List α) : List Int := (List.range l.length).map fun j => ((nxs w l j 1 : Nat) : Int)
theorem ends_len (l : List α) : (ends w l).length = l.length := by simp [ends]
theorem ends_get {l : List α} {j : Nat} (h : j < l.length) : (ends w l)[j]? = some ((nxs w l j 1 : Nat) : Int) := by
  unfold ends
  rw [List.getElem?_map, List.getElem?_range h]; rfl
theorem ends_of_get {l : List α} {es : List Int} (hl : es.length = l.length) (h : ∀ j, j < l.length → es[j]? = some ((nxs w l j 1 : Nat) : Int)) : es = ends w l := by
  refine List.ext_getElem? fun j => ?_
  by_cases hj : j < l.length
  · rw [h j hj, ends_get w hj]
  · rw [List.getElem?_eq_none (by omega), List.getElem?_eq_none (by rw [ends_len]; omega)]
/-- how much is missing ahead of place i -/
theorem miss {l : List α} (h : forest w l 1 = true) : ∀ i, i ≤ l.length → Fst w l i (1 + ((l.take i).map w).sum - i) ∧ i ≤ 1 + ((l.take i).map w).sum
  | 0, _ => ⟨⟨Nat.zero_le _, by rw [List.drop_zero]; exact h⟩, Nat.zero_le _⟩
  | i + 1, hi => by
    obtain ⟨F, q⟩ := miss h i (by omega)
    have hi' : i < l.length := by omega
    obtain ⟨n, hn⟩ := F.pos w hi'
    have hk : l[i]? = some l[i] := List.getElem?_eq_getElem hi'
    have e : ((l.take (i + 1)).map w).sum = ((l.take i).map w).sum + w l[i] := by
      rw [List.take_add_one, hk, List.map_append, List.sum_append]
      show _ + (w l[i] + 0) = _
      rw [Nat.add_zero]
    rw [hn] at F
    have G := F.in w hk
    rw [e]
    rw [show 1 + (((l.take i).map w).sum + w l[i]) - (i + 1) = w l[i] + n by omega]
    exact ⟨G, by omega⟩
end Mth
end
section
set_option Elab.async false
set_option linter.all false
set_option maxRecDepth 100000
set_option maxHeartbeats 2000000
namespace Sh
open PySem PySem.Spec PyProof.Rows L2
def top (i : Nat) : Stmt := PySem.Challenge.pw_shearyard_k03_whole_common_and_united_st.main.body.getD i (.Pass ⟨0, 0, 0, 0⟩)
/-- the built-ins and constants by their names -/
structure Bl (mg : Str → Option Value) : Prop where
  b_len : mg "len" = none
  b_range : mg "range" = none
  b_abs : mg "abs" = none
  b_int : mg "int" = none
  b_max : mg "max" = none
  b_all : mg "all" = none
  b_isinstance : mg "isinstance" = none
  b_set : mg "set" = none
  b_list : mg "list" = none
  b_tuple : mg "tuple" = none
  b_bool : mg "bool" = none
  b_str : mg "str" = none
  b_enumerate : mg "enumerate" = none
  c_MOST_KINDS : ∃ t, mg "MOST_KINDS" = some (.int 8 t)
  c_MOST_BRANCHES : ∃ t, mg "MOST_BRANCHES" = some (.int 3 t)
  c_MOST_KNOTS : ∃ t, mg "MOST_KNOTS" = some (.int 2000 t)
  c_LONGEST_NAME : ∃ t, mg "LONGEST_NAME" = some (.int 8 t)
  c_LETTERS : ∃ t, mg "LETTERS" = some (.str "abcdefghijklmnopqrstuvwxyz" t)
theorem pe_cI {X : Cx} {x : Str} {i : Int} {pos : Pos} (hg : Gl X x) (h : ∃ t, X.mg x = some (.int i t)) (hd : (x == ("__debug__" : Str)) = false := by decide) : PE X (.Name x pos) (tC (.int i)) := by
  obtain ⟨t, e⟩ := h
  exact pe_glob hg e ⟨t, rfl⟩ hd
theorem pe_cS {X : Cx} {x z : Str} {pos : Pos} (hg : Gl X x) (h : ∃ t, X.mg x = some (.str z t)) (hd : (x == ("__debug__" : Str)) = false := by decide) : PE X (.Name x pos) (tC (.str z)) := by
  obtain ⟨t, e⟩ := h
  exact pe_glob hg e ⟨t, rfl⟩ hd
/-! ### the bag -/
/-- all that stood stands, but what is at a -/
def Kp (a : Addr) (H H' : Hp) : Prop := ∀ b o, H b = some o → b ≠ a → H' b = some o
theorem Kp.refl (a : Addr) (H : Hp) : Kp a H H := fun _ _ h _ => h
theorem Kp.trans {a : Addr} {H H1 H2 : Hp} (x : Kp a H H1) (y : Kp a H1 H2) : Kp a H H2 := fun b o h n => y b o (x b o h n) n
theorem Kp.upd {a : Addr} {H H1 : Hp} {o : HO} (x : Kp a H H1) : Kp a H (upd H1 a o) := fun b u h n => by rw [upd_ne n]; exact x b u h n
theorem Kp.same {a : Addr} {H H' : Hp} (x : Same H H') : Kp a H H' := fun b o h _ => x b o h
structure Bg (z0 z1 z2 z3 : Int) (cs : List Int) : Prop where
  lo : 4 ≤ z3
  hi : z3 ≤ 4 + cs.length
  sz : cs.length ≤ 63
  nn : ∀ c ∈ cs, 0 ≤ c
def bgL (z0 z1 z2 z3 : Int) (cs : List Int) : List V := .int z0 :: .int z1 :: .int z2 :: .int z3 :: cs.map V.int
def BagAt (H : Hp) (a : Addr) : Prop := ∃ z0 z1 z2 z3 cs, H a = some (.lst (bgL z0 z1 z2 z3 cs)) ∧ Bg z0 z1 z2 z3 cs
def spDraw : Sp := fun vs H Q _ => ∃ (a : Addr) (n : Int), vs = [.ref a, .int n] ∧ BagAt H a ∧ 1 ≤ n ∧ n < 1000000 ∧ ∀ H' d, Kp a H H' → BagAt H' a → 0 ≤ d → d < n → Q (.int d) H'
open C8 (pss_cut tCut)
open Evl (ixN_nat)
theorem bgi {z0 z1 z2 z3 : Int} {cs : List Int} (j : Nat) (h : j < 4) : ixN (bgL z0 z1 z2 z3 cs).length (j : Int) = some j := ixN_nat (by unfold bgL; simp only [List.length_cons]; omega)
theorem int_eq0 {a b : Int} (h : decide (V.int a = V.int b) = true) : a = b := V.int.inj (of_decide_eq_true h)
abbrev s_law_draw : Stmt := top 45
abbrev N_law_draw : List Str := ["bag", "size", "cell", "digit", "mixed"]
theorem sc_law_draw : FnScope N_law_draw ["bag", "size"] (defScope s_law_draw) := ⟨rfl, rfl, rfl, by decide +kernel, rfl, by decide +kernel, by decide +kernel⟩
section
variable {P : Program} {w : World} {K : PySem.W.Frag} {mg : Str → Option Value} {base : Heap}
theorem ok_draw (T : Bl mg) (D : Def0 K mg "_law_draw" s_law_draw) : DefOk P w K mg base CX0 1 "_law_draw" spDraw := by
  refine D.ok sc_law_draw (fun vs H Q E h => ?_) (fun _ _ _ _ _ _ us hl => match us, hl with | [_, _], _ => rfl) (fun f cdv A outer s H vs Q E hr h => ?_)
  · obtain ⟨a, n, rfl, _⟩ := h
    rfl
  · obtain ⟨a, n, rfl, ⟨z0, z1, z2, z3, cs, hb, B⟩, n1, n2, k⟩ := h
    refine ⟨_, (pss_cons (ps_asg (pe_op op_add (pe_ix ix_list (pv 0) pe_int (fun _ _ => rfl)) pe_int) (pg_sub (pv 0) pe_int set_list))
      (pss_cut (ps_if (PW.pt (pw_and (pt_cmpR op_eq (pe_ix ix_list (pv 0) pe_int (fun _ _ => rfl)) pe_int (nomark _)) (pw_and1 (pt_cmpR op_lt (pe_ix ix_list (pv 0) pe_int (fun _ _ => rfl)) (pe_callB call_len_seq (by rfl) T.b_len boot_len (pa_cons (pv 0) pa_nil)) (nomark _)))))
        (pss_cons (ps_set (i := 2) sc_law_draw.nd rfl (Or.inl rfl) (pe_ix ix_list (pv 0) (pe_ix ix_list (pv 0) pe_int (fun _ _ => rfl)) (fun _ _ => rfl)))
        (pss_cons (ps_asg (pe_op op_add (pe_ix ix_list (pv 0) pe_int (fun _ _ => rfl)) pe_int) (pg_sub (pv 0) pe_int set_list))
        (pss_one (ps_if (pt_cmpR op_lt (pv 2) (pe_op op_pow pe_int pe_int) (nomark _))
          (pss_one (ps_asg (pe_op op_mod (pe_callTy call_int1 (by rfl) T.b_int (by decide +kernel) (pa_cons (pe_op op_add (pe_op op_add (pe_op op_mul (pe_ix ix_list (pv 0) pe_int (fun _ _ => rfl)) pe_int) (pv 2)) pe_int) pa_nil)) pe_int) (pg_sub (pv 0) pe_int set_list)))
          (pss_one (ps_asg (pv 2) (pg_sub (pv 0) pe_int set_list)))))))
        pss_nil)
      (pss_cons (ps_if (pt_cmpR op_gt (pe_ix ix_list (pv 0) pe_int (fun _ _ => rfl)) pe_int (nomark _))
        (pss_cons (ps_set (i := 3) sc_law_draw.nd rfl (Or.inl rfl) (pe_op op_mod (pe_callTy call_int1 (by rfl) T.b_int (by decide +kernel) (pa_cons (pe_ix ix_list (pv 0) pe_int (fun _ _ => rfl)) pa_nil)) (pv 1)))
        (pss_cons (ps_asg (pe_op op_fdiv (pe_ix ix_list (pv 0) pe_int (fun _ _ => rfl)) (pv 1)) (pg_sub (pv 0) pe_int set_list))
        (pss_one (ps_ret (pv 3)))))
        pss_nil)
      (pss_cons (ps_set (i := 4) sc_law_draw.nd rfl (Or.inl rfl) (pe_op op_mod (pe_callTy call_int1 (by rfl) T.b_int (by decide +kernel) (pa_cons (pe_op op_add (pe_op op_add (pe_op op_mul (pe_ix ix_list (pv 0) pe_int (fun _ _ => rfl)) pe_int) (pe_op op_mul (pe_ix ix_list (pv 0) pe_int (fun _ _ => rfl)) pe_int)) pe_int) pa_nil)) pe_int))
      (pss_cons (ps_set (i := 4) sc_law_draw.nd rfl (Or.inl rfl) (pe_op op_mod (pe_callTy call_int1 (by rfl) T.b_int (by decide +kernel) (pa_cons (pe_op op_add (pe_op op_mul (pv 4) (pe_op op_add (pe_op op_fdiv (pv 4) pe_int) pe_int)) (pe_ix ix_list (pv 0) pe_int (fun _ _ => rfl))) pa_nil)) pe_int))
      (pss_one (ps_ret (pe_op op_mod (pe_callTy call_int1 (by rfl) T.b_int (by decide +kernel) (pa_cons (pe_op op_fdiv (pv 4) pe_int) pa_nil)) (pv 1))))))))), ?_⟩
    refine ⟨_, rfl, a, _, _, _, rfl, rfl, SqL.of hb, atI_nat (j := 2) rfl, _, _, rfl, rfl, _, rfl, a, _, _, 2, rfl, rfl, hb, bgi 2 (by decide), ?_⟩
    have k1 : Kp a H (upd H a (.lst (bgL z0 z1 (z2 + 1) z3 cs))) := (Kp.refl a H).upd
    refine ⟨fun σ H' => ∃ (z0 z1 z2 z3 : Int) (c d m : Option V), σ = [some (.ref a), some (.int n), c, d, m] ∧ H' a = some (.lst (bgL z0 z1 z2 z3 cs)) ∧ Bg z0 z1 z2 z3 cs ∧ Kp a H H', ?_, ?_⟩
    · have hb1 : (upd H a (.lst (bgL z0 z1 (z2 + 1) z3 cs))) a = some (.lst (bgL z0 z1 (z2 + 1) z3 cs)) := upd_same
      have B1 : Bg z0 z1 (z2 + 1) z3 cs := ⟨B.lo, B.hi, B.sz, B.nn⟩
      have cut0 : ∀ H', H' = upd H a (.lst (bgL z0 z1 (z2 + 1) z3 cs)) → ∃ (y0 y1 y2 y3 : Int) (c d m : Option V), [some (V.ref a), some (V.int n), none, none, none] = [some (.ref a), some (.int n), c, d, m] ∧ H' a = some (.lst (bgL y0 y1 y2 y3 cs)) ∧ Bg y0 y1 y2 y3 cs ∧ Kp a H H' :=
        fun H' e => ⟨z0, z1, z2 + 1, z3, none, none, none, rfl, by rw [e]; exact hb1, B1, by rw [e]; exact k1⟩
      refine ⟨_, rfl, a, _, _, _, rfl, rfl, SqL.of hb1, atI_nat (j := 0) rfl, rfl, _, rfl, ?_⟩
      refine ite2 (fun h0 => ?_) (fun h0 => ?_)
      · refine ⟨_, rfl, a, _, _, _, rfl, rfl, SqL.of hb1, atI_nat (j := 3) rfl, _, rfl, a, _, rfl, .inl (SqL.of hb1), _, _, rfl, rfl, _, rfl, ?_⟩
        have hlen : (bgL z0 z1 (z2 + 1) z3 cs).length = 4 + cs.length := by
          unfold bgL
          simp only [List.length_cons, List.length_map]
          omega
        refine ite2 (fun h1 => ?_) (fun h1 => ?_)
        · have h3 : z3 < 4 + (cs.length : Int) := by
            have q := of_decide_eq_true h1
            rw [hlen] at q
            omega
          obtain ⟨j, hj⟩ : ∃ j : Nat, z3 = ((4 + j : Nat) : Int) := ⟨(z3 - 4).toNat, by have := B.lo; omega⟩
          have hjl : j < cs.length := by omega
          have hjc : (bgL z0 z1 (z2 + 1) z3 cs)[4 + j]? = some (.int cs[j]) := by
            unfold bgL
            rw [show 4 + j = j + 1 + 1 + 1 + 1 by omega]
            simp only [List.getElem?_cons_succ, List.getElem?_map, List.getElem?_eq_getElem hjl, Option.map_some]
          have hat : atI (bgL z0 z1 (z2 + 1) z3 cs) z3 = some (.int cs[j]) := at_of hj hjc
          refine ⟨_, rfl, _, rfl, a, _, _, _, rfl, rfl, SqL.of hb1, atI_nat (j := 3) rfl, a, _, _, _, rfl, rfl, SqL.of hb1, hat, ?_⟩
          refine ⟨_, rfl, a, _, _, _, rfl, rfl, SqL.of hb1, atI_nat (j := 3) rfl, _, _, rfl, rfl, _, rfl, a, _, _, 3, rfl, rfl, hb1, bgi 3 (by decide), ?_⟩
          have hb2 : (upd (upd H a (.lst (bgL z0 z1 (z2 + 1) z3 cs))) a (.lst (bgL z0 z1 (z2 + 1) (z3 + 1) cs))) a = some (.lst (bgL z0 z1 (z2 + 1) (z3 + 1) cs)) := upd_same
          have B2 : ∀ y0 y1, Bg y0 y1 (z2 + 1) (z3 + 1) cs := fun _ _ => ⟨by have := B.lo; omega, by omega, B.sz, B.nn⟩
          refine ⟨_, rfl, _, _, rfl, rfl, ⟨by decide, by decide, by decide⟩, _, _, rfl, rfl, _, rfl, ?_⟩
          refine ite2 (fun h2 => ?_) (fun h2 => ?_)
          · refine ⟨_, rfl, a, _, _, _, rfl, rfl, SqL.of hb2, atI_nat (j := 1) rfl, _, _, rfl, rfl, .inr ⟨by decide, by decide⟩, _, rfl, _, _, rfl, rfl, _, _, rfl, rfl, .inl ⟨_, rfl, ?_⟩⟩
            refine ⟨_, _, rfl, rfl, (show (0 : Int) < 1000000007 by decide), _, rfl, a, _, _, 1, rfl, rfl, hb2, bgi 1 (by decide), ?_⟩
            exact ⟨z0, _, z2 + 1, z3 + 1, _, _, _, rfl, upd_same, B2 _ _, k1.upd.upd⟩
          · refine ⟨_, rfl, _, rfl, a, _, _, 0, rfl, rfl, hb2, bgi 0 (by decide), ?_⟩
            exact ⟨_, z1, z2 + 1, z3 + 1, _, _, _, rfl, upd_same, B2 _ _, k1.upd.upd⟩
        · exact cut0 _ rfl
      · exact cut0 _ rfl
    · rintro σ H' ⟨z0, z1, z2, z3, c, d, m, rfl, hb2, B2, k2⟩
      have bag2 : ∀ H'' y0 y1 y2, H'' a = some (.lst (bgL y0 y1 y2 z3 cs)) → BagAt H'' a := fun H'' y0 y1 y2 e => ⟨y0, y1, y2, z3, cs, e, B2.lo, B2.hi, B2.sz, B2.nn⟩
      refine ⟨_, rfl, a, _, _, _, rfl, rfl, SqL.of hb2, atI_nat (j := 0) rfl, _, _, rfl, rfl, _, rfl, ?_⟩
      refine ite2 (fun h0 => ?_) (fun h0 => ?_)
      · refine ⟨_, rfl, a, _, _, _, rfl, rfl, SqL.of hb2, atI_nat (j := 0) rfl, .inl ⟨_, rfl, ?_⟩⟩
        refine ⟨_, rfl, _, _, rfl, rfl, (show (0 : Int) < n by omega), ?_⟩
        refine ⟨_, rfl, a, _, _, _, rfl, rfl, SqL.of hb2, atI_nat (j := 0) rfl, _, rfl, _, _, rfl, rfl, ⟨by omega, by omega⟩, _, rfl, a, _, _, 0, rfl, rfl, hb2, bgi 0 (by decide), ?_⟩
        refine ⟨_, rfl, ?_⟩
        exact k _ _ k2.upd (bag2 _ _ _ _ upd_same) (Int.emod_nonneg _ (by omega)) (Int.emod_lt_of_pos _ (by omega))
      · refine ⟨_, rfl, a, _, _, _, rfl, rfl, SqL.of hb2, atI_nat (j := 1) rfl, _, _, rfl, rfl, .inr ⟨by decide, by decide⟩, _, rfl, a, _, _, _, rfl, rfl, SqL.of hb2, atI_nat (j := 2) rfl, _, _, rfl, rfl, .inr ⟨by decide, by decide⟩, _, _, rfl, rfl, _, _, rfl, rfl, .inl ⟨_, rfl, ?_⟩⟩
        refine ⟨_, _, rfl, rfl, (show (0 : Int) < 2147483647 by decide), ?_⟩
        have m0 := Int.emod_nonneg (z1 * 1103515245 + z2 * 1640531527 + 12345) (show (2147483647 : Int) ≠ 0 by decide)
        have m1 := Int.emod_lt_of_pos (z1 * 1103515245 + z2 * 1640531527 + 12345) (show (0 : Int) < 2147483647 by decide)
        refine ⟨_, rfl, _, rfl, _, _, rfl, rfl, ⟨by decide, by decide⟩, _, _, rfl, rfl, _, _, rfl, rfl, .inl ⟨by omega, by omega⟩, _, rfl, a, _, _, _, rfl, rfl, SqL.of hb2, atI_nat (j := 2) rfl, _, _, rfl, rfl, .inl ⟨_, rfl, ?_⟩⟩
        refine ⟨_, _, rfl, rfl, (show (0 : Int) < 2147483399 by decide), ?_⟩
        refine ⟨_, rfl, _, _, rfl, rfl, ⟨by decide, by decide⟩, .inl ⟨_, rfl, ?_⟩⟩
        refine ⟨_, rfl, _, _, rfl, rfl, (show (0 : Int) < n by omega), ?_⟩
        exact k _ _ k2 (bag2 _ _ _ _ hb2) (Int.emod_nonneg _ (by omega)) (Int.emod_lt_of_pos _ (by omega))
end
end Sh
end
section
set_option Elab.async false
set_option linter.all false
set_option maxRecDepth 100000
set_option maxHeartbeats 2000000
set_option autoImplicit false
namespace Sh
open PySem PySem.Spec PyProof.Rows L2
open C8 (pss_cut tCut)
open Evl (ixN_nat)
open TL (tl joinL tl_join join_eq)
end Sh
namespace L2
open PySem PySem.Spec PyProof.Rows
theorem Same.upd_new {H H1 : Hp} {p : Addr} {o : HO} (s : Same H H1) (hp : H1 p = none) : Same H (upd H1 p o) := fun b u h => by
  rw [upd_ne (ne_of_none (s b u h) hp)]
  exact s b u h
theorem Same.upd_own {H H1 : Hp} {p : Addr} {o : HO} (s : Same H H1) (hp : H p = none) : Same H (upd H1 p o) := fun b u h => by
  rw [upd_ne (ne_of_none h hp)]
  exact s b u h
end L2
namespace Sh
open PySem PySem.Spec PyProof.Rows L2
open C8 (pss_cut tCut)
open Evl (ixN_nat)
open TL (tl joinL tl_join join_eq)
theorem get_map {α β : Type} {f : α → β} {l : List α} {i : Nat} {y : β} (h : (l.map f)[i]? = some y) : ∃ x, l[i]? = some x ∧ y = f x := by
  rw [List.getElem?_map] at h
  cases e : l[i]? with
  | none => rw [e] at h; cases h
  | some x => rw [e] at h; exact ⟨x, rfl, (Option.some.inj h).symm⟩
theorem take_snoc {α : Type} {l : List α} {i : Nat} {x : α} (h : l[i]? = some x) : l.take i ++ [x] = l.take (i + 1) := by
  rw [List.take_add_one, h]
  rfl
theorem lt_of_get {α : Type} {l : List α} {i : Nat} {x : α} (h : l[i]? = some x) : i < l.length := (List.getElem?_eq_some_iff.mp h).1
theorem mem_of_get {α : Type} {l : List α} {i : Nat} {x : α} (h : l[i]? = some x) : x ∈ l := List.mem_of_getElem? h
theorem le_line {n : Nat} (h : n ≤ 100000) : n ≤ sizeLine := Nat.le_trans h (by rw [sizeLine_eq]; decide)
theorem lt_line {n : Nat} (h : n ≤ 100000) : n < sizeLine := Nat.lt_of_le_of_lt h (by rw [sizeLine_eq]; decide)
theorem at_ofG {α : Type} {xs : List α} {z : Int} {j : Nat} {v : α} (e : z = (j : Int)) (h : xs[j]? = some v) : atI xs z = some v := by
  rw [e]
  exact atI_nat h
/-! ### names -/
def IsNm (z : Str) : Prop := 1 ≤ z.cps.size ∧ z.cps.size ≤ 8 ∧ ∀ c ∈ z.cps.toList, 97 ≤ c ∧ c ≤ 122
def sg (c : Nat) : Str := ⟨#[c]⟩
theorem tl_sg (c : Nat) : tl (sg c) = [c] := rfl
theorem joinL_nil : ∀ l : List (List Nat), joinL [] l = l.flatten
  | [] => rfl
  | [p] => by simp [joinL]
  | p :: q :: r => by
    show p ++ ([] ++ joinL [] (q :: r)) = _
    rw [List.nil_append, joinL_nil (q :: r)]
    simp only [List.flatten_cons]
theorem join_sgs (cs : List Nat) : (Txt.join "" (cs.map sg)).cps.toList = cs := by
  have e : tl (Txt.join "" (cs.map sg)) = cs := by
    rw [join_eq, tl_join, show tl ("" : Str) = [] from rfl, joinL_nil, List.map_map]
    induction cs with
    | nil => rfl
    | cons c r ih =>
      rw [List.map_cons, List.flatten_cons, ih]
      rfl
  exact e
theorem letters_at (d : Nat) (h : d < 26) : (("abcdefghijklmnopqrstuvwxyz" : Str).cps.toList)[d]? = some (97 + d) := by
  have z : ∀ d, d < 26 → (("abcdefghijklmnopqrstuvwxyz" : Str).cps.toList)[d]? = some (97 + d) := by decide +kernel
  exact z d h
theorem letters_len : ("abcdefghijklmnopqrstuvwxyz" : Str).length = 26 := by decide +kernel
def spBag (K : PySem.W.Frag) : Sp := fun vs H Q _ => ∃ (a : Addr) (ns : List Int), vs = [.ref a] ∧ SqL K H a (ns.map V.int) ∧ ns.length ≤ 63 ∧ ∀ H' p, Same H H' → H p = none → BagAt H' p → Q (.ref p) H'
def spWord : Sp := fun vs H Q _ => ∃ a, vs = [.ref a] ∧ BagAt H a ∧ ∀ H' z, Kp a H H' → BagAt H' a → IsNm z → Q (.str z) H'
theorem Kp.bag_ne {a b : Addr} {H : Hp} (hb : BagAt H a) (h : H b = none) : b ≠ a := fun e => by
  obtain ⟨z0, z1, z2, z3, cs, q, _⟩ := hb
  rw [e, q] at h
  cases h
theorem Kp.upd_new {a p : Addr} {H H1 : Hp} {o : HO} (x : Kp a H H1) (hp : H1 p = none) : Kp a H (L2.upd H1 p o) := fun b u h n => by
  have q := x b u h n
  rw [upd_ne (ne_of_none q hp)]
  exact q
theorem Kp.upd_own {a p : Addr} {H H1 : Hp} {o : HO} (x : Kp a H H1) (hp : H p = none) : Kp a H (L2.upd H1 p o) := fun b u h n => by
  rw [upd_ne (ne_of_none h hp)]
  exact x b u h n
theorem BagAt.upd_ne {a p : Addr} {H : Hp} {o : HO} (h : BagAt H a) (n : p ≠ a) : BagAt (upd H p o) a := by
  obtain ⟨z0, z1, z2, z3, cs, q, B⟩ := h
  exact ⟨z0, z1, z2, z3, cs, by rw [L2.upd_ne (Ne.symm n)]; exact q, B⟩
abbrev s_law_bag : Stmt := top 44
abbrev N_law_bag : List Str := ["script", "cell"]
theorem sc_law_bag : FnScope N_law_bag ["script"] (defScope s_law_bag) := ⟨rfl, rfl, rfl, by decide +kernel, rfl, by decide +kernel, by decide +kernel⟩
abbrev s_law_word : Stmt := top 46
abbrev N_law_word : List Str := ["bag", "letters", "k"]
theorem sc_law_word : FnScope N_law_word ["bag"] (defScope s_law_word) := ⟨rfl, rfl, rfl, by decide +kernel, rfl, by decide +kernel, by decide +kernel⟩
section
variable {P : Program} {w : World} {K : PySem.W.Frag} {mg : Str → Option Value} {base : Heap}
theorem ok_bag (T : Bl mg) (D : Def0 K mg "_law_bag" s_law_bag) : DefOk P w K mg base CX0 1 "_law_bag" (spBag K) := by
  refine D.ok sc_law_bag (fun vs H Q E h => ?_) (fun _ _ _ _ _ _ us hl => match us, hl with | [_], _ => rfl) (fun f cdv A outer s H vs Q E hr h => ?_)
  · obtain ⟨a, n, rfl, _⟩ := h
    rfl
  · obtain ⟨a, ns, rfl, hs, hl, k⟩ := h
    refine ⟨_, (pss_one (ps_ret (pe_op op_cat (pe_lst (pa_cons pe_int (pa_cons pe_int (pa_cons pe_int (pa_cons pe_int pa_nil))))) (pe_lc (own := [("cell", 1)]) (g := (gName 1)) (tt := tYes) rfl sc_law_bag.nd (pi_list (pv 0)) (blkOk_by (N := N_law_bag) (sc := defScope s_law_bag) (by decide +kernel)) (fun _ _ _ _ _ => (pg_name (i := 1) sc_law_bag.nd rfl (Or.inl rfl))) (fun _ _ _ _ _ => pts_nil) (fun _ _ _ _ _ => (pe_callB call_abs (by rfl) T.b_abs (by decide +kernel) (pa_cons (pe_callTy call_int1 (by rfl) T.b_int (by decide +kernel) (pa_cons (pv 1) pa_nil)) pa_nil))))))), ?_⟩
    refine ⟨by show 4 ≤ sizeLine; exact le_line (by decide), fun l hl4 => ?_⟩
    have s1 : Same H (upd H l (.lst [.int 0, .int 0, .int 0, .int 4])) := (Same.refl H).upd_new hl4
    refine ⟨_, rfl, a, rfl, ⟨_, s1.seq hs⟩, fun D hD => lc_list (xs := ns.map V.int) (fun i H' => Same (upd H l (.lst [.int 0, .int 0, .int 0, .int 4])) H' ∧ H' D = some (.lst ((ns.take i).map fun n => V.int (if n < 0 then -n else n))))
      ⟨(Same.refl _).upd_new hD, upd_same⟩ (fun i H' _ ⟨q, _⟩ => (s1.trans q).seq hs) ?_ ?_⟩
    · rintro i x H' hi ⟨q1, q2⟩
      obtain ⟨n, hn, rfl⟩ := get_map hi
      refine ⟨rfl, _, rfl, .inl ⟨_, rfl, _, rfl, _, q2, ?_, (q1.upd_own hD), ?_⟩⟩
      · rw [List.length_map, List.length_take]
        exact lt_line (by omega)
      · rw [upd_same, ← take_snoc hn, List.map_append]
        rfl
    · rintro H' ⟨q1, q2⟩
      have ld : D ≠ l := fun e => by rw [e, upd_same] at hD; cases hD
      refine ⟨_, _, _, _, rfl, rfl, q1 _ _ upd_same, q2, ?_, fun p hp => ?_⟩
      · rw [List.length_map, List.length_take]
        exact le_line (by simp; omega)
      · have s2 : Same H H' := s1.trans q1
        refine k _ _ (s2.upd_new hp) (s2.free hp) ⟨0, 0, 0, 4, ns.map fun n => if n < 0 then -n else n, ?_, by decide, by omega, by rw [List.length_map]; exact hl, fun c hc => ?_⟩
        · rw [upd_same, List.length_map, List.take_length]
          unfold bgL
          rw [List.map_map]
          rfl
        · obtain ⟨n, _, rfl⟩ := List.mem_map.mp hc
          show 0 ≤ if n < 0 then -n else n
          split <;> omega
theorem ok_word (T : Bl mg) (c_law_draw : DefOk P w K mg base CX0 1 "_law_draw" spDraw) (D : Def0 K mg "_law_word" s_law_word) : DefOk P w K mg base CX0 2 "_law_word" spWord := by
  refine D.ok sc_law_word (fun vs H Q E h => ?_) (fun _ _ _ _ _ _ us hl => match us, hl with | [_], _ => rfl) (fun f cdv A outer s H vs Q E hr h => ?_)
  · obtain ⟨a, rfl, _⟩ := h
    rfl
  · obtain ⟨a, rfl, hb, k⟩ := h
    refine ⟨_, (pss_cons (ps_set (i := 1) sc_law_word.nd rfl (Or.inr rfl) pe_str)
      (pss_one (ps_ret (pe_bm PySem.F.plainAttrs_str PySem.F.slot_str_join PySem.F.type_str_join mt_join pe_str (pa_cons (pe_lc (own := [("k", 2)]) (g := (gName 2)) (tt := tYes) rfl sc_law_word.nd (pi_range1 (by rfl) T.b_range (pa_cons (pe_op op_add pe_int (pe_d c_law_draw (hr.mono (by decide)) pass0 (pa_cons (pv 0) (pa_cons pe_int pa_nil)))) pa_nil)) (blkOk_by (N := N_law_word) (sc := defScope s_law_word) (by decide +kernel)) (fun _ _ _ _ _ => (pg_name (i := 2) sc_law_word.nd rfl (Or.inl rfl))) (fun _ _ _ _ _ => pts_nil) (fun _ _ _ _ _ => (pe_ix ix_str (pv 1) (pe_d c_law_draw (hr.mono (by decide)) pass0 (pa_cons (pv 0) (pa_cons pe_int pa_nil))) (fun _ _ => rfl)))) pa_nil))))), ?_⟩
    refine ⟨rfl, _, rfl, a, 8, rfl, hb, by decide, by decide, fun H1 d k1 b1 d0 d8 => ?_⟩
    refine ⟨_, _, rfl, rfl, _, rfl, by omega, by omega, fun D hD => lc_range (n := (1 + d).toNat) (fun i H' => Kp a H1 H' ∧ BagAt H' a ∧ ∃ cs : List Nat, cs.length = i ∧ (∀ c ∈ cs, 97 ≤ c ∧ c ≤ 122) ∧ H' D = some (.lst ((cs.map sg).map V.str)))
      ⟨(Kp.refl _ _).upd_new hD, b1.upd_ne (Kp.bag_ne b1 hD), [], rfl, (fun c hc => nomatch hc), upd_same⟩ ?_ ?_⟩
    · rintro i H' hi ⟨k2, b2, cs, hc, hcs, hD2⟩
      have nDa : D ≠ a := Kp.bag_ne b1 hD
      refine ⟨rfl, _, rfl, _, rfl, a, 26, rfl, b2, by decide, by decide, fun H2 e k3 b3 e0 e1 => ?_⟩
      refine ⟨_, _, 97 + e.toNat, rfl, rfl, (by rw [letters_len]; exact le_line (by decide)), at_ofG (z := e) (j := e.toNat) (by omega) (letters_at e.toNat (by omega)), _, k3 _ _ hD2 nDa, ?_, (k2.trans k3).upd_own hD, b3.upd_ne nDa, cs ++ [97 + e.toNat], ?_, ?_, ?_⟩
      · simp only [List.length_map]
        exact lt_line (by omega)
      · rw [List.length_append, hc]; rfl
      · intro c hc2
        rcases List.mem_append.mp hc2 with q | q
        · exact hcs c q
        · rw [List.mem_singleton.mp q]; omega
      · rw [upd_same, List.map_append, List.map_append]
        rfl
    · rintro H' ⟨k2, b2, cs, hc, hcs, hD2⟩
      refine ⟨_, _, _, rfl, rfl, .inl (SqL.of hD2), ?_, ?_⟩
      · have e : ((cs.map sg).map (·.length)).sum = cs.length := by
          rw [List.map_map]
          clear hc hcs hD2
          induction cs with
          | nil => rfl
          | cons c r ih =>
            rw [List.map_cons, List.sum_cons, ih, List.length_cons]
            show 1 + r.length = _
            omega
        rw [e]
        simp only [List.length_map]
        show cs.length + cs.length * 0 ≤ _
        omega
      · have z := join_sgs cs
        have zl : (Txt.join "" (cs.map sg)).cps.size = cs.length := by rw [← Array.length_toList, z]
        exact k _ _ (k1.trans k2) b2 ⟨by rw [zl, hc]; omega, by rw [zl, hc]; omega, fun c q => hcs c (by rw [z] at q; exact q)⟩
end
end Sh
end
section
set_option Elab.async false
set_option linter.all false
set_option maxRecDepth 100000
set_option maxHeartbeats 2000000
set_option autoImplicit false
namespace Sh
open PySem PySem.Spec PyProof.Rows L2
open C8 (pss_cut tCut)
open Evl (ixN_nat)
open TL (tl joinL tl_join join_eq tl_append)
theorem Kp.free_of {a p : Addr} {H H1 : Hp} (x : Kp a H H1) (h : H1 p = none) (n : p ≠ a) : H p = none := by
  cases e : H p with
  | none => rfl
  | some o =>
    rw [x p o e n] at h
    cases h
theorem inV_str (w : Str) (ns : List Str) : inV (.str w) (ns.map V.str) = decide (w ∈ ns) := by
  induction ns with
  | nil => rfl
  | cons n r ih =>
    have e : inV (.str w) ((n :: r).map V.str) = ((n == w) || inV (.str w) (r.map V.str)) := rfl
    rw [e, ih, Bool.eq_iff_iff, Bool.or_eq_true, beq_iff_eq, decide_eq_true_iff, decide_eq_true_iff, List.mem_cons]
    exact or_congr_left eq_comm
theorem flat_strs (ns : List Str) : (ns.map V.str).all flatV = true := by
  rw [List.all_eq_true]
  intro x hx
  obtain ⟨y, _, rfl⟩ := List.mem_map.mp hx
  rfl
theorem flat_ints (ns : List Int) : (ns.map V.int).all flatV = true := by
  rw [List.all_eq_true]
  intro x hx
  obtain ⟨y, _, rfl⟩ := List.mem_map.mp hx
  rfl
theorem sub_len {α : Type} [DecidableEq α] : ∀ (l m : List α), l.Nodup → (∀ x ∈ l, x ∈ m) → l.length ≤ m.length
  | [], _, _, _ => Nat.zero_le _
  | a :: l, m, nd, h => by
    rw [List.nodup_cons] at nd
    have ha := h a List.mem_cons_self
    have z := sub_len l (m.erase a) nd.2 fun x hx => (List.mem_erase_of_ne (fun e => nd.1 (by rw [← e]; exact hx))).mpr (h x (List.mem_cons_of_mem _ hx))
    rw [List.length_erase_of_mem ha] at z
    have p := List.length_pos_of_mem ha
    rw [List.length_cons]
    omega
def lets : List Str := (List.range 26).map fun d => sg (97 + d)
theorem lets_nd : lets.Nodup := by decide +kernel
theorem lets_get {i : Nat} (h : i < 26) : (("abcdefghijklmnopqrstuvwxyz" : Str).cps)[i]? = some (97 + i) := by
  rw [← Array.getElem?_toList]
  exact letters_at i h
theorem nm_sg {c : Nat} (h : 97 ≤ c ∧ c ≤ 122) : IsNm (sg c) := ⟨by show 1 ≤ 1; decide, by show 1 ≤ 8; decide, fun x hx => by
  have z : x = c := List.mem_singleton.mp hx
  rw [z]; exact h⟩
def spName (K : PySem.W.Frag) : Sp := fun vs H Q _ => ∃ (a t : Addr) (ns : List Str), vs = [.ref a, .ref t] ∧ BagAt H a ∧ t ≠ a ∧ H t = some (.lst (ns.map V.str)) ∧ (∀ n ∈ ns, IsNm n) ∧ ns.length ≤ 7 ∧ ∀ H' z, Kp a H H' → BagAt H' a → IsNm z → z ∉ ns → Q (.str z) H'
theorem str_len (z : Str) : z.length = z.cps.size := rfl
theorem nm_line {z : Str} (h : IsNm z) : z.length ≤ sizeLine := le_line (Nat.le_trans h.2.1 (by decide))
theorem nm_app {x y : Str} (hx : IsNm x) (hy : IsNm y) (hl : x.length < 8) {c : Nat} (hc : y.cps.toList[0]? = some c) : IsNm (x ++ sg c) := by
  have e : (x ++ sg c).cps.toList = x.cps.toList ++ [c] := tl_append x (sg c)
  have el : (x ++ sg c).cps.size = x.cps.size + 1 := by
    rw [← Array.length_toList, e, List.length_append, Array.length_toList]
    rfl
  refine ⟨by rw [el]; omega, by rw [el]; rw [str_len] at hl; omega, fun z hz => ?_⟩
  rw [e] at hz
  rcases List.mem_append.mp hz with q | q
  · exact hx.2.2 z q
  · rw [List.mem_singleton.mp q]
    exact hy.2.2 c (List.mem_of_getElem? hc)
theorem nm_cut {x : Str} (hx : IsNm x) (hl : 1 < x.length) : IsNm (cutS x none (some (-1))) := by
  have e : (cutS x none (some (-1))).cps.toList = x.cps.toList.take (x.cps.size - 1) := by
    have h1 : HT.sIx x.length 0 none = 0 := rfl
    have h2 : HT.sIx x.length x.length (some (-1)) = x.cps.size - 1 := by
      rw [str_len] at hl ⊢
      unfold HT.sIx
      simp
      omega
    unfold cutS
    rw [h1, h2]
    simp
  have el : (cutS x none (some (-1))).cps.size = x.cps.size - 1 := by
    rw [← Array.length_toList, e, List.length_take, Array.length_toList]
    omega
  rw [str_len] at hl
  refine ⟨by rw [el]; omega, by rw [el]; have := hx.2.1; omega, fun z hz => ?_⟩
  rw [e] at hz
  exact hx.2.2 z (List.mem_of_mem_take hz)
theorem nm_first {x : Str} (hx : IsNm x) : ∃ c, x.cps.toList[0]? = some c := by
  have h := hx.1
  rw [← Array.length_toList] at h
  exact ⟨_, List.getElem?_eq_getElem (by omega)⟩
abbrev s_law_name : Stmt := top 47
abbrev N_law_name : List Str := ["bag", "taken", "word", "near", "elder", "one"]
theorem sc_law_name : FnScope N_law_name ["bag", "taken"] (defScope s_law_name) := ⟨rfl, rfl, rfl, by decide +kernel, rfl, by decide +kernel, by decide +kernel⟩
section
variable {P : Program} {w : World} {K : PySem.W.Frag} {mg : Str → Option Value} {base : Heap}
theorem ok_name (T : Bl mg) (c_law_draw : DefOk P w K mg base CX0 1 "_law_draw" spDraw) (c_law_word : DefOk P w K mg base CX0 2 "_law_word" spWord) (D : Def0 K mg "_law_name" s_law_name) : DefOk P w K mg base CX0 3 "_law_name" (spName K) := by
  refine D.ok sc_law_name (fun vs H Q E h => ?_) (fun _ _ _ _ _ _ us hl => match us, hl with | [_, _], _ => rfl) (fun f cdv A outer s H vs Q E hr h => ?_)
  · obtain ⟨a, t, ns, rfl, _⟩ := h
    rfl
  · obtain ⟨a, t, ns, rfl, hb, hta, ht, hn, hl, k⟩ := h
    refine ⟨_, (pss_cons (ps_set (i := 2) sc_law_name.nd rfl (Or.inl rfl) (pe_d c_law_word (hr.mono (by decide)) pass0 (pa_cons (pv 0) pa_nil)))
      (pss_cons (ps_set (i := 3) sc_law_name.nd rfl (Or.inl rfl) (pe_d c_law_draw (hr.mono (by decide)) pass0 (pa_cons (pv 0) (pa_cons pe_int pa_nil))))
      (pss_cut (ps_if (PW.pt (pw_and (pt_truth (pv 1) (by intro _; rfl)) (pw_and1 (pt_cmpR op_lt (pv 3) pe_int (nomark _)))))
        (pss_cons (ps_set (i := 4) sc_law_name.nd rfl (Or.inl rfl) (pe_ix ix_list (pv 1) (pe_d c_law_draw (hr.mono (by decide)) pass0 (pa_cons (pv 0) (pa_cons (pe_callB call_len_seq (by rfl) T.b_len boot_len (pa_cons (pv 1) pa_nil)) pa_nil))) (fun _ _ => rfl)))
        (pss_one (ps_if (PW.pt (pw_and (pt_cmpR op_eq (pv 3) pe_int (nomark _)) (pw_and1 (pt_cmpR op_lt (pe_callB call_len_str (by rfl) T.b_len boot_len (pa_cons (pv 4) pa_nil)) pe_int (nomark _)))))
          (pss_one (ps_set (i := 2) sc_law_name.nd rfl (Or.inl rfl) (pe_op op_add_str (pv 4) (pe_ix ix_str (pv 2) pe_int (fun _ _ => rfl)))))
          (pss_one (ps_if (pt_cmpR op_gt (pe_callB call_len_str (by rfl) T.b_len boot_len (pa_cons (pv 4) pa_nil)) pe_int (nomark _))
            (pss_one (ps_set (i := 2) sc_law_name.nd rfl (Or.inl rfl) (pe_slice sl_str (pv 4) po_none (po_some (pe_un un_neg pe_int)))))
            pss_nil)))))
        pss_nil)
      (pss_cut (ps_if (pt_cmpR op_in_seq (pv 2) (pv 1) (by rfl))
        (pss_one (ps_set (i := 2) sc_law_name.nd rfl (Or.inl rfl) (pe_ix ix_list (pe_lc (own := [("one", 5)]) (g := (gName 5)) rfl sc_law_name.nd (pi_str pe_str) (blkOk_by (N := N_law_name) (sc := defScope s_law_name) (by decide +kernel)) (fun _ _ _ _ _ => (pg_name (i := 5) sc_law_name.nd rfl (Or.inl rfl))) (fun _ _ _ _ _ => (pts_one (pt_cmpR (show OpR _ _ (rIn K true) from op_notIn_seq) (pv 5) (pv 1) (by rfl)))) (fun _ _ _ _ _ => (pv 5))) pe_int (fun _ _ => rfl))))
        pss_nil)
      (pss_one (ps_ret (pv 2))))))), ?_⟩
    refine ⟨_, rfl, a, rfl, hb, fun H1 w1 k1 b1 n1 => ?_⟩
    refine ⟨_, rfl, a, 4, rfl, b1, by decide, by decide, fun H2 d k2 b2 d0 d4 => ?_⟩
    have k02 := k1.trans k2
    refine ⟨fun σ H' => ∃ (z : Str) (e : Option V), σ = [some (.ref a), some (.ref t), some (.str z), some (.int d), e, none] ∧ Kp a H H' ∧ BagAt H' a ∧ IsNm z, ?_, ?_⟩
    · have out0 : ∀ (e : Option V) H', Kp a H H' → BagAt H' a → ∃ (z : Str) (e2 : Option V), [some (V.ref a), some (V.ref t), some (V.str w1), some (V.int d), e, none] = [some (.ref a), some (.ref t), some (.str z), some (.int d), e2, none] ∧ Kp a H H' ∧ BagAt H' a ∧ IsNm z :=
        fun e H' q b => ⟨w1, e, rfl, q, b, n1⟩
      have ht2 := k02 _ _ ht hta
      refine ⟨_, rfl, _, .inl ⟨_, SqL.of ht2, rfl⟩, ?_⟩
      refine ite2 (fun he => ?_) (fun he => out0 _ _ k02 b2)
      refine ⟨_, rfl, _, _, rfl, rfl, _, rfl, ?_⟩
      refine ite2 (fun h2 => ?_) (fun h2 => out0 _ _ k02 b2)
      have hpos : 0 < ns.length := by
        cases ns with
        | nil => cases he
        | cons _ _ => exact Nat.succ_pos _
      refine ⟨_, rfl, _, rfl, _, rfl, t, _, rfl, .inl (SqL.of ht2), a, (ns.length : Int), by rw [List.length_map], b2, by omega, by omega, fun H3 j k3 b3 j0 j1 => ?_⟩
      have ht3 := k3 _ _ ht2 hta
      have hj : j.toNat < ns.length := by omega
      refine ⟨t, _, _, _, rfl, rfl, SqL.of ht3, at_ofG (j := j.toNat) (by omega) (by rw [List.getElem?_map, List.getElem?_eq_getElem hj]; rfl), ?_⟩
      have ne := hn _ (List.getElem_mem hj)
      have k03 := k02.trans k3
      refine ⟨_, rfl, rfl, _, rfl, ?_⟩
      have other : ∀ (e : Option V), e = some (.str ns[j.toNat]) → _ := fun e he => out0 e H3 k03 b3
      refine ite2 (fun h3 => ?_) (fun h3 => ?_)
      · refine ⟨_, rfl, _, rfl, nm_line ne, _, _, rfl, rfl, _, rfl, ?_⟩
        refine ite2 (fun h4 => ?_) (fun h4 => ?_)
        · obtain ⟨c, hc⟩ := nm_first n1
          have h5 : ns[j.toNat].length < 8 := by
            have q := of_decide_eq_true h4
            omega
          refine ⟨_, rfl, _, rfl, _, _, c, rfl, rfl, nm_line n1, atI_nat (j := 0) hc, _, _, rfl, rfl, ?_, ?_⟩
          · exact le_line (by show ns[j.toNat].length + 1 ≤ _; omega)
          · exact ⟨_, _, rfl, k03, b3, nm_app ne n1 h5 hc⟩
        · refine ⟨_, rfl, _, rfl, nm_line ne, _, _, rfl, rfl, _, rfl, ?_⟩
          refine ite2 (fun h5 => ?_) (fun h5 => out0 _ _ k03 b3)
          refine ⟨_, rfl, _, rfl, _, rfl, _, rfl, nm_line ne, ?_⟩
          exact ⟨_, _, rfl, k03, b3, nm_cut ne (by have q := of_decide_eq_true h5; omega)⟩
      · refine ⟨_, rfl, _, rfl, nm_line ne, _, _, rfl, rfl, _, rfl, ?_⟩
        refine ite2 (fun h5 => ?_) (fun h5 => out0 _ _ k03 b3)
        refine ⟨_, rfl, _, rfl, _, rfl, _, rfl, nm_line ne, ?_⟩
        exact ⟨_, _, rfl, k03, b3, nm_cut ne (by have q := of_decide_eq_true h5; omega)⟩
    · rintro σ H3 ⟨z, e, rfl, k3, b3, nz⟩
      have ht3 := k3 _ _ ht hta
      refine ⟨fun σ H' => ∃ (z : Str) (e : Option V), σ = [some (.ref a), some (.ref t), some (.str z), some (.int d), e, none] ∧ Kp a H H' ∧ BagAt H' a ∧ IsNm z ∧ z ∉ ns, ?_, ?_⟩
      · refine ⟨_, rfl, _, rfl, t, _, rfl, .inl (SqL.of ht3), rfl, flat_strs ns, _, rfl, ?_⟩
        refine ite2 (fun h1 => ?_) (fun h1 => ?_)
        · refine ⟨_, rfl, fun D hD => ?_⟩
          have nDa : D ≠ a := Kp.bag_ne b3 hD
          have nDt : t ≠ D := ne_of_none ht3 hD
          refine lc_it (walk_str (z := "abcdefghijklmnopqrstuvwxyz")) (fun i H' => Kp a H H' ∧ BagAt H' a ∧ H' D = some (.lst (((lets.take i).filter fun y => decide (y ∉ ns)).map V.str)))
            ⟨k3.upd_new hD, b3.upd_ne nDa, upd_same⟩ (fun _ _ _ _ => trivial) ?_ ?_
          · rintro i x H1 H2 hi ⟨q1, q2, q3⟩ ⟨rfl, c, hc, rfl⟩
            have hi26 : i < 26 := by rw [← letters_len]; exact hi
            have ec : c = 97 + i := by
              rw [lets_get hi26] at hc
              exact (Option.some.inj hc).symm
            subst ec
            have hg : lets[i]? = some (sg (97 + i)) := by
              unfold lets
              rw [List.getElem?_map, List.getElem?_range hi26]
              rfl
            refine ⟨rfl, _, rfl, _, rfl, t, _, rfl, .inl (SqL.of (q1 _ _ ht hta)), rfl, flat_strs ns, _, rfl, ?_⟩
            have ez : (!inV (V.str (sg (97 + i))) (ns.map V.str)) = decide (sg (97 + i) ∉ ns) := by
              rw [inV_str]
              simp
            have et : (lets.take (i + 1)).filter (fun y => decide (y ∉ ns)) = (lets.take i).filter (fun y => decide (y ∉ ns)) ++ (if decide (sg (97 + i) ∉ ns) = true then [sg (97 + i)] else []) := by
              rw [← take_snoc hg, List.filter_append, List.filter_cons, List.filter_nil]
            show if (!inV (V.str (sg (97 + i))) (ns.map V.str)) = true then _ else _
            rw [ez]
            refine ite2 (fun h2 => ?_) (fun h2 => ?_)
            · refine ⟨_, rfl, _, q3, ?_, q1.upd_own (k3.free_of hD nDa), q2.upd_ne nDa, ?_⟩
              · rw [List.length_map]
                refine lt_line (Nat.le_trans (List.length_filter_le _ _) ?_)
                rw [List.length_take]
                omega
              · rw [upd_same, et, if_pos h2, List.map_append]
                rfl
            · refine ⟨q1, q2, ?_⟩
              rw [et, if_neg h2, List.append_nil]
              exact q3
          · rintro H4 ⟨q1, q2, q3⟩
            have hz : ("abcdefghijklmnopqrstuvwxyz" : Str).cps.size = 26 := letters_len
            rw [hz, show lets.take 26 = lets from List.take_of_length_le (by decide)] at q3
            cases hf : lets.filter (fun y => decide (y ∉ ns)) with
            | nil =>
              have hall : ∀ y ∈ lets, y ∈ ns := fun y hy => by
                refine Classical.byContradiction fun c => ?_
                have : y ∈ lets.filter (fun y => decide (y ∉ ns)) := List.mem_filter.mpr ⟨hy, decide_eq_true c⟩
                rw [hf] at this
                cases this
              have := sub_len lets ns lets_nd hall
              have e26 : lets.length = 26 := by decide
              omega
            | cons y r =>
              rw [hf] at q3
              have hy : y ∈ lets.filter (fun y => decide (y ∉ ns)) := by rw [hf]; exact List.mem_cons_self
              obtain ⟨y1, y2⟩ := List.mem_filter.mp hy
              refine ⟨D, _, _, _, rfl, rfl, SqL.of q3, atI_nat (j := 0) rfl, y, e, rfl, q1, q2, ?_, of_decide_eq_true y2⟩
              unfold lets at y1
              obtain ⟨dd, hd1, rfl⟩ := List.mem_map.mp y1
              have := List.mem_range.mp hd1
              exact nm_sg ⟨by omega, by omega⟩
        · refine ⟨z, e, rfl, k3, b3, nz, ?_⟩
          have h2 : inV (V.str z) (ns.map V.str) ≠ true := h1
          rw [inV_str] at h2
          exact fun q => h2 (decide_eq_true q)
      · rintro σ H5 ⟨z, e, rfl, k5, b5, nz, hz⟩
        exact ⟨_, rfl, k _ _ k5 b5 nz hz⟩
end
end Sh
end
section
set_option Elab.async false
set_option linter.all false
set_option maxRecDepth 100000
set_option maxHeartbeats 2000000
set_option autoImplicit false
namespace Sh
open PySem PySem.Spec PyProof.Rows L2
open C8 (pss_cut tCut)
open Evl (ixN_nat)
abbrev Row := Str × Int
/-- tuples stay -/
def TK (H H' : Hp) : Prop := ∀ t xs, H t = some (.tup xs) → H' t = some (.tup xs)
theorem TK.refl (H : Hp) : TK H H := fun _ _ h => h
theorem TK.trans {H H1 H2 : Hp} (x : TK H H1) (y : TK H1 H2) : TK H H2 := fun t xs h => y t xs (x t xs h)
theorem TK.new {H : Hp} {p : Addr} {o : HO} (h : H p = none) : TK H (upd H p o) := fun t xs q => by
  rw [upd_ne (ne_of_none q h)]
  exact q
theorem TK.lst {H : Hp} {p : Addr} {ys : List V} {o : HO} (h : H p = some (.lst ys)) : TK H (upd H p o) := fun t xs q => by
  rw [upd_ne (ne_of q h (fun e => nomatch e))]
  exact q
theorem TK.of_same {H H' : Hp} (s : Same H H') : TK H H' := fun t xs q => s t _ q
theorem Kp.tk {a : Addr} {H H' : Hp} (x : Kp a H H') (b : BagAt H a) : TK H H' := fun t xs q => by
  obtain ⟨z0, z1, z2, z3, cs, hb, _⟩ := b
  exact x t _ q (ne_of q hb (fun e => nomatch e))
def TupsAt (H : Hp) (ts : List Addr) (rows : List Row) : Prop := ts.length = rows.length ∧ ∀ (i : Nat) (t : Addr) (q : Row), ts[i]? = some t → rows[i]? = some q → H t = some (.tup [.str q.1, .int q.2])
theorem TupsAt.keep {H H' : Hp} {ts : List Addr} {rows : List Row} (x : TupsAt H ts rows) (k : TK H H') : TupsAt H' ts rows := ⟨x.1, fun i t q a b => k _ _ (x.2 i t q a b)⟩
theorem TupsAt.snoc {H : Hp} {ts : List Addr} {rows : List Row} {t : Addr} {q : Row} (x : TupsAt H ts rows) (h : H t = some (.tup [.str q.1, .int q.2])) : TupsAt H (ts ++ [t]) (rows ++ [q]) := by
  refine ⟨by simp [x.1], fun i t' q' a b => ?_⟩
  by_cases hi : i < ts.length
  · rw [List.getElem?_append_left hi] at a
    rw [List.getElem?_append_left (by rw [← x.1]; exact hi)] at b
    exact x.2 i t' q' a b
  · have hl := lt_of_get a
    rw [List.length_append, List.length_singleton] at hl
    have e : i = ts.length := by omega
    subst e
    rw [List.getElem?_append_right (Nat.le_refl _), Nat.sub_self] at a
    rw [x.1, List.getElem?_append_right (Nat.le_refl _), Nat.sub_self] at b
    cases a
    cases b
    exact h
def RowsAt (H : Hp) (r : Addr) (rows : List Row) : Prop := ∃ ts, H r = some (.lst (ts.map V.ref)) ∧ TupsAt H ts rows
structure ROk (most : Int) (rows : List Row) : Prop where
  pos : 1 ≤ rows.length
  len : (rows.length : Int) ≤ most
  nd : (rows.map (·.1)).Nodup
  nm : ∀ q ∈ rows, IsNm q.1
  wd : ∀ q ∈ rows, 0 ≤ q.2 ∧ q.2 ≤ 3
  leaf : ∃ q ∈ rows, q.2 = 0
def spRows : Sp := fun vs H Q _ => ∃ (a : Addr) (m : Int), vs = [.ref a, .int m] ∧ BagAt H a ∧ 1 ≤ m ∧ m ≤ 8 ∧ ∀ H' r rows, Kp a H H' → BagAt H' a → H r = none → RowsAt H' r rows → ROk m rows → Q (.ref r) H'
theorem mem_map_ints {ws : List Int} {n : Int} : inV (.int n) (ws.map V.int) = decide (n ∈ ws) := by
  induction ws with
  | nil => rfl
  | cons z r ih =>
    have e : inV (.int n) ((z :: r).map V.int) = ((z == n) || inV (.int n) (r.map V.int)) := rfl
    rw [e, ih, Bool.eq_iff_iff, Bool.or_eq_true, beq_iff_eq, decide_eq_true_iff, decide_eq_true_iff, List.mem_cons]
    exact or_congr_left eq_comm
theorem zip_snoc {ns : List Str} {ws : List Int} {i : Nat} {n : Str} {z : Int} (h1 : ns[i]? = some n) (h2 : ws[i]? = some z) : (ns.zip ws).take i ++ [(n, z)] = (ns.zip ws).take (i + 1) :=
  take_snoc (List.getElem?_zip_eq_some.mpr ⟨h1, h2⟩)
abbrev s_law_rows : Stmt := top 48
abbrev N_law_rows : List Str := ["bag", "most", "names", "numbers", "k", "place"]
theorem sc_law_rows : FnScope N_law_rows ["bag", "most"] (defScope s_law_rows) := ⟨rfl, rfl, rfl, by decide +kernel, rfl, by decide +kernel, by decide +kernel⟩
section
variable {P : Program} {w : World} {K : PySem.W.Frag} {mg : Str → Option Value} {base : Heap}
theorem ok_rows (T : Bl mg) (c_law_draw : DefOk P w K mg base CX0 1 "_law_draw" spDraw) (c_law_name : DefOk P w K mg base CX0 3 "_law_name" (spName K)) (D : Def0 K mg "_law_rows" s_law_rows) : DefOk P w K mg base CX0 4 "_law_rows" spRows := by
  refine D.ok sc_law_rows (fun vs H Q E h => ?_) (fun _ _ _ _ _ _ us hl => match us, hl with | [_, _], _ => rfl) (fun f cdv A outer s H vs Q E hr h => ?_)
  · obtain ⟨a, m, rfl, _⟩ := h
    rfl
  · obtain ⟨a, m, rfl, hb, m1, m8, k⟩ := h
    refine ⟨_, (pss_cons (ps_set (i := 2) sc_law_rows.nd rfl (Or.inr rfl) (pe_lst pa_nil))
      (pss_cons (ps_set (i := 3) sc_law_rows.nd rfl (Or.inr rfl) (pe_lst pa_nil))
      (pss_cons (ps_for PassesOwn.never rfl (pi_range1 (by rfl) T.b_range (pa_cons (pe_op op_add pe_int (pe_d c_law_draw (hr.mono (by decide)) pass0 (pa_cons (pv 0) (pa_cons (pv 1) pa_nil)))) pa_nil)) (pg_name (i := 4) sc_law_rows.nd rfl (Or.inl rfl))
        (pss_cons (ps_expr (pe_bm PySem.F.plainAttrs_list PySem.F.slot_list_append PySem.F.type_list_append mt_append (pv 2) (pa_cons (pe_d c_law_name (hr.mono (by decide)) pass0 (pa_cons (pv 0) (pa_cons (pv 2) pa_nil))) pa_nil)))
        (pss_one (ps_expr (pe_bm PySem.F.plainAttrs_list PySem.F.slot_list_append PySem.F.type_list_append mt_append (pv 3) (pa_cons (pe_ix ix_list (pe_lst (pa_cons pe_int (pa_cons pe_int (pa_cons pe_int (pa_cons pe_int (pa_cons pe_int (pa_cons pe_int (pa_cons pe_int pa_nil)))))))) (pe_d c_law_draw (hr.mono (by decide)) pass0 (pa_cons (pv 0) (pa_cons pe_int pa_nil))) (fun _ _ => rfl)) pa_nil))))))
      (pss_cut (ps_if (pt_cmpR op_notIn_seq pe_int (pv 3) (by rfl))
        (pss_cons (ps_set (i := 5) sc_law_rows.nd rfl (Or.inl rfl) (pe_d c_law_draw (hr.mono (by decide)) pass0 (pa_cons (pv 0) (pa_cons (pe_callB call_len_seq (by rfl) T.b_len boot_len (pa_cons (pv 3) pa_nil)) pa_nil))))
        (pss_one (ps_asg pe_int (pg_sub (pv 3) (pv 5) set_list))))
        pss_nil)
      (pss_one (ps_ret (pe_lc (own := [("k", 4)]) (g := (gName 4)) (tt := tYes) rfl sc_law_rows.nd (pi_range1 (by rfl) T.b_range (pa_cons (pe_callB call_len_seq (by rfl) T.b_len boot_len (pa_cons (pv 2) pa_nil)) pa_nil)) (blkOk_by (N := N_law_rows) (sc := defScope s_law_rows) (by decide +kernel)) (fun _ _ _ _ _ => (pg_name (i := 4) sc_law_rows.nd rfl (Or.inl rfl))) (fun _ _ _ _ _ => pts_nil) (fun _ _ _ _ _ => (pe_tup (pa_cons (pe_ix (show IxR _ (rIxL K) from ix_list) (pv 2) (pv 4) (fun _ _ => rfl)) (pa_cons (pe_ix (show IxR _ (rIxL K) from ix_list) (pv 3) (pv 4) (fun _ _ => rfl)) pa_nil))))))))))), ?_⟩
    refine ⟨Nat.zero_le _, fun l1 h1 => ⟨Nat.zero_le _, fun l2 h2 => ?_⟩⟩
    have n1a : l1 ≠ a := Kp.bag_ne hb h1
    have b0 : BagAt (upd H l1 (.lst [])) a := hb.upd_ne n1a
    have n2a : l2 ≠ a := Kp.bag_ne b0 h2
    have n21 : l2 ≠ l1 := fun e => by rw [e, upd_same] at h2; cases h2
    have h20 : H l2 = none := by rw [upd_ne n21] at h2; exact h2
    have k0 : Kp a H (upd (upd H l1 (.lst [])) l2 (.lst [])) := ((Kp.refl a H).upd_own h1).upd_own h20
    refine ⟨_, rfl, _, rfl, a, m, rfl, b0.upd_ne n2a, m1, by omega, fun H1 d k1 b1 d0 d1 => ?_⟩
    refine ⟨_, _, rfl, rfl, _, rfl, by omega, by omega, for_range (n := (1 + d).toNat) (fun i σ H' => ∃ (x : Option V) (ns : List Str) (ws : List Int), σ = [some (.ref a), some (.int m), some (.ref l1), some (.ref l2), x, none] ∧ Kp a H H' ∧ BagAt H' a ∧ H' l1 = some (.lst (ns.map V.str)) ∧ H' l2 = some (.lst (ws.map V.int)) ∧
        ns.length = i ∧ ws.length = i ∧ ns.Nodup ∧ (∀ n ∈ ns, IsNm n) ∧ ∀ z ∈ ws, 0 ≤ z ∧ z ≤ 3) ?_ ?_ ?_⟩
    · exact ⟨none, [], [], rfl, k0.trans k1, b1, k1 _ _ (by rw [upd_ne n21.symm, upd_same]; rfl) n1a, k1 _ _ upd_same n2a, rfl, rfl, List.nodup_nil, (fun n hn => nomatch hn), fun z hz => nomatch hz⟩
    · rintro i σ H2 hi ⟨x, ns, ws, rfl, k2, b2, q1, q2, e1, e2, nd, hn, hw⟩
      refine ⟨_, rfl, .inl ⟨rfl, _, SqL.of q1⟩, _, rfl, _, rfl, a, l1, ns, rfl, b2, n1a, q1, hn, by omega, fun H3 z k3 b3 nz zn => ?_⟩
      have q13 := k3 _ _ q1 n1a
      have q23 := k3 _ _ q2 n2a
      refine ⟨l1, _, _, rfl, rfl, q13, lt_line (by rw [List.length_map]; omega), ?_⟩
      have b4 : BagAt (upd H3 l1 (.lst (ns.map V.str ++ [V.str z]))) a := b3.upd_ne n1a
      have q24 : (upd H3 l1 (.lst (ns.map V.str ++ [V.str z]))) l2 = some (.lst (ws.map V.int)) := by rw [upd_ne n21]; exact q23
      have k4 : Kp a H (upd H3 l1 (.lst (ns.map V.str ++ [V.str z]))) := (k2.trans k3).upd_own h1
      refine ⟨_, rfl, .inl ⟨rfl, _, SqL.of q24⟩, by show 7 ≤ sizeLine; exact le_line (by decide), fun l5 h5 => ?_⟩
      have n5a : l5 ≠ a := Kp.bag_ne b4 h5
      refine ⟨_, rfl, a, 7, rfl, b4.upd_ne n5a, by decide, by decide, fun H6 e k6 b6 e0 e7 => ?_⟩
      have q56 := k6 _ _ (upd_same (H := upd H3 l1 (.lst (ns.map V.str ++ [V.str z]))) (a := l5)) n5a
      obtain ⟨y, hy, y0, y3⟩ : ∃ y, ([0, 1, 2, 0, 2, 1, 3] : List Int)[e.toNat]? = some y ∧ 0 ≤ y ∧ y ≤ 3 := by
        have hh : ∀ j, j < 7 → ∃ y, ([0, 1, 2, 0, 2, 1, 3] : List Int)[j]? = some y ∧ 0 ≤ y ∧ y ≤ 3 := by
          intro j hj
          match j, hj with
          | 0, _ => exact ⟨0, rfl, by decide, by decide⟩
          | 1, _ => exact ⟨1, rfl, by decide, by decide⟩
          | 2, _ => exact ⟨2, rfl, by decide, by decide⟩
          | 3, _ => exact ⟨0, rfl, by decide, by decide⟩
          | 4, _ => exact ⟨2, rfl, by decide, by decide⟩
          | 5, _ => exact ⟨1, rfl, by decide, by decide⟩
          | 6, _ => exact ⟨3, rfl, by decide, by decide⟩
          | n + 7, h => exact absurd h (by omega)
        exact hh e.toNat (by omega)
      have hyv : ([V.int 0, V.int 1, V.int 2, V.int 0, V.int 2, V.int 1, V.int 3] : List V)[e.toNat]? = some (.int y) := by
        have q : (([0, 1, 2, 0, 2, 1, 3] : List Int).map V.int)[e.toNat]? = some (V.int y) := by rw [List.getElem?_map, hy]; rfl
        exact q
      refine ⟨l5, _, _, _, rfl, rfl, SqL.of q56, at_ofG (j := e.toNat) (by omega) hyv, ?_⟩
      have q26 := k6 _ _ (show (upd (upd H3 l1 (.lst (ns.map V.str ++ [V.str z]))) l5 _) l2 = some (.lst (ws.map V.int)) by rw [upd_ne (ne_of_none q24 h5)]; exact q24) n2a
      have q14 : (upd H3 l1 (.lst (ns.map V.str ++ [V.str z]))) l1 = some (.lst (ns.map V.str ++ [V.str z])) := upd_same
      have q16 := k6 _ _ (show (upd (upd H3 l1 (.lst (ns.map V.str ++ [V.str z]))) l5 _) l1 = some (.lst (ns.map V.str ++ [V.str z])) by rw [upd_ne (ne_of_none q14 h5)]; exact q14) n1a
      refine ⟨l2, _, _, rfl, rfl, q26, lt_line (by rw [List.length_map]; omega), ?_⟩
      refine ⟨_, ns ++ [z], ws ++ [y], rfl, ((k4.upd_new h5).trans k6).upd_own h20, b6.upd_ne n2a, ?_, ?_, ?_, ?_, ?_, ?_, ?_⟩
      · rw [upd_ne n21.symm, q16, List.map_append]
        rfl
      · rw [upd_same, List.map_append]
        rfl
      · rw [List.length_append, e1]; rfl
      · rw [List.length_append, e2]; rfl
      · rw [List.nodup_append]
        exact ⟨nd, (List.nodup_cons.mpr ⟨List.not_mem_nil, List.nodup_nil⟩), fun u hu v hv e => zn (by rw [List.mem_singleton.mp hv] at e; rw [← e]; exact hu)⟩
      · intro n hn2
        rcases List.mem_append.mp hn2 with q | q
        · exact hn n q
        · rw [List.mem_singleton.mp q]; exact nz
      · intro n hn2
        rcases List.mem_append.mp hn2 with q | q
        · exact hw n q
        · rw [List.mem_singleton.mp q]; exact ⟨y0, y3⟩
    · rintro σ H2 ⟨x, ns, ws, rfl, k2, b2, q1, q2, e1, e2, nd, hn, hw⟩
      refine ⟨fun σ H' => ∃ (x y : Option V) (ws : List Int), σ = [some (.ref a), some (.int m), some (.ref l1), some (.ref l2), x, y] ∧ Kp a H H' ∧ BagAt H' a ∧ H' l1 = some (.lst (ns.map V.str)) ∧ H' l2 = some (.lst (ws.map V.int)) ∧ ws.length = ns.length ∧ (∀ z ∈ ws, 0 ≤ z ∧ z ≤ 3) ∧ 0 ∈ ws, ?_, ?_⟩
      · refine ⟨_, rfl, l2, _, rfl, .inl (SqL.of q2), rfl, flat_ints ws, _, rfl, ?_⟩
        show if (!inV (V.int 0) (ws.map V.int)) = true then _ else _
        rw [mem_map_ints]
        refine ite2 (fun h0 => ?_) (fun h0 => ?_)
        · refine ⟨_, rfl, _, rfl, l2, _, rfl, .inl (SqL.of q2), a, (ws.length : Int), by rw [List.length_map], b2, by omega, by omega, fun H3 j k3 b3 j0 j1 => ?_⟩
          have q23 := k3 _ _ q2 n2a
          refine ⟨_, rfl, _, rfl, l2, _, _, j.toNat, rfl, rfl, q23, ?_, ?_⟩
          · have z := ixN_nat (n := (ws.map V.int).length) (j := j.toNat) (by rw [List.length_map]; omega)
            rw [show ((j.toNat : Nat) : Int) = j by omega] at z
            exact z
          · refine ⟨_, _, ws.set j.toNat 0, rfl, (k2.trans k3).upd_own h20, b3.upd_ne n2a, ?_, ?_, by rw [List.length_set, e1, e2], fun z hz => ?_, ?_⟩
            · rw [upd_ne n21.symm]
              exact k3 _ _ q1 n1a
            · rw [upd_same, List.map_set]
            · rcases List.mem_or_eq_of_mem_set hz with q | q
              · exact hw z q
              · rw [q]; exact ⟨by decide, by decide⟩
            · exact List.mem_set (by omega) _
        · refine ⟨_, _, ws, rfl, k2, b2, q1, q2, by omega, hw, ?_⟩
          simpa using h0
      · rintro σ H3 ⟨x, y, ws, rfl, k3, b3, q1, q2, el, hw, h0⟩
        refine ⟨_, rfl, l1, _, rfl, .inl (SqL.of q1), _, rfl, by rw [List.length_map]; omega, by rw [List.length_map]; omega, fun D hD => lc_range (n := (((ns.map V.str).length : Nat) : Int).toNat)
          (fun i H' => Kp a H H' ∧ BagAt H' a ∧ H' l1 = some (.lst (ns.map V.str)) ∧ H' l2 = some (.lst (ws.map V.int)) ∧ ∃ ts : List Addr, H' D = some (.lst (ts.map V.ref)) ∧ TupsAt H' ts ((ns.zip ws).take i)) ?_ ?_ ?_⟩
        · have nDa : D ≠ a := Kp.bag_ne b3 hD
          refine ⟨k3.upd_new hD, b3.upd_ne nDa, by rw [upd_ne (ne_of_none q1 hD)]; exact q1, by rw [upd_ne (ne_of_none q2 hD)]; exact q2, [], upd_same, rfl, fun i t q hi => by simp at hi⟩
        · rintro i H4 hi ⟨k4, b4, p1, p2, ts, pD, pT⟩
          have hin : i < ns.length := by simpa using hi
          have hiw : i < ws.length := by omega
          have nDa : D ≠ a := Kp.bag_ne b3 hD
          refine ⟨rfl, _, rfl, _, rfl, l1, _, _, _, rfl, rfl, SqL.of p1, at_ofG (j := i) (by omega) (by rw [List.getElem?_map, List.getElem?_eq_getElem hin]; rfl), _, rfl, _, rfl, l2, _, _, _, rfl, rfl, SqL.of p2, at_ofG (j := i) (by omega) (by rw [List.getElem?_map, List.getElem?_eq_getElem hiw]; rfl), ?_⟩
          refine ⟨le_line (show 2 ≤ 100000 by decide), fun t ht => ?_⟩
          have nDt : D ≠ t := ne_of_none pD ht
          have hD3 : H D = none := k3.free_of hD nDa
          refine ⟨_, by rw [upd_ne nDt]; exact pD, ?_, (k4.upd_new ht).upd_own hD3, (b4.upd_ne (Kp.bag_ne b4 ht)).upd_ne nDa, ?_, ?_, ts ++ [t], ?_, ?_⟩
          · rw [List.length_map, pT.1]
            exact lt_line (by rw [List.length_take, List.length_zip]; omega)
          · rw [upd_ne (ne_of_none q1 hD), upd_ne (ne_of_none p1 ht)]; exact p1
          · rw [upd_ne (ne_of_none q2 hD), upd_ne (ne_of_none p2 ht)]; exact p2
          · rw [upd_same, List.map_append]; rfl
          · have e := zip_snoc (ns := ns) (ws := ws) (i := i) (n := ns[i]) (z := ws[i]) (List.getElem?_eq_getElem hin) (List.getElem?_eq_getElem hiw)
            rw [← e]
            have tk : TK H4 (upd (upd H4 t (.tup [.str ns[i], .int ws[i]])) D (.lst (ts.map V.ref ++ [V.ref t]))) :=
              (TK.new ht).trans (TK.lst (ys := ts.map V.ref) (by rw [upd_ne nDt]; exact pD))
            exact (pT.keep tk).snoc (by rw [upd_ne nDt.symm, upd_same])
        · rintro H4 ⟨k4, b4, p1, p2, ts, pD, pT⟩
          have nDa : D ≠ a := Kp.bag_ne b3 hD
          have elen : (((ns.map V.str).length : Nat) : Int).toNat = (ns.zip ws).length := by
            rw [List.length_zip, List.length_map]; omega
          rw [elen, List.take_length] at pT
          refine k _ _ (ns.zip ws) k4 b4 (k3.free_of hD nDa) ⟨ts, pD, pT⟩ ⟨?_, ?_, ?_, ?_, ?_, ?_⟩
          · rw [List.length_zip]; omega
          · rw [List.length_zip]; omega
          · rw [show (ns.zip ws).map (·.1) = ns from by rw [← List.unzip_fst, List.unzip_zip (by omega)]]
            exact nd
          · intro q hq
            exact hn _ (List.of_mem_zip (a := q.1) (b := q.2) hq).1
          · intro q hq
            exact hw _ (List.of_mem_zip (a := q.1) (b := q.2) hq).2
          · obtain ⟨j, hj, e⟩ := List.mem_iff_getElem.mp h0
            refine ⟨(ns[j]'(by omega), 0), ?_, rfl⟩
            refine List.mem_iff_getElem?.mpr ⟨j, List.getElem?_zip_eq_some.mpr ⟨List.getElem?_eq_getElem _, ?_⟩⟩
            rw [List.getElem?_eq_getElem hj, e]
end
end Sh
end
section
set_option Elab.async false
set_option linter.all false
set_option maxRecDepth 100000
set_option maxHeartbeats 2000000
set_option autoImplicit false
namespace Sh
open PySem PySem.Spec PyProof.Rows L2
open C8 (pss_cut tCut)
open Evl (ixN_nat)
theorem iteNN {c A B : Prop} [Decidable c] (hc : ¬ c) (h : A) : if (!decide c) = true then A else B := by
  rw [decide_eq_false hc]
  exact iteT h
def spTrueNm : Sp := fun vs H Q _ => ∃ z, vs = [.str z] ∧ IsNm z ∧ ∀ H', Same H H' → Q (.bl true) H'
theorem in_letters (c : Nat) (h : 97 ≤ c ∧ c ≤ 122) : c ∈ ("abcdefghijklmnopqrstuvwxyz" : Str).cps.toList := by
  have z := letters_at (c - 97) (by omega)
  rw [show 97 + (c - 97) = c by omega] at z
  exact List.mem_of_getElem? z
abbrev s_all_letters : Stmt := top 37
abbrev N_all_letters : List Str := ["text", "letter"]
theorem sc_all_letters : FnScope N_all_letters ["text"] (defScope s_all_letters) := ⟨rfl, rfl, rfl, by decide +kernel, rfl, by decide +kernel, by decide +kernel⟩
abbrev s_is_name : Stmt := top 38
abbrev N_is_name : List Str := ["text"]
theorem sc_is_name : FnScope N_is_name ["text"] (defScope s_is_name) := ⟨rfl, rfl, rfl, by decide +kernel, rfl, by decide +kernel, by decide +kernel⟩
abbrev s_check_pairs : Stmt := top 41
abbrev N_check_pairs : List Str := ["pairs", "seen", "place", "name", "many", "_"]
theorem sc_check_pairs : FnScope N_check_pairs ["pairs"] (defScope s_check_pairs) := ⟨rfl, rfl, rfl, by decide +kernel, rfl, by decide +kernel, by decide +kernel⟩
theorem walk_enumT {K : PySem.W.Frag} {a : Addr} {xs : List V} : Walk (IteT K a) xs.length (fun H => SqT K H a xs) (YPair (fun i => some (.int (i : Nat))) (fun i => xs[i]?)) := by
  refine ⟨fun i _ hi q => ⟨xs, xs[i], q, by simp [hi]⟩, fun _ q => ⟨xs, q, Nat.le_refl _⟩, fun i H v H' _ q y => ?_⟩
  obtain ⟨T, x, h1, h2, h3, h4⟩ := y
  exact ⟨T, .int (i : Nat), x, h1, h2, h3, rfl, h4 xs q⟩
theorem TupsAt.at {H : Hp} {ts : List Addr} {rows : List Row} (x : TupsAt H ts rows) {i : Nat} (h : i < rows.length) : ∃ t, ts[i]? = some t ∧ (ts.map V.ref)[i]? = some (.ref t) ∧ H t = some (.tup [.str (rows[i]).1, .int (rows[i]).2]) := by
  have h2 : i < ts.length := by rw [x.1]; exact h
  exact ⟨ts[i], List.getElem?_eq_getElem h2, by rw [List.getElem?_map, List.getElem?_eq_getElem h2]; rfl, x.2 i _ _ (List.getElem?_eq_getElem h2) (List.getElem?_eq_getElem h)⟩
theorem nd_take {α : Type} {l : List α} (nd : l.Nodup) {i : Nat} (h : i < l.length) : l[i] ∉ l.take i := fun q => by
  obtain ⟨j, hj, e⟩ := List.mem_iff_getElem.mp q
  rw [List.getElem_take] at e
  rw [List.length_take] at hj
  have := (List.getElem_inj nd).mp e
  omega
def spPairs : Sp := fun vs H Q _ => ∃ (p : Addr) (ts : List Addr) (rows : List Row), vs = [.ref p] ∧ H p = some (.tup (ts.map V.ref)) ∧ TupsAt H ts rows ∧ ROk 8 rows ∧ ∀ H', Same H H' → Q .non H'
section
variable {P : Program} {w : World} {K : PySem.W.Frag} {mg : Str → Option Value} {base : Heap}
theorem ok_all_letters (T : Bl mg) (D : Def0 K mg "all_letters" s_all_letters) : DefOk P w K mg base CX0 1 "all_letters" spTrueNm := by
  refine D.ok sc_all_letters (fun vs H Q E h => ?_) (fun _ _ _ _ _ _ us hl => match us, hl with | [_], _ => rfl) (fun f cdv A outer s H vs Q E hr h => ?_)
  · obtain ⟨z, rfl, _⟩ := h
    rfl
  · obtain ⟨z, rfl, nz, k⟩ := h
    refine ⟨_, (pss_one (ps_ret (pe_and (pe_cmpR op_ne (pv 0) pe_str (nomark _)) (pe_one (pe_callB (cr_all rfl) (by rfl) T.b_all (by decide +kernel) (pa_cons (pe_lc (own := [("letter", 1)]) (g := (gName 1)) (tt := tYes) rfl sc_all_letters.nd (pi_str (pv 0)) (blkOk_by (N := N_all_letters) (sc := defScope s_all_letters) (by decide +kernel)) (fun _ _ _ _ _ => (pg_name (i := 1) sc_all_letters.nd rfl (Or.inl rfl))) (fun _ _ _ _ _ => pts_nil) (fun _ _ _ _ _ => (pe_cmpR op_in_sign (pv 1) (pe_cS (by rfl) T.c_LETTERS) (by rfl)))) pa_nil)))))), ?_⟩
    have hne : ¬ V.str z = V.str "" := fun e => by
      have e2 := V.str.inj e
      have := nz.1
      rw [e2] at this
      exact absurd this (by decide)
    refine ⟨_, rfl, rfl, _, rfl, iteNN hne ?_⟩
    refine ⟨_, rfl, _, rfl, fun D hD => lc_it walk_str (fun i H' => Same H H' ∧ H' D = some (.lst ((List.replicate i true).map V.bl))) ⟨(Same.refl H).upd_new hD, upd_same⟩ (fun _ _ _ _ => trivial) ?_ ?_⟩
    · rintro i x H1 H2 hi ⟨q1, q2⟩ ⟨rfl, c, hc, rfl⟩
      have hcm : c ∈ z.cps.toList := List.mem_of_getElem? (by rw [Array.getElem?_toList]; exact hc)
      refine ⟨rfl, _, rfl, c, _, rfl, rfl, ?_⟩
      rw [decide_eq_true (in_letters c (nz.2.2 c hcm))]
      refine ⟨_, q2, ?_, q1.upd_own hD, ?_⟩
      · rw [List.length_map, List.length_replicate]
        have := nz.2.1
        exact lt_line (by omega)
      · rw [upd_same, List.replicate_succ', List.map_append]
        rfl
    · rintro H1 ⟨q1, q2⟩
      refine ⟨D, _, rfl, SqL.of q2, ?_⟩
      rw [show (List.replicate z.cps.size true).all id = true from by rw [List.all_eq_true]; intro x hx; exact (List.mem_replicate.mp hx).2]
      exact k H1 q1
theorem ok_is_name (T : Bl mg) (c_all_letters : DefOk P w K mg base CX0 1 "all_letters" spTrueNm) (D : Def0 K mg "is_name" s_is_name) : DefOk P w K mg base CX0 2 "is_name" spTrueNm := by
  refine D.ok sc_is_name (fun vs H Q E h => ?_) (fun _ _ _ _ _ _ us hl => match us, hl with | [_], _ => rfl) (fun f cdv A outer s H vs Q E hr h => ?_)
  · obtain ⟨z, rfl, _⟩ := h
    rfl
  · obtain ⟨z, rfl, nz, k⟩ := h
    refine ⟨_, (pss_one (ps_ret (pe_and (pe_cmpR op_le (pe_callB call_len_str (by rfl) T.b_len boot_len (pa_cons (pv 0) pa_nil)) (pe_cI (by rfl) T.c_LONGEST_NAME) (nomark _)) (pe_one (pe_d c_all_letters (hr.mono (by decide)) pass0 (pa_cons (pv 0) pa_nil)))))), ?_⟩
    refine ⟨_, rfl, _, rfl, nm_line nz, _, _, rfl, rfl, _, rfl, ?_⟩
    rw [decide_eq_true (show ((z.length : Nat) : Int) ≤ 8 by have := nz.2.1; rw [str_len]; omega)]
    refine iteT ?_
    exact ⟨_, rfl, z, rfl, nz, k⟩
theorem ok_check_pairs (T : Bl mg) (c_is_name : DefOk P w K mg base CX0 2 "is_name" spTrueNm) (D : Def0 K mg "check_pairs" s_check_pairs) : DefOk P w K mg base CX0 3 "check_pairs" spPairs := by
  refine D.ok sc_check_pairs (fun vs H Q E h => ?_) (fun _ _ _ _ _ _ us hl => match us, hl with | [_], _ => rfl) (fun f cdv A outer s H vs Q E hr h => ?_)
  · obtain ⟨p, ts, rows, rfl, _⟩ := h
    rfl
  · obtain ⟨p, ts, rows, rfl, hp, hT, R, k⟩ := h
    refine ⟨_, (pss_cons (ps_if (pt_cmpR op_gt (pe_callB call_len_seq (by rfl) T.b_len boot_len (pa_cons (pv 0) pa_nil)) (pe_cI (by rfl) T.c_MOST_KINDS) (nomark _))
        (pss_one ps_never)
        pss_nil)
      (pss_cons (ps_set (i := 1) sc_check_pairs.nd rfl (Or.inl rfl) (pe_callTy0 cr_set0K (by rfl) T.b_set (by decide +kernel)))
      (pss_cons (ps_for PassesOwn.never rfl (pi_enumT (by rfl) T.b_enumerate (pa_cons (pv 0) pa_nil)) (pg_tup (by rfl) (pgs_cons (pg_name (i := 2) sc_check_pairs.nd rfl (Or.inl rfl)) (pgs_cons (pg_tup (by rfl) (pgs_cons (pg_name (i := 3) sc_check_pairs.nd rfl (Or.inl rfl)) (pgs_cons (pg_name (i := 4) sc_check_pairs.nd rfl (Or.inl rfl)) pgs_nil))) pgs_nil)))
        (pss_cons (ps_if (PW.pt (pw_or (pt_not (pt_val (pe_d c_is_name (hr.mono (by decide)) pass0 (pa_cons (pv 3) pa_nil)))) (pw_or (pt_cmpR op_lt (pv 4) pe_int (nomark _)) (pw_or (pt_cmpR op_gt (pv 4) (pe_cI (by rfl) T.c_MOST_BRANCHES) (nomark _)) (pw_or1 (pt_cmpR or_sinK (pv 3) (pv 1) (by rfl)))))))
          (pss_one ps_never)
          pss_nil)
        (pss_one (ps_expr (pe_saddK (pv 1) (pa_cons (pv 3) pa_nil))))))
      (pss_one (ps_if (pt_cmpR op_notIn_seq pe_int (pe_lc (own := [("_", 5), ("many", 4)]) (g := (gTup K 2 (gCons (gName 5) (gCons (gName 4) gNil)))) (tt := tYes) rfl sc_check_pairs.nd (pi_tup (pv 0)) (blkOk_by (N := N_check_pairs) (sc := defScope s_check_pairs) (by decide +kernel)) (fun _ _ _ _ _ => (pg_tup (by rfl) (pgs_cons (pg_name (i := 5) sc_check_pairs.nd rfl (Or.inl rfl)) (pgs_cons (pg_name (i := 4) sc_check_pairs.nd rfl (Or.inl rfl)) pgs_nil)))) (fun _ _ _ _ _ => pts_nil) (fun _ _ _ _ _ => (pv 4))) (by rfl))
        (pss_one ps_never)
        pss_nil))))), ?_⟩
    have hlen : ts.length = rows.length := hT.1
    have R8 : rows.length ≤ 8 := by have := R.len; omega
    refine ⟨_, rfl, p, _, rfl, .inr (SqT.of hp), _, _, rfl, rfl, _, rfl, ?_⟩
    rw [decide_eq_false (show ¬ (8 : Int) < (((ts.map V.ref).length : Nat) : Int) by rw [List.length_map]; omega)]
    refine iteF ?_
    refine ⟨rfl, fun d hd => ?_⟩
    have s0 : Same H (upd H d (SetK P w d (fun _ => false) 0)) := (Same.refl H).upd_new hd
    have npd : ∀ {H' : Hp}, Same H H' → H' p = some (.tup (ts.map V.ref)) := fun q => q _ _ hp
    refine ⟨_, rfl, p, _, rfl, SqT.of (npd s0), for_it (walk_enumT (xs := ts.map V.ref)) (fun i σ H' => ∃ (x y z : Option V), σ = [some (.ref p), some (.ref d), x, y, z, none] ∧ Same H H' ∧ ∃ (S : Key → Bool) (n : Nat), H' d = some (SetK P w d S n) ∧ n ≤ i ∧ ∀ u : Str, S (.inr u) = true → u ∈ (rows.map (·.1)).take i)
      ⟨none, none, none, rfl, s0, _, 0, upd_same, Nat.le_refl _, fun u h => nomatch h⟩ (fun i σ H' _ ⟨_, _, _, _, q, _⟩ => SqT.of (npd q)) ?_ ?_⟩
    · rintro i v σ H1 H2 hi ⟨x, y, z, rfl, s1, S, n, hS, hn, hu⟩ ⟨P1, v1, v2, rfl, hP1, rfl, e1, e2⟩
      have hir : i < rows.length := by rw [List.length_map, hlen] at hi; exact hi
      obtain ⟨t, t1, t2, t3⟩ := hT.at hir
      have t2' : (ts.map V.ref)[i]? = some v2 := e2
      rw [t2] at t2'
      cases t2'
      cases e1
      have s2 := s1.upd_new (o := .tup [.int ((i : Nat) : Int), .ref t]) hP1
      have nm := R.nm _ (List.getElem_mem hir)
      have wd := R.wd _ (List.getElem_mem hir)
      refine ⟨P1, _, rfl, SqT.of upd_same, rfl, _, _, rfl, _, _, rfl, ?_⟩
      refine ⟨t, _, rfl, SqT.of (s2 _ _ t3), rfl, _, _, rfl, _, _, rfl, rfl, rfl, ?_⟩
      refine ⟨_, rfl, (rows[i]).1, rfl, nm, fun H3 s3 => ⟨true, rfl, ?_⟩⟩
      show if false = true then _ else _
      refine iteF ⟨_, rfl, _, _, rfl, rfl, _, rfl, ?_⟩
      rw [decide_eq_false (show ¬ (rows[i]).2 < 0 by omega)]
      refine iteF ⟨_, rfl, _, _, rfl, rfl, _, rfl, ?_⟩
      rw [decide_eq_false (show ¬ (3 : Int) < (rows[i]).2 by omega)]
      have hS3 : H3 d = some (SetK P w d S n) := s3 _ _ (by rw [upd_ne (ne_of_none hS hP1)]; exact hS)
      have hSf : S (.inr (rows[i]).1) = false := by
        cases q : S (.inr (rows[i]).1) with
        | false => rfl
        | true =>
          have z1 := hu _ q
          have z2 := nd_take (l := rows.map (·.1)) R.nd (i := i) (by rw [List.length_map]; exact hir)
          rw [List.getElem_map] at z2
          exact absurd z1 z2
      refine iteF ⟨_, rfl, _, rfl, .inr (rows[i]).1, d, S, n, rfl, rfl, hS3, _, rfl, ?_⟩
      rw [show (if false = true then !S (.inr (rows[i]).1) else S (.inr (rows[i]).1)) = false from hSf]
      refine iteF ?_
      refine ⟨_, rfl, ⟨d, S, n, rfl, hS3⟩, _, rfl, d, .inr (rows[i]).1, S, n, rfl, rfl, hS3, ?_, ?_⟩
      · show n + 1 < 4096
        omega
      · refine ⟨_, _, _, rfl, ?_, _, _, upd_same, ?_, ?_⟩
        · exact (s2.trans s3).upd_own hd
        · show (if S (Sum.inr (rows[i]).1) = true then n else n + 1) ≤ i + 1
          split <;> omega
        · intro u hu2
          have hg : (rows.map (·.1))[i]? = some (rows[i]).1 := by rw [List.getElem?_map, List.getElem?_eq_getElem hir]; rfl
          rw [← take_snoc hg]
          rcases Bool.or_eq_true_iff.mp hu2 with q | q
          · exact List.mem_append_left _ (hu u q)
          · have := of_decide_eq_true q
            rw [Sum.inr.inj this]
            exact List.mem_append_right _ List.mem_cons_self
    · rintro σ H1 ⟨x, y, z, rfl, s1, S, n, hS, hn, hu⟩
      refine ⟨_, rfl, p, rfl, ⟨_, SqT.of (npd s1)⟩, fun D hD => lc_it (walk_tup (xs := ts.map V.ref)) (fun i H' => Same H1 H' ∧ H' D = some (.lst (((rows.map (·.2)).take i).map V.int))) ⟨(Same.refl H1).upd_new hD, upd_same⟩ (fun i H' _ ⟨q, _⟩ => SqT.of (npd (s1.trans q))) ?_ ?_⟩
      · rintro i v H2 H3 hi ⟨q1, q2⟩ ⟨rfl, hv⟩
        have hir : i < rows.length := by rw [List.length_map, hlen] at hi; exact hi
        obtain ⟨t, t1, t2, t3⟩ := hT.at hir
        rw [t2] at hv
        cases hv
        refine ⟨t, _, rfl, SqT.of ((s1.trans q1) _ _ t3), rfl, _, _, rfl, _, _, rfl, rfl, rfl, ?_⟩
        refine ⟨_, rfl, _, q2, ?_, q1.upd_own hD, ?_⟩
        · rw [List.length_map, List.length_take]
          exact lt_line (by omega)
        · have hg : (rows.map (·.2))[i]? = some (rows[i]).2 := by rw [List.getElem?_map, List.getElem?_eq_getElem hir]; rfl
          rw [upd_same, ← take_snoc hg, List.map_append]
          rfl
      · rintro H2 ⟨q1, q2⟩
        rw [show (ts.map V.ref).length = (rows.map (·.2)).length by rw [List.length_map, List.length_map, hlen], List.take_length] at q2
        refine ⟨D, _, rfl, .inl (SqL.of q2), rfl, flat_ints _, _, rfl, ?_⟩
        have h0 : (0 : Int) ∈ rows.map (·.2) := by
          obtain ⟨q, hq, e⟩ := R.leaf
          rw [← e]
          exact List.mem_map_of_mem hq
        show if (!inV (V.int 0) ((rows.map (·.2)).map V.int)) = true then _ else _
        rw [mem_map_ints, decide_eq_true h0]
        refine iteF ?_
        exact k H2 (s1.trans q1)
end
end Sh
end
section
set_option Elab.async false
set_option linter.all false
set_option maxRecDepth 100000
set_option maxHeartbeats 2000000
set_option autoImplicit false
namespace L2
open PySem PySem.Spec PyProof.Rows
theorem PE.weak {X : Cx} {e : Expr} {t t' : TE} (h : PE X e t) (i : ∀ σ H Q, t' σ H Q → t σ H Q) : PE X e t' := ⟨fun pins s σ H Q I q => h.run pins s σ H Q I (i σ H Q q)⟩
/-- a dict comprehension over any walk -/
theorem dc_it {J : It} {n : Nat} {G : Hp → Prop} {Y : Nat → Hp → V → Hp → Prop} (w : Walk J n G Y) {g : TG} {tt : TT} {tk tv : TE} {vs : List Nat} {σ : St} {H1 : Hp} {D : Addr} {Qd : Hp → Prop} (Pv : Nat → Hp → Prop) (h0 : Pv 0 (upd H1 D (.dK []))) (hG : ∀ i H, i ≤ n → Pv i H → G H)
    (hs : ∀ i x H H', i < n → Pv i H → Y i H x H' → g x (wipe σ vs) H' fun σ2 H2 => wipe σ2 vs = wipe σ vs ∧ tt σ2 H2 fun b H3 =>
      if b = true then tk σ2 H3 fun y H4 => tv σ2 H4 fun z H5 => ∃ kvs k, y = kV k ∧ H5 D = some (.dK kvs) ∧ kvs.length < sizeLine ∧ Pv (i + 1) (upd H5 D (.dK (putK kvs k z))) else Pv (i + 1) H3) (hd : ∀ H, Pv n H → Qd H) :
    ∃ W : Nat → Nat → Hp → Prop, (∃ m, W 0 m (upd H1 D (.dK []))) ∧ ∀ i m H, W i m H →
      (J.stop i H ∧ Qd H) ∨ (J.go i H ∧ ∃ Nx : Hp → Prop, (∀ H', Nx H' → ∃ m', m' < m ∧ W (i + 1) m' H') ∧ ∀ x H', J.yld i H x H' → g x (wipe σ vs) H' fun σ2 H2 => wipe σ2 vs = wipe σ vs ∧ tt σ2 H2 fun b H3 =>
        if b = true then tk σ2 H3 fun y H4 => tv σ2 H4 fun z H5 => ∃ kvs k, y = kV k ∧ H5 D = some (.dK kvs) ∧ kvs.length < sizeLine ∧ Nx (upd H5 D (.dK (putK kvs k z))) else Nx H3) := by
  refine ⟨fun i m H => m = n - i ∧ i ≤ n ∧ Pv i H, ⟨n, by simp, Nat.zero_le _, h0⟩, ?_⟩
  rintro i m H ⟨rfl, hi, p⟩
  have q := hG i H hi p
  by_cases hlt : i < n
  · exact .inr ⟨w.goes i H hlt q, Pv (i + 1), fun H' p' => ⟨n - (i + 1), by omega, rfl, hlt, p'⟩, fun x H' y => hs i x H H' hlt p (w.yields i H x H' hlt q y)⟩
  · have e : i = n := by omega
    subst e
    exact .inl ⟨w.stops H q, hd H p⟩
end L2
namespace Sh
open PySem PySem.Spec PyProof.Rows L2
open C8 (pss_cut tCut)
open Evl (ixN_nat)
def bedF (r k w rk : Addr) : List (Str × V) := [("rows", .ref r), ("kinds", .ref k), ("widths", .ref w), ("ranks", .ref rk)]
def wL (rows : List Row) : List (Key × V) := rows.map fun q => (.inr q.1, .int q.2)
def rkL (ns : List Str) : List (Key × V) := ns.zipIdx.map fun q => (.inr q.1, .int ((q.2 : Nat) : Int))
def BedAt (C : Addr) (H : Hp) (p : Addr) (rows : List Row) : Prop := ∃ (dx r k w rk : Addr) (ts : List Addr), H p = some (.ins C dx (bedF r k w rk)) ∧ H r = some (.tup (ts.map V.ref)) ∧ TupsAt H ts rows ∧
  H k = some (.tup ((rows.map (·.1)).map V.str)) ∧ H w = some (.dK (wL rows)) ∧ H rk = some (.dK (rkL (rows.map (·.1))))
theorem BedAt.same {C : Addr} {H H' : Hp} {p : Addr} {rows : List Row} (x : BedAt C H p rows) (s : Same H H') : BedAt C H' p rows := by
  obtain ⟨dx, r, k, w, rk, ts, h1, h2, h3, h4, h5, h6⟩ := x
  exact ⟨dx, r, k, w, rk, ts, s _ _ h1, s _ _ h2, h3.keep (TK.of_same s), s _ _ h4, s _ _ h5, s _ _ h6⟩
theorem BedAt.kp {C a : Addr} {H H' : Hp} {p : Addr} {rows : List Row} (x : BedAt C H p rows) (b : BagAt H a) (s : Kp a H H') : BedAt C H' p rows := by
  obtain ⟨dx, r, k, w, rk, ts, h1, h2, h3, h4, h5, h6⟩ := x
  have tk := s.tk b
  obtain ⟨z0, z1, z2, z3, cs, hb, _⟩ := b
  exact ⟨dx, r, k, w, rk, ts, s _ _ h1 (ne_of h1 hb (fun e => nomatch e)), tk _ _ h2, h3.keep tk, tk _ _ h4, s _ _ h5 (ne_of h5 hb (fun e => nomatch e)), s _ _ h6 (ne_of h6 hb (fun e => nomatch e))⟩
/-- what the written part says of the class Bed -/
structure BedT (K : PySem.W.Frag) (C : Addr) : Prop where
  cl : Cls K C
  nR : NoAttr K C "rows"
  nK : NoAttr K C "kinds"
  nW : NoAttr K C "widths"
  nRk : NoAttr K C "ranks"
theorem s_ne : ¬ ("rows" : Str) = "kinds" ∧ ¬ ("rows" : Str) = "widths" ∧ ¬ ("rows" : Str) = "ranks" ∧ ¬ ("kinds" : Str) = "widths" ∧ ¬ ("kinds" : Str) = "ranks" ∧ ¬ ("widths" : Str) = "ranks" := by decide +kernel
theorem put1 (r k : Addr) : putF "kinds" (.ref k) [("rows", .ref r)] = [(("rows" : Str), V.ref r), ("kinds", .ref k)] := by simp [putF, s_ne]
theorem put2 (r k w : Addr) : putF "widths" (.ref w) [("rows", .ref r), ("kinds", .ref k)] = [(("rows" : Str), V.ref r), ("kinds", .ref k), ("widths", .ref w)] := by simp [putF, s_ne]
theorem put3 (r k w rk : Addr) : putF "ranks" (.ref rk) [("rows", .ref r), ("kinds", .ref k), ("widths", .ref w)] = bedF r k w rk := by simp [putF, s_ne, bedF]
theorem lk_k2 (r k w : Addr) : ([("rows", .ref r), ("kinds", .ref k), ("widths", .ref w)] : List (Str × V)).lookup ("kinds" : Str) = some (.ref k) := by
  have h : (("kinds" : Str) == "rows") = false := by decide +kernel
  simp [List.lookup, h]
theorem lk_rows (r k w rk : Addr) : (bedF r k w rk).lookup ("rows" : Str) = some (.ref r) := by simp [bedF, List.lookup]
theorem lk_kinds (r k w rk : Addr) : (bedF r k w rk).lookup ("kinds" : Str) = some (.ref k) := by
  have h : (("kinds" : Str) == "rows") = false := by decide +kernel
  simp [bedF, List.lookup, h]
theorem lk_widths (r k w rk : Addr) : (bedF r k w rk).lookup ("widths" : Str) = some (.ref w) := by
  have h : (("widths" : Str) == "rows") = false := by decide +kernel
  have h2 : (("widths" : Str) == "kinds") = false := by decide +kernel
  simp [bedF, List.lookup, h, h2]
theorem lk_ranks (r k w rk : Addr) : (bedF r k w rk).lookup ("ranks" : Str) = some (.ref rk) := by
  have h : (("ranks" : Str) == "rows") = false := by decide +kernel
  have h2 : (("ranks" : Str) == "kinds") = false := by decide +kernel
  have h3 : (("ranks" : Str) == "widths") = false := by decide +kernel
  simp [bedF, List.lookup, h, h2, h3]
theorem valV_none {kvs : List (Key × V)} {s : Str} (h : ∀ kv ∈ kvs, kv.1 ≠ .inr s) : valV kvs (.inr s) = none := by
  unfold valV
  rw [List.find?_eq_none.mpr (fun kv hk => by simpa using h kv hk)]
  rfl
/-- __init__ at a new instance -/
def spBedI (C : Addr) : Sp := fun vs H Q _ => ∃ (x dx p : Addr) (ts : List Addr) (rows : List Row), vs = [.ref x, .ref p] ∧ H x = some (.ins C dx []) ∧ H p = some (.tup (ts.map V.ref)) ∧ TupsAt H ts rows ∧ ROk 8 rows ∧ ∀ H', (∀ b o, H b = some o → b ≠ x → H' b = some o) → BedAt C H' x rows → Q .non H'
abbrev s_init__ : Stmt := inClass (top 42) 0
abbrev N_init__ : List Str := ["self", "kinds", "name", "_", "many", "rank"]
theorem sc_init__ : FnScope N_init__ ["self", "kinds"] (defScope s_init__) := ⟨rfl, rfl, rfl, by decide +kernel, rfl, by decide +kernel, by decide +kernel⟩
section
variable {P : Program} {w : World} {K : PySem.W.Frag} {mg : Str → Option Value} {base : Heap} {C : Addr}
theorem body_bedI (T : Bl mg) (B : BedT K C) (c_check_pairs : DefOk P w K mg base CX0 3 "check_pairs" spPairs) {f : Addr} {cdv : Value} {A : Around} {outer : List Env} {s : Shared} {H : Hp} {vs : List V} {Q : VK} {E : XK} (hr : Room 3 (A.deeper (envOfC "Bed.__init__" (defScope s_init__) s.heap.objs.size f cdv))) (h : spBedI C vs H Q E) :
    ∃ t, PSs (cxOf CX0 P w K mg base N_init__ "Bed.__init__" (defScope s_init__) f cdv A outer s H E).nox (defBody s_init__) t ∧ t { nx := fun _ H' => Q .non H', rt := Q } (start N_init__ vs) H := by
  obtain ⟨x, dx, p, ts, rows, rfl, hx, hp, hT, R, k⟩ := h
  refine ⟨_, (pss_cons (ps_expr (pe_d c_check_pairs (hr.mono (by decide)) pass0 (pa_cons (pv 1) pa_nil)))
    (pss_cons (ps_fld (pv 0) (pv 1) rfl)
    (pss_cons (ps_fld (pv 0) (pe_callTy call_tuple_of (by rfl) T.b_tuple (by decide +kernel) (pa_cons (pe_lc (own := [("name", 2), ("_", 3)]) (g := (gTup K 2 (gCons (gName 2) (gCons (gName 3) gNil)))) (tt := tYes) rfl sc_init__.nd (pi_tup (pv 1)) (blkOk_by (N := N_init__) (sc := defScope s_init__) (by decide +kernel)) (fun _ _ _ _ _ => (pg_tup (by rfl) (pgs_cons (pg_name (i := 2) sc_init__.nd rfl (Or.inl rfl)) (pgs_cons (pg_name (i := 3) sc_init__.nd rfl (Or.inl rfl)) pgs_nil)))) (fun _ _ _ _ _ => pts_nil) (fun _ _ _ _ _ => (pv 2))) pa_nil)) rfl)
    (pss_cons (ps_fld (pv 0) (pe_dc (own := [("name", 2), ("many", 4)]) (g := (gTup K 2 (gCons (gName 2) (gCons (gName 4) gNil)))) (tt := tYes) rfl sc_init__.nd (pi_tup (pv 1)) (blkOk_by (N := N_init__) (sc := defScope s_init__) (by decide +kernel)) (fun _ _ _ _ _ => (pg_tup (by rfl) (pgs_cons (pg_name (i := 2) sc_init__.nd rfl (Or.inl rfl)) (pgs_cons (pg_name (i := 4) sc_init__.nd rfl (Or.inl rfl)) pgs_nil)))) (fun _ _ _ _ _ => pts_nil) (fun _ _ _ _ _ => (pv 2)) (fun _ _ _ _ _ => (pv 4))) rfl)
    (pss_one (ps_fld (pv 0) (pe_dc (own := [("rank", 5), ("name", 2)]) (g := (gTup K 2 (gCons (gName 5) (gCons (gName 2) gNil)))) (tt := tYes) rfl sc_init__.nd (pi_enumT (by rfl) T.b_enumerate (pa_cons (pe_fld (pv 0) rfl) pa_nil)) (blkOk_by (N := N_init__) (sc := defScope s_init__) (by decide +kernel)) (fun _ _ _ _ _ => (pg_tup (by rfl) (pgs_cons (pg_name (i := 5) sc_init__.nd rfl (Or.inl rfl)) (pgs_cons (pg_name (i := 2) sc_init__.nd rfl (Or.inl rfl)) pgs_nil)))) (fun _ _ _ _ _ => pts_nil) (fun _ _ _ _ _ => (pv 2)) (fun _ _ _ _ _ => (pv 5))) rfl)))))), ?_⟩
  have hlen : ts.length = rows.length := hT.1
  have R8 : rows.length ≤ 8 := by have := R.len; omega
  have npx : p ≠ x := ne_of hp hx (fun e => nomatch e)
  refine ⟨_, rfl, p, ts, rows, rfl, hp, hT, R, fun H1 s1 => ?_⟩
  refine ⟨_, rfl, _, rfl, x, C, dx, _, rfl, s1 _ _ hx, B.cl, B.nR, (by show 0 < 1000; decide), ?_⟩
  generalize e2 : upd H1 x (.ins C dx (putF "rows" (.ref p) [])) = H2
  have hx2 : H2 x = some (.ins C dx [(("rows" : Str), V.ref p)]) := by rw [← e2, upd_same]; rfl
  have k2 : Kp x H H2 := by rw [← e2]; exact (Kp.same s1).upd
  have tk1 : ∀ {H H' : Hp} {fs : List (Str × V)}, H x = some (.ins C dx fs) → Kp x H H' → TK H H' := fun h q t xs ht => q t _ ht (ne_of ht h (fun e => nomatch e))
  have tk2 := tk1 hx k2
  have hp2 : H2 p = some (.tup (ts.map V.ref)) := tk2 _ _ hp
  have hT2 := hT.keep tk2
  clear e2
  -- kinds
  refine ⟨_, rfl, p, rfl, ⟨_, SqT.of hp2⟩, fun D hD => lc_it (walk_tup (xs := ts.map V.ref)) (fun i H' => Same H2 H' ∧ H' D = some (.lst (((rows.map (·.1)).take i).map V.str))) ⟨(Same.refl H2).upd_new hD, upd_same⟩ (fun i H' _ ⟨q, _⟩ => SqT.of (q _ _ hp2)) ?_ ?_⟩
  · rintro i v H3 H4 hi ⟨q1, q2⟩ ⟨rfl, hv⟩
    have hir : i < rows.length := by rw [List.length_map, hlen] at hi; exact hi
    obtain ⟨t, t1, t2, t3⟩ := hT2.at hir
    rw [t2] at hv
    cases hv
    refine ⟨t, _, rfl, SqT.of (q1 _ _ t3), rfl, _, _, rfl, _, _, rfl, rfl, rfl, ?_⟩
    refine ⟨_, rfl, _, q2, ?_, q1.upd_own hD, ?_⟩
    · rw [List.length_map, List.length_take]
      exact lt_line (by omega)
    · have hg : (rows.map (·.1))[i]? = some (rows[i]).1 := by rw [List.getElem?_map, List.getElem?_eq_getElem hir]; rfl
      rw [upd_same, ← take_snoc hg, List.map_append]
      rfl
  rintro H3 ⟨q1, q2⟩
  rw [show (ts.map V.ref).length = (rows.map (·.1)).length by rw [List.length_map, List.length_map, hlen], List.take_length] at q2
  refine ⟨D, _, rfl, .inl ⟨SqL.of q2, fun l hl => ?_⟩⟩
  have nlx : l ≠ x := (ne_of_none (q1 _ _ hx2) hl).symm
  refine ⟨_, rfl, x, C, dx, _, rfl, (by rw [upd_ne nlx.symm]; exact q1 _ _ hx2), B.cl, B.nK, (by show 1 < 1000; decide), ?_⟩
  rw [put1]
  have k3 : Kp x H (upd H3 l (.tup ((rows.map (·.1)).map V.str))) := (k2.trans (Kp.same q1)).upd_new hl
  generalize e4 : upd (upd H3 l (.tup ((rows.map (·.1)).map V.str))) x (.ins C dx [(("rows" : Str), V.ref p), ("kinds", .ref l)]) = H4
  have hx4 : H4 x = some (.ins C dx [(("rows" : Str), V.ref p), ("kinds", .ref l)]) := by rw [← e4, upd_same]
  have k4 : Kp x H H4 := by rw [← e4]; exact k3.upd
  have hl4 : H4 l = some (.tup ((rows.map (·.1)).map V.str)) := by rw [← e4, upd_ne nlx, upd_same]
  have tk4 := tk1 hx k4
  have hp4 : H4 p = some (.tup (ts.map V.ref)) := tk4 _ _ hp
  have hT4 := hT.keep tk4
  clear e4
  -- widths
  refine ⟨_, rfl, p, rfl, ⟨_, SqT.of hp4⟩, fun D2 hD2 => dc_it (walk_tup (xs := ts.map V.ref)) (fun i H' => Same H4 H' ∧ H' D2 = some (.dK (wL (rows.take i)))) ⟨(Same.refl H4).upd_new hD2, upd_same⟩ (fun i H' _ ⟨q, _⟩ => SqT.of (q _ _ hp4)) ?_ ?_⟩
  · rintro i v H5 H6 hi ⟨p1, p2⟩ ⟨rfl, hv⟩
    have hir : i < rows.length := by rw [List.length_map, hlen] at hi; exact hi
    obtain ⟨t, t1, t2, t3⟩ := hT4.at hir
    rw [t2] at hv
    cases hv
    refine ⟨t, _, rfl, SqT.of (p1 _ _ t3), rfl, _, _, rfl, _, _, rfl, rfl, rfl, ?_⟩
    refine ⟨_, rfl, _, rfl, _, .inr (rows[i]).1, rfl, p2, ?_, p1.upd_own hD2, ?_⟩
    · unfold wL
      rw [List.length_map, List.length_take]
      exact lt_line (by omega)
    · rw [upd_same, putK_new, ← take_snoc (List.getElem?_eq_getElem hir)]
      · unfold wL
        rw [List.map_append]
        rfl
      · refine valV_none fun kv hk e => ?_
        obtain ⟨q, hq, rfl⟩ := List.mem_map.mp hk
        have z2 := nd_take (l := rows.map (·.1)) R.nd (i := i) (by rw [List.length_map]; exact hir)
        rw [List.getElem_map, ← List.map_take] at z2
        have e2 : q.1 = (rows[i]).1 := Sum.inr.inj e
        exact z2 (by rw [← e2]; exact List.mem_map_of_mem hq)
  rintro H5 ⟨p1, p2⟩
  rw [show (ts.map V.ref).length = rows.length by rw [List.length_map, hlen], List.take_length] at p2
  have nDx2 : D2 ≠ x := (ne_of_none hx4 hD2).symm
  refine ⟨_, rfl, x, C, dx, _, rfl, p1 _ _ hx4, B.cl, B.nW, (by show 2 < 1000; decide), ?_⟩
  rw [put2]
  generalize e6 : upd H5 x (.ins C dx [(("rows" : Str), V.ref p), ("kinds", .ref l), ("widths", .ref D2)]) = H6
  have hx6 : H6 x = some (.ins C dx [(("rows" : Str), V.ref p), ("kinds", .ref l), ("widths", .ref D2)]) := by rw [← e6, upd_same]
  have k46 : Kp x H4 H6 := by rw [← e6]; exact (Kp.same p1).upd
  have k6 : Kp x H H6 := k4.trans k46
  have hl6 : H6 l = some (.tup ((rows.map (·.1)).map V.str)) := k46 _ _ hl4 nlx
  have hw6 : H6 D2 = some (.dK (wL rows)) := by rw [← e6, upd_ne nDx2]; exact p2
  clear e6
  -- ranks
  refine ⟨_, rfl, x, C, dx, _, _, rfl, hx6, B.cl, B.nK, lk_k2 _ _ _, l, _, rfl, SqT.of hl6, fun D3 hD3 => dc_it (walk_enumT (xs := (rows.map (·.1)).map V.str)) (fun i H' => Same H6 H' ∧ H' D3 = some (.dK ((rkL (rows.map (·.1))).take i))) ⟨(Same.refl H6).upd_new hD3, upd_same⟩ (fun i H' _ ⟨q, _⟩ => SqT.of (q _ _ hl6)) ?_ ?_⟩
  · rintro i v H7 H8 hi ⟨p3, p4⟩ ⟨P1, v1, v2, rfl, hP1, rfl, e1, e2⟩
    have hir : i < rows.length := by rw [List.length_map, List.length_map] at hi; exact hi
    cases e1
    have e2' : ((rows.map (·.1)).map V.str)[i]? = some v2 := e2
    rw [List.getElem?_map, List.getElem?_map, List.getElem?_eq_getElem hir] at e2'
    cases e2'
    have hD3' : (upd H7 P1 (.tup [.int ((i : Nat) : Int), .str (rows[i]).1])) D3 = some (.dK ((rkL (rows.map (·.1))).take i)) := by rw [upd_ne (ne_of_none p4 hP1)]; exact p4
    refine ⟨P1, _, rfl, SqT.of upd_same, rfl, _, _, rfl, _, _, rfl, rfl, rfl, ?_⟩
    refine ⟨_, rfl, _, rfl, _, .inr (rows[i]).1, rfl, hD3', ?_, (p3.upd_new hP1).upd_own hD3, ?_⟩
    · rw [List.length_take]
      unfold rkL
      rw [List.length_map, List.length_zipIdx, List.length_map]
      exact lt_line (by omega)
    · have hg : (rkL (rows.map (·.1)))[i]? = some (.inr (rows[i]).1, .int ((i : Nat) : Int)) := by
        unfold rkL
        rw [List.getElem?_map, List.getElem?_zipIdx, List.getElem?_map, List.getElem?_eq_getElem hir]
        simp
      rw [upd_same, putK_new, ← take_snoc hg]
      refine valV_none fun kv hk e => ?_
      obtain ⟨j, hj, ej⟩ := List.mem_iff_getElem.mp hk
      rw [List.length_take] at hj
      rw [List.getElem_take] at ej
      have hjr : j < rows.length := by omega
      have hg2 : (rkL (rows.map (·.1)))[j]? = some (.inr (rows[j]).1, .int ((j : Nat) : Int)) := by
        unfold rkL
        rw [List.getElem?_map, List.getElem?_zipIdx, List.getElem?_map, List.getElem?_eq_getElem hjr]
        simp
      have ej2 := List.getElem?_eq_getElem (l := rkL (rows.map (·.1))) (i := j) (by unfold rkL; rw [List.length_map, List.length_zipIdx, List.length_map]; exact hjr)
      rw [hg2] at ej2
      rw [← ej, ← Option.some.inj ej2] at e
      have e3 : (rows[j]).1 = (rows[i]).1 := Sum.inr.inj e
      have nd := R.nd
      have e4 : (rows.map (·.1))[j]'(by rw [List.length_map]; exact hjr) = (rows.map (·.1))[i]'(by rw [List.length_map]; exact hir) := by rw [List.getElem_map, List.getElem_map]; exact e3
      have := (List.getElem_inj nd).mp e4
      omega
  rintro H7 ⟨p3, p4⟩
  rw [show ((rows.map (·.1)).map V.str).length = (rkL (rows.map (·.1))).length by unfold rkL; simp, List.take_length] at p4
  have nDx3 : D3 ≠ x := (ne_of_none hx6 hD3).symm
  refine ⟨_, rfl, x, C, dx, _, rfl, p3 _ _ hx6, B.cl, B.nRk, (by show 3 < 1000; decide), ?_⟩
  rw [put3]
  have k8 : Kp x H (upd H7 x (.ins C dx (bedF p l D2 D3))) := (k6.trans (Kp.same p3)).upd
  refine k _ k8 ⟨dx, p, l, D2, D3, ts, upd_same, k8 _ _ hp npx, hT.keep (tk1 hx k8), ?_, ?_, ?_⟩
  · rw [upd_ne nlx]; exact p3 _ _ hl6
  · rw [upd_ne nDx2]; exact p3 _ _ hw6
  · rw [upd_ne nDx3]; exact p4
end
end Sh
end
section
set_option Elab.async false
set_option linter.all false
set_option maxRecDepth 100000
set_option maxHeartbeats 2000000
set_option autoImplicit false
namespace Sh
open PySem PySem.Spec PyProof.Rows L2
open C8 (pss_cut tCut)
open Evl (ixN_nat)
theorem ifn {c A B : Prop} [Decidable c] (h : ¬ c) (b : B) : if c then A else B := by
  rw [if_neg h]
  exact b
theorem ifp {c A B : Prop} [Decidable c] (h : c) (a : A) : if c then A else B := by
  rw [if_pos h]
  exact a
def spBedS (C : Addr) : Sp := fun vs H Q E => ∃ ws rest, vs = ws ++ rest ∧ ws.length = (["self"] : List Str).length ∧ rest.length ≤ sizeLine ∧ ∀ p, H p = Option.none → spBedI C (ws ++ [V.ref p]) (upd H p (.tup rest)) Q E
def BedOk (P : Program) (w : World) (K : PySem.W.Frag) (mg : Str → Option Value) (base : Heap) (C : Addr) (k : Nat) : Prop := mg "Bed" = some (.ref C) ∧ ∃ fI, Mk K C fI ∧ FnR P w K mg base CX0 k fI (spBedS C)
def spBed (C : Addr) : Sp := fun vs H Q _ => ∃ (ts : List Addr) (rows : List Row), vs = ts.map V.ref ∧ TupsAt H ts rows ∧ ROk 8 rows ∧ ∀ H' p, Same H H' → H p = none → BedAt C H' p rows → Q (.ref p) H'
theorem pe_bed {X : Cx} {C : Addr} {k : Nat} {e : Expr} {es : List Expr} {t : TA} {p pos : Pos} (D : BedOk X.prog X.w X.K X.mg X.base C k) (hr : Room (k + 1) X.A) (ha : PA X (e :: es) t) (hg : Gl X "Bed" := by rfl)
    (he : starEach (e :: es) X.env = (false, eval e X.env) :: starEach es X.env := by rfl) (hpl : (backTo pos (starEach es X.env)).any (·.1) = false := by rfl) :
    PE X (.Call (.Name "Bed" p) (e :: es) [] pos) (tCallR (spBed C) E0 t) := by
  obtain ⟨hm, fI, M, F⟩ := D
  refine ⟨fun pins s σ H Q I h => ?_⟩
  refine wpAny_Call_Name_kw (ld_glob I hg hm ?_ (by decide))
  refine PySem.W.callWith_K (h₀ := X.base) I.ok.mod.kin M.kp (thn (ha.run pos pins s σ H _ I h) fun us s1 ⟨vs, H1, I1, r, q⟩ => ⟨I1.kIn, ?_⟩) he hpl
  obtain ⟨ts, rows, rfl, hT, R, k⟩ := q
  refine StX.run_makeR M F hr pass0 I1 r fun x dx hx hd hxd => ?_
  have s1 : Same H1 (upd (upd H1 dx (.own x)) x (.ins C dx [])) := ((Same.refl H1).upd_new hd).upd_own hx
  refine ⟨[.ref x], ts.map V.ref, rfl, rfl, ?_, fun p hp => ?_⟩
  · rw [List.length_map, hT.1]
    have := R.len
    exact le_line (by omega)
  have s2 := s1.upd_new (o := .tup (ts.map V.ref)) hp
  have nxp : x ≠ p := ne_of_none (upd_same (H := upd H1 dx (.own x)) (a := x)) hp
  refine ⟨x, dx, p, ts, rows, rfl, by rw [upd_ne nxp, upd_same], upd_same, hT.keep (TK.of_same s2), R, fun H' kk b => ⟨rfl, ?_⟩⟩
  exact k H' x (fun b o hb => kk b o (s2 b o hb) (ne_of_none hb hx)) hx b
abbrev s_law_bed : Stmt := top 49
abbrev N_law_bed : List Str := ["rows"]
theorem sc_law_bed : FnScope N_law_bed ["rows"] (defScope s_law_bed) := ⟨rfl, rfl, rfl, by decide +kernel, rfl, by decide +kernel, by decide +kernel⟩
def spLawBed (C : Addr) : Sp := fun vs H Q _ => ∃ (r : Addr) (rows : List Row), vs = [.ref r] ∧ RowsAt H r rows ∧ ROk 8 rows ∧ ∀ H' p, Same H H' → H p = none → BedAt C H' p rows → Q (.ref p) H'
section
variable {P : Program} {w : World} {K : PySem.W.Frag} {mg : Str → Option Value} {base : Heap} {C : Addr}
theorem ok_law_bed (T : Bl mg) (c_Bed : BedOk P w K mg base C 5) (D : Def0 K mg "_law_bed" s_law_bed) : DefOk P w K mg base CX0 7 "_law_bed" (spLawBed C) := by
  refine D.ok sc_law_bed (fun vs H Q E h => ?_) (fun _ _ _ _ _ _ us hl => match us, hl with | [_], _ => rfl) (fun f cdv A outer s H vs Q E hr h => ?_)
  · obtain ⟨r, rows, rfl, _⟩ := h
    rfl
  · obtain ⟨r, rows, rfl, ⟨ts, hR, hT⟩, R, k⟩ := h
    refine ⟨_, (pss_cons (ps_if (pt_cmpR op_eq (pe_callB call_len_seq (by rfl) T.b_len boot_len (pa_cons (pv 0) pa_nil)) pe_int (nomark _))
        (pss_one (ps_ret (pe_bed c_Bed (hr.mono (by decide)) (pa_cons (pe_ix ix_list (pv 0) pe_int (fun _ _ => rfl)) pa_nil))))
        pss_nil)
      (pss_cons (ps_if (pt_cmpR op_eq (pe_callB call_len_seq (by rfl) T.b_len boot_len (pa_cons (pv 0) pa_nil)) pe_int (nomark _))
        (pss_one (ps_ret (pe_bed c_Bed (hr.mono (by decide)) (pa_cons (pe_ix ix_list (pv 0) pe_int (fun _ _ => rfl)) (pa_cons (pe_ix ix_list (pv 0) pe_int (fun _ _ => rfl)) pa_nil)))))
        pss_nil)
      (pss_cons (ps_if (pt_cmpR op_eq (pe_callB call_len_seq (by rfl) T.b_len boot_len (pa_cons (pv 0) pa_nil)) pe_int (nomark _))
        (pss_one (ps_ret (pe_bed c_Bed (hr.mono (by decide)) (pa_cons (pe_ix ix_list (pv 0) pe_int (fun _ _ => rfl)) (pa_cons (pe_ix ix_list (pv 0) pe_int (fun _ _ => rfl)) (pa_cons (pe_ix ix_list (pv 0) pe_int (fun _ _ => rfl)) pa_nil))))))
        pss_nil)
      (pss_cons (ps_if (pt_cmpR op_eq (pe_callB call_len_seq (by rfl) T.b_len boot_len (pa_cons (pv 0) pa_nil)) pe_int (nomark _))
        (pss_one (ps_ret (pe_bed c_Bed (hr.mono (by decide)) (pa_cons (pe_ix ix_list (pv 0) pe_int (fun _ _ => rfl)) (pa_cons (pe_ix ix_list (pv 0) pe_int (fun _ _ => rfl)) (pa_cons (pe_ix ix_list (pv 0) pe_int (fun _ _ => rfl)) (pa_cons (pe_ix ix_list (pv 0) pe_int (fun _ _ => rfl)) pa_nil)))))))
        pss_nil)
      (pss_cons (ps_if (pt_cmpR op_eq (pe_callB call_len_seq (by rfl) T.b_len boot_len (pa_cons (pv 0) pa_nil)) pe_int (nomark _))
        (pss_one (ps_ret (pe_bed c_Bed (hr.mono (by decide)) (pa_cons (pe_ix ix_list (pv 0) pe_int (fun _ _ => rfl)) (pa_cons (pe_ix ix_list (pv 0) pe_int (fun _ _ => rfl)) (pa_cons (pe_ix ix_list (pv 0) pe_int (fun _ _ => rfl)) (pa_cons (pe_ix ix_list (pv 0) pe_int (fun _ _ => rfl)) (pa_cons (pe_ix ix_list (pv 0) pe_int (fun _ _ => rfl)) pa_nil))))))))
        pss_nil)
      (pss_cons (ps_if (pt_cmpR op_eq (pe_callB call_len_seq (by rfl) T.b_len boot_len (pa_cons (pv 0) pa_nil)) pe_int (nomark _))
        (pss_one (ps_ret (pe_bed c_Bed (hr.mono (by decide)) (pa_cons (pe_ix ix_list (pv 0) pe_int (fun _ _ => rfl)) (pa_cons (pe_ix ix_list (pv 0) pe_int (fun _ _ => rfl)) (pa_cons (pe_ix ix_list (pv 0) pe_int (fun _ _ => rfl)) (pa_cons (pe_ix ix_list (pv 0) pe_int (fun _ _ => rfl)) (pa_cons (pe_ix ix_list (pv 0) pe_int (fun _ _ => rfl)) (pa_cons (pe_ix ix_list (pv 0) pe_int (fun _ _ => rfl)) pa_nil)))))))))
        pss_nil)
      (pss_cons (ps_if (pt_cmpR op_eq (pe_callB call_len_seq (by rfl) T.b_len boot_len (pa_cons (pv 0) pa_nil)) pe_int (nomark _))
        (pss_one (ps_ret (pe_bed c_Bed (hr.mono (by decide)) (pa_cons (pe_ix ix_list (pv 0) pe_int (fun _ _ => rfl)) (pa_cons (pe_ix ix_list (pv 0) pe_int (fun _ _ => rfl)) (pa_cons (pe_ix ix_list (pv 0) pe_int (fun _ _ => rfl)) (pa_cons (pe_ix ix_list (pv 0) pe_int (fun _ _ => rfl)) (pa_cons (pe_ix ix_list (pv 0) pe_int (fun _ _ => rfl)) (pa_cons (pe_ix ix_list (pv 0) pe_int (fun _ _ => rfl)) (pa_cons (pe_ix ix_list (pv 0) pe_int (fun _ _ => rfl)) pa_nil))))))))))
        pss_nil)
      (pss_one (ps_ret (pe_bed c_Bed (hr.mono (by decide)) (pa_cons (pe_ix ix_list (pv 0) pe_int (fun _ _ => rfl)) (pa_cons (pe_ix ix_list (pv 0) pe_int (fun _ _ => rfl)) (pa_cons (pe_ix ix_list (pv 0) pe_int (fun _ _ => rfl)) (pa_cons (pe_ix ix_list (pv 0) pe_int (fun _ _ => rfl)) (pa_cons (pe_ix ix_list (pv 0) pe_int (fun _ _ => rfl)) (pa_cons (pe_ix ix_list (pv 0) pe_int (fun _ _ => rfl)) (pa_cons (pe_ix ix_list (pv 0) pe_int (fun _ _ => rfl)) (pa_cons (pe_ix ix_list (pv 0) pe_int (fun _ _ => rfl)) pa_nil)))))))))))))))))), ?_⟩
    have h1 : 1 ≤ ts.length := by rw [hT.1]; exact R.pos
    have h8 : ts.length ≤ 8 := by rw [hT.1]; have := R.len; omega
    match ts, And.intro h1 h8 with
    | [], h => exact absurd h.1 (by decide)
    | [t0], _ =>
      refine ⟨_, rfl, r, _, rfl, .inl (SqL.of hR), rfl, _, rfl, ?_⟩
      refine ifp (by simp) ?_
      exact ⟨_, rfl, r, _, _, _, rfl, rfl, SqL.of hR, atI_nat (j := 0) rfl, [t0], rows, rfl, hT, R, k⟩
    | [t0, t1], _ =>
      refine ⟨_, rfl, r, _, rfl, .inl (SqL.of hR), rfl, _, rfl, ?_⟩
      refine ifn (fun e => by simp at e) ?_
      refine ⟨_, rfl, r, _, rfl, .inl (SqL.of hR), rfl, _, rfl, ?_⟩
      refine ifp (by simp) ?_
      exact ⟨_, rfl, r, _, _, _, rfl, rfl, SqL.of hR, atI_nat (j := 0) rfl, _, rfl, r, _, _, _, rfl, rfl, SqL.of hR, atI_nat (j := 1) rfl, [t0, t1], rows, rfl, hT, R, k⟩
    | [t0, t1, t2], _ =>
      refine ⟨_, rfl, r, _, rfl, .inl (SqL.of hR), rfl, _, rfl, ?_⟩
      refine ifn (fun e => by simp at e) ?_
      refine ⟨_, rfl, r, _, rfl, .inl (SqL.of hR), rfl, _, rfl, ?_⟩
      refine ifn (fun e => by simp at e) ?_
      refine ⟨_, rfl, r, _, rfl, .inl (SqL.of hR), rfl, _, rfl, ?_⟩
      refine ifp (by simp) ?_
      exact ⟨_, rfl, r, _, _, _, rfl, rfl, SqL.of hR, atI_nat (j := 0) rfl, _, rfl, r, _, _, _, rfl, rfl, SqL.of hR, atI_nat (j := 1) rfl, _, rfl, r, _, _, _, rfl, rfl, SqL.of hR, atI_nat (j := 2) rfl, [t0, t1, t2], rows, rfl, hT, R, k⟩
    | [t0, t1, t2, t3], _ =>
      refine ⟨_, rfl, r, _, rfl, .inl (SqL.of hR), rfl, _, rfl, ?_⟩
      refine ifn (fun e => by simp at e) ?_
      refine ⟨_, rfl, r, _, rfl, .inl (SqL.of hR), rfl, _, rfl, ?_⟩
      refine ifn (fun e => by simp at e) ?_
      refine ⟨_, rfl, r, _, rfl, .inl (SqL.of hR), rfl, _, rfl, ?_⟩
      refine ifn (fun e => by simp at e) ?_
      refine ⟨_, rfl, r, _, rfl, .inl (SqL.of hR), rfl, _, rfl, ?_⟩
      refine ifp (by simp) ?_
      exact ⟨_, rfl, r, _, _, _, rfl, rfl, SqL.of hR, atI_nat (j := 0) rfl, _, rfl, r, _, _, _, rfl, rfl, SqL.of hR, atI_nat (j := 1) rfl, _, rfl, r, _, _, _, rfl, rfl, SqL.of hR, atI_nat (j := 2) rfl, _, rfl, r, _, _, _, rfl, rfl, SqL.of hR, atI_nat (j := 3) rfl, [t0, t1, t2, t3], rows, rfl, hT, R, k⟩
    | [t0, t1, t2, t3, t4], _ =>
      refine ⟨_, rfl, r, _, rfl, .inl (SqL.of hR), rfl, _, rfl, ?_⟩
      refine ifn (fun e => by simp at e) ?_
      refine ⟨_, rfl, r, _, rfl, .inl (SqL.of hR), rfl, _, rfl, ?_⟩
      refine ifn (fun e => by simp at e) ?_
      refine ⟨_, rfl, r, _, rfl, .inl (SqL.of hR), rfl, _, rfl, ?_⟩
      refine ifn (fun e => by simp at e) ?_
      refine ⟨_, rfl, r, _, rfl, .inl (SqL.of hR), rfl, _, rfl, ?_⟩
      refine ifn (fun e => by simp at e) ?_
      refine ⟨_, rfl, r, _, rfl, .inl (SqL.of hR), rfl, _, rfl, ?_⟩
      refine ifp (by simp) ?_
      exact ⟨_, rfl, r, _, _, _, rfl, rfl, SqL.of hR, atI_nat (j := 0) rfl, _, rfl, r, _, _, _, rfl, rfl, SqL.of hR, atI_nat (j := 1) rfl, _, rfl, r, _, _, _, rfl, rfl, SqL.of hR, atI_nat (j := 2) rfl, _, rfl, r, _, _, _, rfl, rfl, SqL.of hR, atI_nat (j := 3) rfl, _, rfl, r, _, _, _, rfl, rfl, SqL.of hR, atI_nat (j := 4) rfl, [t0, t1, t2, t3, t4], rows, rfl, hT, R, k⟩
    | [t0, t1, t2, t3, t4, t5], _ =>
      refine ⟨_, rfl, r, _, rfl, .inl (SqL.of hR), rfl, _, rfl, ?_⟩
      refine ifn (fun e => by simp at e) ?_
      refine ⟨_, rfl, r, _, rfl, .inl (SqL.of hR), rfl, _, rfl, ?_⟩
      refine ifn (fun e => by simp at e) ?_
      refine ⟨_, rfl, r, _, rfl, .inl (SqL.of hR), rfl, _, rfl, ?_⟩
      refine ifn (fun e => by simp at e) ?_
      refine ⟨_, rfl, r, _, rfl, .inl (SqL.of hR), rfl, _, rfl, ?_⟩
      refine ifn (fun e => by simp at e) ?_
      refine ⟨_, rfl, r, _, rfl, .inl (SqL.of hR), rfl, _, rfl, ?_⟩
      refine ifn (fun e => by simp at e) ?_
      refine ⟨_, rfl, r, _, rfl, .inl (SqL.of hR), rfl, _, rfl, ?_⟩
      refine ifp (by simp) ?_
      exact ⟨_, rfl, r, _, _, _, rfl, rfl, SqL.of hR, atI_nat (j := 0) rfl, _, rfl, r, _, _, _, rfl, rfl, SqL.of hR, atI_nat (j := 1) rfl, _, rfl, r, _, _, _, rfl, rfl, SqL.of hR, atI_nat (j := 2) rfl, _, rfl, r, _, _, _, rfl, rfl, SqL.of hR, atI_nat (j := 3) rfl, _, rfl, r, _, _, _, rfl, rfl, SqL.of hR, atI_nat (j := 4) rfl, _, rfl, r, _, _, _, rfl, rfl, SqL.of hR, atI_nat (j := 5) rfl, [t0, t1, t2, t3, t4, t5], rows, rfl, hT, R, k⟩
    | [t0, t1, t2, t3, t4, t5, t6], _ =>
      refine ⟨_, rfl, r, _, rfl, .inl (SqL.of hR), rfl, _, rfl, ?_⟩
      refine ifn (fun e => by simp at e) ?_
      refine ⟨_, rfl, r, _, rfl, .inl (SqL.of hR), rfl, _, rfl, ?_⟩
      refine ifn (fun e => by simp at e) ?_
      refine ⟨_, rfl, r, _, rfl, .inl (SqL.of hR), rfl, _, rfl, ?_⟩
      refine ifn (fun e => by simp at e) ?_
      refine ⟨_, rfl, r, _, rfl, .inl (SqL.of hR), rfl, _, rfl, ?_⟩
      refine ifn (fun e => by simp at e) ?_
      refine ⟨_, rfl, r, _, rfl, .inl (SqL.of hR), rfl, _, rfl, ?_⟩
      refine ifn (fun e => by simp at e) ?_
      refine ⟨_, rfl, r, _, rfl, .inl (SqL.of hR), rfl, _, rfl, ?_⟩
      refine ifn (fun e => by simp at e) ?_
      refine ⟨_, rfl, r, _, rfl, .inl (SqL.of hR), rfl, _, rfl, ?_⟩
      refine ifp (by simp) ?_
      exact ⟨_, rfl, r, _, _, _, rfl, rfl, SqL.of hR, atI_nat (j := 0) rfl, _, rfl, r, _, _, _, rfl, rfl, SqL.of hR, atI_nat (j := 1) rfl, _, rfl, r, _, _, _, rfl, rfl, SqL.of hR, atI_nat (j := 2) rfl, _, rfl, r, _, _, _, rfl, rfl, SqL.of hR, atI_nat (j := 3) rfl, _, rfl, r, _, _, _, rfl, rfl, SqL.of hR, atI_nat (j := 4) rfl, _, rfl, r, _, _, _, rfl, rfl, SqL.of hR, atI_nat (j := 5) rfl, _, rfl, r, _, _, _, rfl, rfl, SqL.of hR, atI_nat (j := 6) rfl, [t0, t1, t2, t3, t4, t5, t6], rows, rfl, hT, R, k⟩
    | [t0, t1, t2, t3, t4, t5, t6, t7], _ =>
      refine ⟨_, rfl, r, _, rfl, .inl (SqL.of hR), rfl, _, rfl, ?_⟩
      refine ifn (fun e => by simp at e) ?_
      refine ⟨_, rfl, r, _, rfl, .inl (SqL.of hR), rfl, _, rfl, ?_⟩
      refine ifn (fun e => by simp at e) ?_
      refine ⟨_, rfl, r, _, rfl, .inl (SqL.of hR), rfl, _, rfl, ?_⟩
      refine ifn (fun e => by simp at e) ?_
      refine ⟨_, rfl, r, _, rfl, .inl (SqL.of hR), rfl, _, rfl, ?_⟩
      refine ifn (fun e => by simp at e) ?_
      refine ⟨_, rfl, r, _, rfl, .inl (SqL.of hR), rfl, _, rfl, ?_⟩
      refine ifn (fun e => by simp at e) ?_
      refine ⟨_, rfl, r, _, rfl, .inl (SqL.of hR), rfl, _, rfl, ?_⟩
      refine ifn (fun e => by simp at e) ?_
      refine ⟨_, rfl, r, _, rfl, .inl (SqL.of hR), rfl, _, rfl, ?_⟩
      refine ifn (fun e => by simp at e) ?_
      exact ⟨_, rfl, r, _, _, _, rfl, rfl, SqL.of hR, atI_nat (j := 0) rfl, _, rfl, r, _, _, _, rfl, rfl, SqL.of hR, atI_nat (j := 1) rfl, _, rfl, r, _, _, _, rfl, rfl, SqL.of hR, atI_nat (j := 2) rfl, _, rfl, r, _, _, _, rfl, rfl, SqL.of hR, atI_nat (j := 3) rfl, _, rfl, r, _, _, _, rfl, rfl, SqL.of hR, atI_nat (j := 4) rfl, _, rfl, r, _, _, _, rfl, rfl, SqL.of hR, atI_nat (j := 5) rfl, _, rfl, r, _, _, _, rfl, rfl, SqL.of hR, atI_nat (j := 6) rfl, _, rfl, r, _, _, _, rfl, rfl, SqL.of hR, atI_nat (j := 7) rfl, [t0, t1, t2, t3, t4, t5, t6, t7], rows, rfl, hT, R, k⟩
    | _ :: _ :: _ :: _ :: _ :: _ :: _ :: _ :: _ :: l, h => exact absurd h.2 (by simp only [List.length_cons]; omega)
end
end Sh
end
section
set_option Elab.async false
set_option linter.all false
set_option maxRecDepth 100000
set_option maxHeartbeats 4000000
set_option autoImplicit false
/-! More rules over tuples, lists and caught exceptions. -/
namespace L2
open PySem PySem.Spec PyProof.Rows
section
variable {X : Cx}
/-- t + u, followed with its object -/
def rCatG (K : PySem.W.Frag) : R2 := fun x y H Q => ∃ a b xs ys, x = .ref a ∧ y = .ref b ∧ SqT K H a xs ∧ SqT K H b ys ∧ xs.length + ys.length ≤ sizeLine ∧
  (xs = [] → Q (.ref b) H) ∧ (xs ≠ [] → ys = [] → Q (.ref a) H) ∧ (xs ≠ [] → ys ≠ [] → ∀ p o, H p = none → o.dict = none → Q (.ref p) (upd H p (.frz o (.tup (xs ++ ys)))))
theorem op_catG : OpR X (binaryOp .Add) (rCatG X.K) := by
  intro pins s σ H x y v u Q I rx ry h
  obtain ⟨a, b, xs, ys, rfl, rfl, ha, hb, hz, q0, q1, q2⟩ := h
  by_cases hy : ys = []
  · exact op_catA pins s σ H _ _ v u Q I rx ry ⟨a, b, xs, ys, rfl, rfl, ha, hb, hz, q0, q1, fun _ h => absurd hy h⟩
  · exact op_catF pins s σ H _ _ v u Q I rx ry ⟨a, b, xs, ys, rfl, rfl, ha, hb, hy, hz, q0, fun h => q2 h hy⟩
/-- t[i:j], followed with its object -/
def rSlG (K : PySem.W.Frag) : V → Option Int → Option Int → Hp → VK → Prop := fun x lo hi H Q => ∃ a xs, x = .ref a ∧ SqT K H a xs ∧
  (HT.sIx xs.length 0 lo = 0 ∧ HT.sIx xs.length xs.length hi = xs.length → Q (.ref a) H) ∧ (¬ (HT.sIx xs.length 0 lo = 0 ∧ HT.sIx xs.length xs.length hi = xs.length) → ∀ p o, H p = none → o.dict = none → Q (.ref p) (upd H p (.frz o (.tup (cutV xs lo hi)))))
theorem sl_tupG : SlR X (rSlG X.K) := by
  intro pins s σ H x v vl vu lo hi sl Q I rx hs pl pu h
  obtain ⟨a, xs, rfl, hx, q1, q2⟩ := h
  cases rx
  obtain ⟨its, r, ht, hz⟩ := I.tuple hx
  have hlen : its.toArray.size = xs.length := by rw [List.size_toArray]; exact r.length.symm
  refine ⟨"tuple", _, PyProof.Rows.slot_tuple_getitem.lookup, ht.typeIs, ?_⟩
  by_cases hw : HT.sIx xs.length 0 lo = 0 ∧ HT.sIx xs.length xs.length hi = xs.length
  · exact getItem_tuple_whole ht hs pl pu (by rw [hlen]; exact hw) ⟨.ref a, H, I, rfl, q1 hw⟩
  · refine HT.getItem_tuple_cut ht hs pl pu (by rw [hlen]; exact hw) ?_ (by rw [hlen]; exact hz)
    rw [hlen]
    refine ⟨.ref s.heap.objs.size, _, I.laid (t' := s.toks) (o := .frz { cls := .type "tuple", data := .seq (List.take (HT.sIx xs.length xs.length hi - HT.sIx xs.length 0 lo) (List.drop (HT.sIx xs.length 0 lo) its.toArray.toList)).toArray } (.tup (cutV xs lo hi))) (fun b ob q => Heap.get?_push_of_some _ q) (Nat.le_refl _) ?_, rfl, q2 hw _ _ (I.hok.fresh (Nat.le_refl _)) ?_⟩
    · exact ⟨Heap.get?_push_size _ rfl, Nat.le_trans (cutV_length xs lo hi) hz, _, (r.drop (HT.sIx xs.length 0 lo)).take (HT.sIx xs.length xs.length hi - HT.sIx xs.length 0 lo), IsTup.new _ _⟩
    · rfl
/-- t * k, k not 1, followed with its object -/
def rRepF (K : PySem.W.Frag) : R2 := fun x y H Q => ∃ l k xs, x = .ref l ∧ y = .int k ∧ SqT K H l xs ∧ xs ≠ [] ∧ 0 ≤ k ∧ k ≠ 1 ∧ k ≤ 4000 ∧ xs.length ≤ 100 ∧ ∀ p o, H p = none → o.dict = none → Q (.ref p) (upd H p (.frz o (.tup (List.replicate k.toNat xs).flatten)))
theorem op_repF : OpR X (binaryOp .Mult) (rRepF X.K) := by
  intro pins s σ H x y v u Q I rx ry h
  obtain ⟨l, k, xs, rfl, rfl, hT, hne, h1, e1, h2, hz, qn⟩ := h
  cases rx
  obtain ⟨t, rfl⟩ := ry
  obtain ⟨its, r, ⟨⟨cls, dd, data, sl⟩, ho, hc, n, hd⟩, hs⟩ := I.tuple hT
  simp only at hc hd
  subst hc hd
  have hle : its.length = xs.length := r.length.symm
  have hn : its ≠ [] := fun e => hne (by
    rw [e] at hle
    exact List.eq_nil_of_length_eq_zero hle.symm)
  have hi : its.toArray.isEmpty = false := by
    cases its with
    | nil => exact absurd rfl hn
    | cons a b => rfl
  have hsz0 : its.toArray.size = xs.length := by rw [List.size_toArray, hle]
  have c0 : (decide (k < -(2 ^ 63)) || decide (k ≥ 2 ^ 63)) = false := by
    rw [decide_eq_false (by omega), decide_eq_false (by omega)] <;> rfl
  have c1 : (its.toArray.isEmpty || k == 1) = false := by
    rw [hi, Bool.false_or]
    exact beq_eq_false_iff_ne.mpr e1
  by_cases e0 : k = 0
  · subst e0
    refine wpAny_binaryOp_repeat_ref (T := "tuple") (U := "int") (by decide) ⟨_, ho, rfl⟩ (fun s' => typeIs_int s' 0 t) noFill_tuple_mul F.fills_int_mul F.slot_int_rmul repeat_tuple F.slot_int_index.lookup
      (call_meets F.slot_int_rmul (typeIs_int s 0 t) F.entry_int_rmul (F.args_int_rmul_2 _ _) (int_rmul_tuple 0 t l its.toArray n dd sl)
        ⟨ho, rfl, ⟨_, ho, rfl⟩, call_meets F.slot_tuple_mul ⟨_, ho, rfl⟩ F.entry_tuple_mul (F.args_tuple_mul_2 _ _) (tuple_mul0 l its.toArray n dd sl 0 t c0 c1 rfl) ⟨ho, ?_⟩⟩)
    refine ⟨.ref s.heap.objs.size, _, I.laid (t' := s.toks) (o := .frz { cls := .type "tuple", data := .seq #[] } (.tup (List.replicate (0 : Int).toNat xs).flatten)) (fun b ob q => Heap.get?_push_of_some _ q) (Nat.le_refl _) ?_, rfl, qn _ _ (I.hok.fresh (Nat.le_refl _)) ?_⟩
    · exact ⟨Heap.get?_push_size _ rfl, by rw [sizeLine_eq]; exact Nat.zero_le _, [], .nil, IsTup.new _ _⟩
    · rfl
  · have hm : ((its.toArray.size : Nat) : Int) * k ≤ 400000 := by
      rw [hsz0]
      have a1 : ((xs.length : Nat) : Int) * k ≤ 100 * k := Int.mul_le_mul_of_nonneg_right (by omega) (by omega)
      omega
    have flen : (List.replicate k.toNat its).flatten.length ≤ sizeLine := by
      rw [PyProof.Rows.lm_len_rep_flat, hle, sizeLine_eq]
      have a1 : k.toNat * xs.length ≤ 4000 * 100 := Nat.mul_le_mul (by omega) hz
      omega
    have c2 : (decide (k ≤ 0) || its.toArray.isEmpty) = false := by
      rw [hi, Bool.or_false]
      exact decide_eq_false (by omega)
    have c4 : Builtin.Tuple.tupleTooMany (((its.toArray.size : Nat) : Int) * k) = false := by
      unfold Builtin.Tuple.tupleTooMany
      rw [sizeLine_eq]
      exact decide_eq_false (by omega)
    refine wpAny_binaryOp_repeat_ref (T := "tuple") (U := "int") (by decide) ⟨_, ho, rfl⟩ (fun s' => typeIs_int s' k t) noFill_tuple_mul F.fills_int_mul F.slot_int_rmul repeat_tuple F.slot_int_index.lookup
      (call_meets F.slot_int_rmul (typeIs_int s k t) F.entry_int_rmul (F.args_int_rmul_2 _ _) (int_rmul_tuple k t l its.toArray n dd sl)
        ⟨ho, rfl, ⟨_, ho, rfl⟩, call_meets F.slot_tuple_mul ⟨_, ho, rfl⟩ F.entry_tuple_mul (F.args_tuple_mul_2 _ _) (tuple_mulW l its.toArray n dd sl k t c0 c1 c2 (by omega) c4 (by rw [size_rep, List.size_toArray]; exact flen)) ⟨ho, ?_⟩⟩)
    rw [size_rep]
    refine ⟨.ref s.heap.objs.size, _, I.laid (t' := s.toks) (o := .frz { cls := .type "tuple", data := .seq (List.replicate k.toNat its).flatten.toArray } (.tup (List.replicate k.toNat xs).flatten)) (fun b ob q => Heap.get?_push_of_some _ q) (Nat.le_refl _) ?_, rfl, qn _ _ (I.hok.fresh (Nat.le_refl _)) ?_⟩
    · exact ⟨Heap.get?_push_size _ rfl, by rw [PyProof.Rows.lm_len_rep_flat, sizeLine_eq]; have a1 : k.toNat * xs.length ≤ 4000 * 100 := Nat.mul_le_mul (by omega) hz; omega, _, r.rep k.toNat, IsTup.new _ _⟩
    · rfl
/-- t * k, followed with its object -/
def rRepX (K : PySem.W.Frag) : R2 := fun x y H Q => ∃ l k xs, x = .ref l ∧ y = .int k ∧ SqT K H l xs ∧ xs ≠ [] ∧ 0 ≤ k ∧ k ≤ 4000 ∧ xs.length ≤ 100 ∧ (k = 1 → Q (.ref l) H) ∧ (k ≠ 1 → ∀ p o, H p = none → o.dict = none → Q (.ref p) (upd H p (.frz o (.tup (List.replicate k.toNat xs).flatten))))
theorem op_repX : OpR X (binaryOp .Mult) (rRepX X.K) := by
  intro pins s σ H x y v u Q I rx ry h
  obtain ⟨l, k, xs, rfl, rfl, hT, hne, h0, h1, h2, q1, q2⟩ := h
  by_cases e : k = 1
  · exact op_repG pins s σ H _ _ v u Q I rx ry ⟨l, k, xs, rfl, rfl, hT, hne, h0, h1, h2, q1, fun n => absurd e n⟩
  · exact op_repF pins s σ H _ _ v u Q I rx ry ⟨l, k, xs, rfl, rfl, hT, hne, h0, e, h1, h2, q2 e⟩
/-- l.extend(t), t a tuple -/
theorem list_extend_tupD (l : Addr) (items : Array Value) (n : Nat) (b : Addr) (items2 : Array Value) (n2 : Nat) (dd : Option Addr) (sl : Array (Option Value)) (hs0 : ¬(!items.isEmpty && Builtin.List.listTooLong (items.size + items2.size)) = true) (hs1 : items.size ≤ sizeLine) (hs2 : items.size + items2.size ≤ sizeLine + 1) :
    Meets (Builtin.«list.extend» ⟨[.ref l, .ref b], []⟩) (fun _ R s => s.heap.get? l = some { cls := .type "list", dict := none, data := .seq items n, slots := #[] } ∧ s.heap.get? b = some { cls := .type "tuple", dict := dd, data := .seq items2 n2, slots := sl } ∧ R (.ok (.ret Value.none)) { s with heap := s.heap.update l (Obj.mapSeq fun x => x ++ items2), toks := s.toks }) :=
  .of_wp fun prog w A R s h => by
    obtain ⟨hp, g, d, tk, os⟩ := s; obtain ⟨hl, hb, h⟩ := h; have f1 := AutoSeq1.idx_int; have f2 := AutoSeq1.sub_tuple_tuple; have f3 := AutoSeq1.sub_list_list; have f4 := AutoSeq1.sub_tuple_list; have f5 := AutoSeq1.sub_list_tuple;
    have hz' : (items ++ items2).size ≤ sizeLine + 1 := by rw [Array.size_append]; exact hs2
    wp_walk using (wpAny_updateSeq hl rfl (hz := hs1) (_hz' := hz')), wpAny_loadPart' hl, wpAny_loadPart' hb; exact ⟨_, rfl, h⟩
def rExtendT (K : PySem.W.Frag) : V → List V → Hp → VK → Prop := fun x vs H Q => ∃ l b xs zs, x = .ref l ∧ vs = [.ref b] ∧ H l = some (.lst xs) ∧ SqT K H b zs ∧ xs.length + zs.length ≤ sizeLine ∧ Q .non (upd H l (.lst (xs ++ zs)))
theorem mt_extendT : MtM X "list.extend" (rExtendT X.K) := by
  intro pins s σ H x vs v us Q I rx rv h
  obtain ⟨l, b, xs, zs, rfl, rfl, hH, hB, hz, q⟩ := h
  cases rx
  obtain ⟨u, rfl, ru⟩ := rv.one
  cases ru
  obtain ⟨z, its, n, r, hl, e⟩ := I.lstM hH
  obtain ⟨its2, r2, ⟨⟨cls, dd, data, sl⟩, e2, hc, n2, hd⟩, hl2⟩ := I.tuple hB
  simp only at hc hd
  subst hc hd
  have h2 := r2.length
  have h1 := r.length
  have hsz : its.toArray.size + its2.toArray.size ≤ sizeLine := by rw [List.size_toArray, List.size_toArray]; omega
  have hlong : ¬ (!its.toArray.isEmpty && Builtin.List.listTooLong (its.toArray.size + its2.toArray.size)) = true := by
    rw [notLongL hsz, Bool.and_false]
    exact Bool.false_ne_true
  refine call_meets F.slot_list_extend ⟨_, e, rfl⟩ F.entry_list_extend (F.args_list_extend_2 _ _)
    (list_extend_tupD l its.toArray n b its2.toArray n2 dd sl hlong (by rw [List.size_toArray]; omega) (by omega)) ⟨e, e2, ?_⟩
  refine ⟨.non, _, I.lset (its' := its ++ its2) hH e (by simp) (r.append r2) ?_, rfl, q⟩
  rw [List.length_append]
  omega
/-- l.count(True), l a list of bools -/
def eqbt (v : Value) : Bool := match v with
  | .bool b => b
  | _ => false
theorem eqbt_count : ∀ {ys : List Bool} {us : List Value}, Vals (ys.map V.bl) us → us.countP eqbt = ys.count true
  | [], _, .nil => rfl
  | y :: ys, _, .cons r rt => by
    cases r
    have ih := eqbt_count rt
    rw [List.countP_cons, List.count_cons, ih]
    cases y <;> rfl
theorem eqbt_at {A : Around} {s : Shared} : ∀ {ys : List Bool} {us : List Value}, Vals (ys.map V.bl) us → ∀ y ∈ us, SeqAt.EqAt A s y (.bool true) (eqbt y)
  | [], _, .nil, _, h => nomatch h
  | y :: ys, _, .cons r rt, u, h => by
    rcases List.mem_cons.mp h with e | e
    · subst e
      cases r
      have z := SeqAt.EqAt.bool_bool (A := A) (s := s) y true
      cases y <;> exact z
    · exact eqbt_at rt u e
def rCntB (K : PySem.W.Frag) : V → List V → Hp → VK → Prop := fun x xs H Q => ∃ (p : Addr) (ys : List Bool), x = .ref p ∧ xs = [.bl true] ∧ SqL K H p (ys.map V.bl) ∧ Q (.int (ys.count true : Nat)) H
theorem mt_bcount : MtR X "list.count" (rCntB X.K) := by
  intro pins s σ H x xs v us Q I rx rxs h
  obtain ⟨p, ys, rfl, rfl, hs, q⟩ := h
  cases rx
  obtain ⟨u, rfl, ru⟩ := rxs.one
  cases ru
  obtain ⟨its, rv, ⟨⟨cls, dd, data, sl⟩, n, ho, hc, hdn, hd⟩, hlen⟩ := I.list hs
  simp only at hc hd
  subst hc hd
  refine call_meets PySem.F.slot_list_count ⟨_, ho, rfl⟩ PySem.F.entry_list_count (PySem.F.args_list_count_2 _ _)
    (SeqAt.list_countAt p its.toArray n dd sl (.bool true) eqbt) ⟨ho, fun y hy => eqbt_at rv y (by simpa using hy), ?_⟩
  have ec : its.toArray.toList.countP eqbt = ys.count true := eqbt_count rv
  refine ⟨.int (ys.count true : Nat), H, I.tok _, ⟨s.toks, ?_⟩, q⟩
  show Value.int ((its.toArray.toList.countP eqbt : Nat) : Int) s.toks = Value.int ((ys.count true : Nat) : Int) s.toks
  rw [ec]
/-- l[i], by values -/
theorem get_list : PGet X (rIxL X.K) := by
  intro pins s σ H x y v u Q I rx ry h
  obtain ⟨p, xs, i, z, rfl, rfl, hq, he, q⟩ := h
  cases rx
  obtain ⟨t, rfl⟩ := ry
  obtain ⟨its, r, pl, hz⟩ := I.list hq
  obtain ⟨j, h1, h2, h3, h4, h5⟩ := atI_get he
  obtain ⟨w, ew, rw'⟩ := r.get h2
  have hl := r.length
  have hn := line63
  have fin : EP X pins σ Q w s := ⟨z, H, I, rw', q⟩
  by_cases h0 : 0 ≤ i
  · have hj : i.toNat = j := by
      rw [seqIndex_of h0 h5] at h1
      exact Option.some.inj h1
    exact wpAny_getItem_list pl.isList h0 (by omega) (by rw [hj]; simpa using ew) fin
  · have hj : (i + (its.toArray.size : Int)).toNat = j := by
      rw [seqIndex_neg (by omega) h4] at h1
      rw [List.size_toArray, ← hl]
      exact Option.some.inj h1
    exact wpAny_getItem_list_neg pl.isList (by omega) (by rw [List.size_toArray] <;> omega) (by omega) (by rw [hj]; simpa using ew) fin
/-- isinstance(e, c), e the exception that the suite holds, whatever it has in its dict -/
structure ExcD (K : PySem.W.Frag) (D : Addr) : Prop where
  c : ExcC K D
  cl : (PySem.W.clsIn K D).isSome = true
def rIsD (K : PySem.W.Frag) (a : Addr) (cls : Value) (d : Option Addr) : List V → Hp → VK → Prop := fun xs H Q => ∃ (D dd : Addr) (fs : List (Str × V)) (c : V) (cv : Value) (b : Bool), xs = [.ref a, c] ∧ cls = .ref D ∧ d = some dd ∧ H dd = some (.xd fs) ∧ ExcD K D ∧ (∀ u, RelV c u → u = cv) ∧ PySem.W.kitOne K (.ref D) cv = some b ∧ Q (.bl b) H
theorem call_isD {a : Addr} {oe : Obj} {cls : Value} {d : Option Addr} {pn : List (Addr × Obj)} (hz : Zc cls d oe) (hf : ∃ vs, oe.data = .fields vs) : CallR (X.suite a ((a, oe) :: pn)) (.builtin "isinstance") (rIsD X.K a cls d) := by
  intro pins s σ H xs us Q I r h
  obtain ⟨D, dd, fs, c, cv, b, rfl, ec, ed, ea, C, hcv, e, q⟩ := h
  subst ec ed
  cases r with
  | cons rx rr =>
    cases rr with
    | cons rt rr =>
      cases rr
      cases rx
      have ec := hcv _ rt
      subst ec
      obtain ⟨hget, _⟩ := I.pin (a, oe) (List.mem_append.mpr (.inl List.mem_cons_self))
      obtain ⟨vs, hv⟩ := hf
      obtain ⟨mA, hns, hr⟩ : ObjOk X.prog X.w H s.heap dd (.xd fs) := I.hok dd _ ea
      obtain ⟨od, ho, hl⟩ := lookIn_ns hns
      have J : PySem.W.InstAt s.heap a oe D (some od) := ⟨hget, hz.1, by unfold PySem.W.notCls; rw [hv] <;> rfl, by rw [hz.2]; exact ho⟩
      exact PySem.W.kia_one (PySem.W.kitx_exc C.cl C.c.hg C.c.hk C.c.hs C.c.ha C.c.hn C.c.ht C.c.hm) I.kIn J e (fun z => nomatch z) fun tk => ⟨.bl b, H, I.kept (t' := tk) fun _ _ z => z, rfl, q⟩
end
end L2
end
section
set_option Elab.async false
set_option linter.all false
set_option maxRecDepth 100000
set_option maxHeartbeats 2000000
set_option autoImplicit false
namespace Sh
open PySem PySem.Spec PyProof.Rows L2
open C8 (pss_cut tCut)
open Evl (ixN_nat)
structure Bk (mg : Str → Option Value) : Prop extends Bl mg where
  b_zip : mg "zip" = none
  b_ValueError : mg "ValueError" = none
  c_HOLE : ∃ t, mg "HOLE" = some (.str "*" t)
def sV (l : List Str) : List V := l.map V.str
/-- the number of branches of a kind; 0 of what is no kind -/
def wR (rows : List Row) (z : Str) : Nat := match rows.find? (fun q => decide (q.1 = z)) with
  | some q => q.2.toNat
  | none => 0
/-- .. or -1 -/
def nmO (rows : List Row) (z : Str) : Int := match rows.find? (fun q => decide (q.1 = z)) with
  | some q => q.2
  | none => -1
theorem find_wL (rows : List Row) (z : Str) : valV (wL rows) (.inr z) = (rows.find? (fun q => decide (q.1 = z))).map fun q => V.int q.2 := by
  unfold valV wL
  rw [List.find?_map]
  have e : ((fun kv : Key × V => decide (kv.1 = Sum.inr z)) ∘ fun q : Row => ((.inr q.1 : Key), V.int q.2)) = fun q => decide (q.1 = z) := by
    funext q
    exact key_rr q.1 z
  rw [e, Option.map_map]
  rfl
theorem nm_case {rows : List Row} {m : Int} (R : ROk m rows) (z : Str) : (nmO rows z = -1 ∧ wR rows z = 0 ∧ valV (wL rows) (.inr z) = none ∧ ∀ q ∈ rows, q.1 ≠ z) ∨ (nmO rows z = ((wR rows z : Nat) : Int) ∧ wR rows z ≤ 3 ∧ valV (wL rows) (.inr z) = some (.int ((wR rows z : Nat) : Int)) ∧ ∃ q ∈ rows, q.1 = z) := by
  rw [find_wL]
  unfold nmO wR
  cases hf : rows.find? (fun q => decide (q.1 = z)) with
  | none => exact .inl ⟨rfl, rfl, rfl, fun q hq e => absurd (List.find?_eq_none.mp hf q hq) (by simp [e])⟩
  | some q =>
    have hm := List.mem_of_find?_eq_some hf
    have wd := R.wd q hm
    have e : ((q.2.toNat : Nat) : Int) = q.2 := by omega
    exact .inr ⟨e.symm, by show q.2.toNat ≤ 3; omega, by rw [Option.map_some]; show some (V.int q.2) = some (V.int ((q.2.toNat : Nat) : Int)); rw [e], q, hm, by have hp := List.find?_some hf; exact of_decide_eq_true hp⟩
theorem wR_le {rows : List Row} {m : Int} (R : ROk m rows) (z : Str) : wR rows z ≤ 3 := by
  rcases nm_case R z with h | h <;> omega
theorem get_wL {rows : List Row} {m : Int} (R : ROk m rows) (z : Str) : (valV (wL rows) (.inr z)).getD (.int 0) = .int ((wR rows z : Nat) : Int) := by
  rcases nm_case R z with h | h
  · rw [h.2.2.1, h.2.1]
    rfl
  · rw [h.2.2.1]
    rfl
theorem nm_nat {rows : List Row} {m : Int} (R : ROk m rows) (z : Str) : (nmO rows z).toNat = wR rows z := by
  rcases nm_case R z with h | h
  · rw [h.1, h.2.1]
    rfl
  · rw [h.1]
    exact Int.toNat_natCast _
theorem nm_of {rows : List Row} {m : Int} (R : ROk m rows) {z : Str} (h : ∃ q ∈ rows, q.1 = z) : nmO rows z = ((wR rows z : Nat) : Int) := by
  rcases nm_case R z with q | q
  · obtain ⟨x, hx, e⟩ := h
    exact absurd e (q.2.2.2 x hx)
  · exact q.1
theorem wR_mem {rows : List Row} {m : Int} (R : ROk m rows) {z : Str} (h : ∃ q ∈ rows, q.1 = z) : ∃ q ∈ rows, q.1 = z ∧ rows.find? (fun q => decide (q.1 = z)) = some q ∧ ((wR rows z : Nat) : Int) = q.2 ∧ wR rows z ≤ 3 := by
  obtain ⟨q, hq, e⟩ := h
  cases hf : rows.find? (fun q => decide (q.1 = z)) with
  | none => exact absurd (List.find?_eq_none.mp hf q hq) (by simp [e])
  | some q2 =>
    have hm := List.mem_of_find?_eq_some hf
    have hp := List.find?_some hf
    have wd := R.wd q2 hm
    have ew : wR rows z = q2.2.toNat := by unfold wR; rw [hf]
    exact ⟨q2, hm, of_decide_eq_true hp, rfl, by rw [ew]; omega, by rw [ew]; omega⟩
theorem val_wL {rows : List Row} {m : Int} (R : ROk m rows) {z : Str} (h : ∃ q ∈ rows, q.1 = z) : valV (wL rows) (.inr z) = some (.int ((wR rows z : Nat) : Int)) := by
  obtain ⟨q, _, _, hf, e, _⟩ := wR_mem R h
  rw [find_wL, hf, e]
  rfl
structure PlantOk (rows : List Row) (l : List Str) : Prop where
  f : Mth.forest (wR rows) l 1 = true
  k : ∀ z ∈ l, ∃ q ∈ rows, q.1 = z
  sz : l.length ≤ 2000
theorem PlantOk.pos {rows : List Row} {l : List Str} (x : PlantOk rows l) : 0 < l.length := List.length_pos_iff.mpr (Mth.forest_pos _ x.f)
/-- a stump -/
structure StumpOk (rows : List Row) (l : List Str) : Prop where
  f : Mth.forest (wR rows) l 1 = true
  k : ∀ z ∈ l, z = "*" ∨ ∃ q ∈ rows, q.1 = z
  sz : l.length ≤ 2000
theorem StumpOk.pos {rows : List Row} {l : List Str} (x : StumpOk rows l) : 0 < l.length := List.length_pos_iff.mpr (Mth.forest_pos _ x.f)
/-- the least place at which a row stops being one -/
def wO (rows : List Row) (hole : Bool) (z : Str) : Option Nat := if hole = true ∧ z = "*" then some 0 else if nmO rows z < 0 then none else some (wR rows z)
def fl (f : Str → Option Nat) : List Str → Nat → Nat → Option Nat
  | [], 0, _ => none
  | [], _ + 1, i => some i
  | _ :: _, 0, i => some i
  | z :: r, n + 1, i => match f z with
    | none => some i
    | some k => fl f r (n + k) (i + 1)
def fault (rows : List Row) (hole : Bool) (l : List Str) : Option Nat := fl (wO rows hole) l 1 0
theorem fl_ok {f : Str → Option Nat} {w : Str → Nat} : ∀ {l : List Str} {n i : Nat}, (∀ z k, f z = some k → w z = k) → fl f l n i = none → Mth.forest w l n = true ∧ ∀ z ∈ l, (f z).isSome = true
  | [], 0, _, _, _ => ⟨rfl, fun _ h => nomatch h⟩
  | [], _ + 1, _, _, h => nomatch h
  | _ :: _, 0, _, _, h => nomatch h
  | z :: r, n + 1, i, hw, h => by
    unfold fl at h
    cases e : f z with
    | none => rw [e] at h; cases h
    | some k =>
      rw [e] at h
      obtain ⟨h1, h2⟩ := fl_ok hw h
      refine ⟨?_, fun y hy => ?_⟩
      · unfold Mth.forest
        rw [hw z k e, Nat.add_comm]
        exact h1
      · rcases List.mem_cons.mp hy with q | q
        · rw [q, e]; rfl
        · exact h2 y q
theorem fl_le {f : Str → Option Nat} : ∀ {l : List Str} {n i j : Nat}, fl f l n i = some j → j ≤ i + l.length
  | [], 0, _, _, h => nomatch h
  | [], _ + 1, i, j, h => by cases h; exact Nat.le_refl _
  | _ :: _, 0, i, j, h => by cases h; omega
  | z :: r, n + 1, i, j, h => by
    unfold fl at h
    rw [List.length_cons]
    cases e : f z with
    | none => rw [e] at h; cases h; omega
    | some k => rw [e] at h; have := fl_le h; omega
theorem nm_star {rows : List Row} {m : Int} (R : ROk m rows) : nmO rows "*" = -1 := by
  rcases nm_case R "*" with q | q
  · exact q.1
  · obtain ⟨_, _, _, x, hx, e⟩ := q
    have n := (R.nm x hx).2.2 42 (by rw [e]; decide +kernel)
    omega
theorem wO_w {rows : List Row} {m : Int} (R : ROk m rows) {hole : Bool} {z : Str} {k : Nat} (h : wO rows hole z = some k) : wR rows z = k := by
  unfold wO at h
  split at h
  · rename_i c
    cases h
    rw [c.2]
    have star := nm_star R
    rcases nm_case R "*" with q | q
    · exact q.2.1
    · omega
  · split at h
    · cases h
    · cases h
      rfl
end Sh
end
section
set_option Elab.async false
set_option linter.all false
set_option maxRecDepth 100000
set_option maxHeartbeats 2000000
set_option autoImplicit false
namespace Sh
open PySem PySem.Spec PyProof.Rows L2
open C8 (pss_cut tCut)
open Evl (ixN_nat)
theorem str_at {l : List Str} {j : Nat} {z : Int} (h : j < l.length) (e : z = (j : Int)) : atI (l.map V.str) z = some (.str l[j]) := at_ofG e (by rw [List.getElem?_map, List.getElem?_eq_getElem h]; rfl)
theorem int_at {l : List Int} {j : Nat} {z x : Int} (h : l[j]? = some x) (e : z = (j : Int)) : atI (l.map V.int) z = some (.int x) := at_ofG e (by rw [List.getElem?_map, h]; rfl)
theorem ixz {n : Nat} {z : Int} {j : Nat} (h : j < n) (e : z = (j : Int)) : ixN n z = some j := by
  rw [e]
  exact ixN_nat h
theorem RowsAt.same {H H' : Hp} {r : Addr} {rows : List Row} (x : RowsAt H r rows) (s : Same H H') : RowsAt H' r rows := by
  obtain ⟨ts, a, b⟩ := x
  exact ⟨ts, s _ _ a, b.keep (TK.of_same s)⟩
/-! ### what may be raised -/
structure XA where
  T : Addr
  P : Addr
  S : Addr
  N : Addr
  U : Addr
  W : Addr
inductive Ex where
  | many
  | plant (i : Nat)
  | stump (i : Nat)
  | path (a : Addr)
  | kind (z : Str)
  | wrong (i j : Nat)
def Ex.cls (A : XA) : Ex → Addr
  | .many => A.T
  | .plant _ => A.P
  | .stump _ => A.S
  | .path _ => A.N
  | .kind _ => A.U
  | .wrong _ _ => A.W
def tmF : List (Str × V) := xfs ["what", "limit"] [.str "knots", .int 2000] []
def Ex.fs : Ex → List (Str × V)
  | .many => tmF
  | .plant i => xfs ["place"] [.int (i : Nat)] []
  | .stump i => xfs ["place"] [.int (i : Nat)] []
  | .path a => xfs ["path"] [.ref a] []
  | .kind z => xfs ["kind"] [.str z] []
  | .wrong i j => xfs ["wanted", "given"] [.int (i : Nat), .int (j : Nat)] []
def tmP : List V → Prop := fun vs => vs = [.str "knots", .int 2000]
def plP : List V → Prop := fun vs => ∃ i : Nat, vs = [.int (i : Nat)] ∧ i ≤ 10000
def npP : List V → Prop := fun vs => ∃ a, vs = [.ref a]
/-- a drawn word: short, of code points that are ones -/
def Kin (z : Str) : Prop := z.length ≤ 100 ∧ ∀ c ∈ z.cps.toList, c < 16 ^ 8
def ukP : List V → Prop := fun vs => ∃ z : Str, vs = [.str z] ∧ Kin z
def wrP : List V → Prop := fun vs => ∃ i j : Nat, vs = [.int (i : Nat), .int (j : Nat)] ∧ i ≤ 10000 ∧ j ≤ 10000
structure XS (P : Program) (w : World) (K : PySem.W.Frag) (mg : Str → Option Value) (A : XA) : Prop where
  xT : PySem.SupX.SupCls P w K mg "TooMany" A.T ["what", "limit"] tmP
  xS : PySem.SupX.SupCls P w K mg "InvalidStump" A.S ["place"] plP
  xU : PySem.SupX.SupCls P w K mg "UnknownKind" A.U ["kind"] ukP
  xW : PySem.SupX.SupCls P w K mg "WrongBranches" A.W ["wanted", "given"] wrP
/-- what is wanted where x is raised -/
def Rz (A : XA) (E : XK) (H : Hp) (x : Ex) : Prop := ∀ H' d, Same H H' → H' d = none → E (.ref (x.cls A)) (some d) (upd H' d (.xd x.fs))
theorem Rz.same {A : XA} {E : XK} {H H1 : Hp} {x : Ex} (h : Rz A E H x) (s : Same H H1) : Rz A E H1 x := fun H' d s' hd => h H' d (s.trans s') hd
def due (rows : List Row) (hole : Bool) (l : List Str) : Option Ex := if 2000 < l.length then some .many else (fault rows hole l).map (if hole = true then Ex.stump else Ex.plant)
/-- either way -/
def Way (A : XA) (E : XK) (H : Hp) (o : Option Ex) (ok : Prop) : Prop := match o with
  | none => ok
  | some x => Rz A E H x
theorem wO_some {rows : List Row} {m : Int} (R : ROk m rows) {hole : Bool} {z : Str} (h : (wO rows hole z).isSome = true) : (hole = true ∧ z = "*") ∨ ∃ q ∈ rows, q.1 = z := by
  unfold wO at h
  split at h
  · exact .inl ‹_›
  · rename_i c
    split at h
    · cases h
    · rename_i c2
      rcases nm_case R z with q | q
      · omega
      · exact .inr q.2.2.2
theorem due_plant {rows : List Row} {m : Int} (R : ROk m rows) {l : List Str} (h : due rows false l = none) : PlantOk rows l := by
  unfold due at h
  split at h
  · cases h
  · rename_i c
    have e : fault rows false l = none := by
      cases e : fault rows false l with
      | none => rfl
      | some i => rw [e] at h; cases h
    obtain ⟨h1, h2⟩ := fl_ok (w := wR rows) (fun z k q => wO_w R q) e
    exact ⟨h1, fun z hz => by rcases wO_some R (h2 z hz) with q | q; exact absurd q.1 (by decide); exact q, by omega⟩
theorem due_stump {rows : List Row} {m : Int} (R : ROk m rows) {l : List Str} (h : due rows true l = none) : StumpOk rows l := by
  unfold due at h
  split at h
  · cases h
  · rename_i c
    have e : fault rows true l = none := by
      cases e : fault rows true l with
      | none => rfl
      | some i => rw [e] at h; cases h
    obtain ⟨h1, h2⟩ := fl_ok (w := wR rows) (fun z k q => wO_w R q) e
    exact ⟨h1, fun z hz => by rcases wO_some R (h2 z hz) with q | q; exact .inl q.2; exact .inr q, by omega⟩
def lvs (hole : Bool) : List V := if hole = true then [.str "*"] else []
def spSize (K : PySem.W.Frag) (CT : Addr) : Sp := fun vs H Q E => ∃ (t : Addr) (xs : List V), vs = [.ref t] ∧ (SqL K H t xs ∨ SqT K H t xs) ∧ (xs.length ≤ 2000 → Q .non H) ∧ (2000 < xs.length → ∀ d, H d = none → E (.ref CT) (some d) (upd H d (.xd tmF)))
def ansF : Option Nat → V
  | none => .non
  | some i => .int (i : Nat)
def spFault (C : Addr) : Sp := fun vs H Q _ => ∃ (b t e : Addr) (rows : List Row) (l : List Str) (hole : Bool), vs = [.ref b, .ref t, .ref e] ∧ BedAt C H b rows ∧ ROk 8 rows ∧ Tq H t (sV l) ∧ l.length ≤ 6000 ∧ Tq H e (lvs hole) ∧ ∀ H', Same H H' → Q (ansF (fault rows hole l)) H'
/-- a check of a row -/
def spChk (C : Addr) (A : XA) (hole : Bool) : Sp := fun vs H Q E => ∃ (b t : Addr) (rows : List Row) (l : List Str), vs = [.ref b, .ref t] ∧ BedAt C H b rows ∧ ROk 8 rows ∧ Tq H t (sV l) ∧ l.length ≤ 6000 ∧ Way A E H (due rows hole l) (∀ H', Same H H' → Q .non H')
abbrev s_check_size : Stmt := top 13
abbrev N_check_size : List Str := ["entries"]
theorem sc_check_size : FnScope N_check_size ["entries"] (defScope s_check_size) := ⟨rfl, rfl, rfl, by decide +kernel, rfl, by decide +kernel, by decide +kernel⟩
abbrev s_fault_place : Stmt := top 14
abbrev N_fault_place : List Str := ["bed", "entries", "leaves", "missing", "place", "entry"]
theorem sc_fault_place : FnScope N_fault_place ["bed", "entries", "leaves"] (defScope s_fault_place) := ⟨rfl, rfl, rfl, by decide +kernel, rfl, by decide +kernel, by decide +kernel⟩
abbrev s_check_stump : Stmt := top 19
abbrev N_check_stump : List Str := ["bed", "stump", "place"]
theorem sc_check_stump : FnScope N_check_stump ["bed", "stump"] (defScope s_check_stump) := ⟨rfl, rfl, rfl, by decide +kernel, rfl, by decide +kernel, by decide +kernel⟩
section
variable {P : Program} {w : World} {K : PySem.W.Frag} {mg : Str → Option Value} {base : Heap} {C : Addr} {A : XA}
theorem ok_check_size (T : Bk mg) (x : XS P w K mg A) (D : Def0 K mg "check_size" s_check_size) : DefOk P w K mg base (L2.CX P w) 2 "check_size" (spSize K A.T) := by
  have x_TooMany := x.xT
  refine D.okX sc_check_size (fun vs H Q E h => ?_) (fun _ _ _ _ _ _ us hl => match us, hl with | [_], _ => rfl) (fun f cdv A outer s H vs Q E hr h => ?_)
  · obtain ⟨t, xs, rfl, _⟩ := h
    rfl
  · obtain ⟨t, xs, rfl, ht, k1, k2⟩ := h
    refine ⟨_, (pss_one (ps_if (pt_cmpR op_gt (pe_callB call_len_seq (by rfl) T.b_len boot_len (pa_cons (pv 0) pa_nil)) (pe_cI (by rfl) T.c_MOST_KNOTS) (nomark _))
        (pss_one (ps_raiseSup rfl x_TooMany hr (takes_of rfl rfl rfl rfl) (pa_cons pe_str (pa_cons (pe_cI (by rfl) T.c_MOST_KNOTS) pa_nil))))
        pss_nil)), ?_⟩
    refine ⟨_, rfl, t, _, rfl, ht, _, _, rfl, rfl, _, rfl, ?_⟩
    refine ite2 (fun h => ?_) (fun h => ?_)
    · exact ⟨rfl, rfl, fun d hd => k2 (by have := of_decide_eq_true h; omega) d hd⟩
    · exact k1 (by have : ¬ (2000 : Int) < ((xs.length : Nat) : Int) := fun q => h (decide_eq_true q); omega)
theorem ok_fault_place (T : Bk mg) (B : BedT K C) (D : Def0 K mg "fault_place" s_fault_place) : DefOk P w K mg base CX0 1 "fault_place" (spFault C) := by
  refine D.ok sc_fault_place (fun vs H Q E h => ?_) (fun _ _ _ _ _ _ us hl => match us, hl with | [_, _, _], _ => rfl) (fun f cdv A outer s H vs Q E hr h => ?_)
  · obtain ⟨b, t, e, rows, l, hole, rfl, _⟩ := h
    rfl
  · obtain ⟨b, t, lv, rows, l, hole, rfl, hB, R, ht, hsz, he, k⟩ := h
    have hu := hu_of hr
    refine ⟨_, (pss_cons (ps_set (i := 3) sc_fault_place.nd rfl (Or.inl rfl) pe_int)
      (pss_cons (ps_for PassesOwn.never rfl (pi_enumT (by rfl) T.b_enumerate (pa_cons (pv 1) pa_nil)) (pg_tup (by rfl) (pgs_cons (pg_name (i := 4) sc_fault_place.nd rfl (Or.inl rfl)) (pgs_cons (pg_name (i := 5) sc_fault_place.nd rfl (Or.inl rfl)) pgs_nil)))
        (pss_cons (ps_if (pt_cmpR op_eq (pv 3) pe_int (nomark _))
          (pss_one (ps_ret (pv 4)))
          pss_nil)
        (pss_one (ps_if (pt_cmpR op_in_seq (pv 5) (pv 2) (by rfl))
          (pss_one (ps_set (i := 3) sc_fault_place.nd rfl (Or.inl rfl) (pe_op op_sub (pv 3) pe_int)))
          (pss_one (ps_if (pt_cmp (pc_din hu (pv 5) (pe_fld (pv 0) rfl)))
            (pss_one (ps_set (i := 3) sc_fault_place.nd rfl (Or.inl rfl) (pe_op op_add (pe_op op_sub (pv 3) pe_int) (pe_dget hu (pe_fld (pv 0) rfl) (pv 5) (fun _ _ => rfl)))))
            (pss_one (ps_ret (pv 4)))))))))
      (pss_one (ps_ret (pe_ifExp (pt_cmpR op_eq (pv 3) pe_int (nomark _)) pe_non (pe_callB call_len_seq (by rfl) T.b_len boot_len (pa_cons (pv 1) pa_nil))))))), ?_⟩
    refine ⟨_, rfl, t, _, rfl, ht.sq, for_it (walk_enumT (xs := sV l)) (fun i σ H' => ∃ (x y : Option V) (n : Nat), σ = [some (.ref b), some (.ref t), some (.ref lv), some (.int (n : Nat)), x, y] ∧ Same H H' ∧ fl (wO rows hole) (l.drop i) n i = fault rows hole l)
      ⟨none, none, 1, rfl, Same.refl H, rfl⟩ (fun i σ H' _ ⟨_, _, _, _, q, _⟩ => (ht.same q).sq) ?_ ?_⟩
    · rintro i v σ H1 H2 hi ⟨x, y, n, rfl, s1, hf⟩ ⟨P1, v1, v2, rfl, hP1, rfl, e1, e2⟩
      have hil : i < l.length := by unfold sV at hi; rw [List.length_map] at hi; exact hi
      cases e1
      have e2' : (l.map V.str)[i]? = some v2 := e2
      rw [List.getElem?_map, List.getElem?_eq_getElem hil] at e2'
      cases e2'
      have s2 := s1.upd_new (o := .tup [.int ((i : Nat) : Int), .str l[i]]) hP1
      rw [List.drop_eq_getElem_cons hil] at hf
      obtain ⟨dx, r, kk, ww, rk, ts, h1, h2, h3, h4, h5, h6⟩ := hB.same s2
      refine ⟨P1, _, rfl, SqT.of upd_same, rfl, _, _, rfl, _, _, rfl, rfl, ?_⟩
      refine ⟨_, rfl, rfl, _, rfl, ite2 (fun e => ?_) (fun e => ?_)⟩
      · have z := V.int.inj (of_decide_eq_true e)
        have z2 : n = 0 := by omega
        subst z2
        have q : some i = fault rows hole l := hf
        have k2 := k _ s2
        rw [← q] at k2
        exact ⟨_, rfl, k2⟩
      · obtain ⟨m, rfl⟩ : ∃ m, n = m + 1 := ⟨n - 1, by
          have : n ≠ 0 := fun q => e (by rw [q]; exact decide_eq_true rfl)
          omega⟩
        have hf2 : (match wO rows hole l[i] with | none => some i | some k => fl (wO rows hole) (l.drop (i + 1)) (m + k) (i + 1)) = fault rows hole l := hf
        have ein : inV (.str l[i]) (lvs hole) = decide (hole = true ∧ l[i] = "*") := by
          cases hole
          · simp [lvs]
            rfl
          · show inV (.str l[i]) ([("*" : Str)].map V.str) = _
            rw [inV_str]
            simp
        refine ⟨_, rfl, _, rfl, lv, _, rfl, .inr ((he.same s2).sq), rfl, (by cases hole <;> rfl), _, rfl, ?_⟩
        rw [ein]
        refine ite2 (fun c => ?_) (fun c => ?_)
        · have c2 := of_decide_eq_true c
          unfold wO at hf2
          rw [if_pos c2] at hf2
          refine ⟨_, rfl, _, _, rfl, rfl, some (.int ((i : Nat) : Int)), some (.str l[i]), m, ?_, s2, hf2⟩
          rw [show ((m : Nat) : Int) = ((m + 1 : Nat) : Int) - 1 by omega]
          rfl
        · have c2 : ¬ (hole = true ∧ l[i] = "*") := fun q => c (decide_eq_true q)
          refine ⟨_, rfl, _, rfl, b, C, dx, _, _, rfl, h1, B.cl, B.nW, lk_widths _ _ _ _, ww, _, rfl, DGet.k (k := .inr l[i]) h5, _, rfl, ?_⟩
          rcases nm_case R l[i] with q | q
          · rw [q.2.2.1]
            refine ifn (by decide) ?_
            unfold wO at hf2
            rw [if_neg c2, if_pos (show nmO rows l[i] < 0 by omega)] at hf2
            have k2 := k _ s2
            rw [← hf2] at k2
            exact ⟨_, rfl, k2⟩
          · rw [q.2.2.1]
            refine ifp rfl ?_
            unfold wO at hf2
            rw [if_neg c2, if_neg (show ¬ nmO rows l[i] < 0 by omega)] at hf2
            refine ⟨_, rfl, _, _, rfl, rfl, _, rfl, b, C, dx, _, _, rfl, h1, B.cl, B.nW, lk_widths _ _ _ _, _, rfl, ww, _, rfl, (by rw [← q.2.2.1]; exact DGet.k (k := .inr l[i]) h5), _, _, rfl, rfl, ?_⟩
            refine ⟨some (.int ((i : Nat) : Int)), some (.str l[i]), m + wR rows l[i], ?_, s2, hf2⟩
            rw [show ((m + wR rows l[i] : Nat) : Int) = ((m + 1 : Nat) : Int) - 1 + ((wR rows l[i] : Nat) : Int) by omega]
            rfl
    · rintro σ H1 ⟨x, y, n, rfl, s1, hf⟩
      have el : (sV l).length = l.length := by simp [sV]
      rw [el, List.drop_length] at hf
      have k2 := k _ s1
      cases n with
      | zero =>
        have q : none = fault rows hole l := hf
        rw [← q] at k2
        exact ⟨_, rfl, rfl, _, rfl, ifp (by simp) k2⟩
      | succ m =>
        have q : some l.length = fault rows hole l := hf
        rw [← q] at k2
        refine ⟨_, rfl, rfl, _, rfl, ifn (fun c => ?_) ⟨_, rfl, t, _, rfl, .inr ((ht.same s1).sq), ?_⟩⟩
        · have := V.int.inj (of_decide_eq_true c)
          omega
        · rw [el]
          exact k2
theorem fault_le {rows : List Row} {hole : Bool} {l : List Str} {i : Nat} (h : fault rows hole l = some i) : i ≤ l.length := by
  have := fl_le h
  omega
theorem ok_check_stump (T : Bk mg) (x : XS P w K mg A) (c_check_size : DefOk P w K mg base (L2.CX P w) 2 "check_size" (spSize K A.T)) (c_fault_place : DefOk P w K mg base CX0 1 "fault_place" (spFault C)) (D : Def0 K mg "check_stump" s_check_stump) : DefOk P w K mg base (L2.CX P w) 3 "check_stump" (spChk C A true) := by
  have x_InvalidStump := x.xS
  refine D.okX sc_check_stump (fun vs H Q E h => ?_) (fun _ _ _ _ _ _ us hl => match us, hl with | [_, _], _ => rfl) (fun f cdv A outer s H vs Q E hr h => ?_)
  · obtain ⟨b, t, rows, l, rfl, _⟩ := h
    rfl
  · obtain ⟨b, t, rows, l, rfl, hB, R, ht, hsz, k⟩ := h
    refine ⟨_, (pss_cons (ps_expr (pe_d c_check_size (hr.mono (by decide)) (passes_call (takes_of rfl rfl rfl rfl) fun _ _ _ _ h => h) (pa_cons (pv 1) pa_nil)))
      (pss_cons (ps_set (i := 2) sc_check_stump.nd rfl (Or.inl rfl) (pe_d c_fault_place (hr.mono (by decide)) pass0 (pa_cons (pv 0) (pa_cons (pv 1) (pa_cons (pe_tup (pa_cons (pe_cS (by rfl) T.c_HOLE) pa_nil)) pa_nil)))))
      (pss_one (ps_if (pt_cmpR op_notN (pv 2) pe_non (nomark _))
        (pss_one (ps_raiseSup rfl x_InvalidStump hr (takes_of rfl rfl rfl rfl) (pa_cons (pv 2) pa_nil)))
        pss_nil)))), ?_⟩
    have el : (sV l).length = l.length := by simp [sV]
    refine ⟨_, rfl, t, _, rfl, .inr ht.sq, fun hle => ?_, fun hgt d hd => ?_⟩
    · rw [el] at hle
      unfold due at k
      rw [if_neg (by omega)] at k
      refine ⟨_, rfl, _, rfl, le_line (show 1 ≤ 100000 by decide), fun e he => ?_⟩
      have s1 := (Same.refl H).upd_new (o := .tup [.str "*"]) he
      refine ⟨b, t, e, rows, l, true, rfl, hB.same s1, R, (ht.same s1), hsz, .of upd_same, fun H' s2 => ?_⟩
      have s3 := s1.trans s2
      cases hf : fault rows true l with
      | none =>
        rw [hf] at k
        exact ⟨_, rfl, rfl, _, rfl, ifn (by simp [ansF]) (k _ s3)⟩
      | some i =>
        rw [hf] at k
        refine ⟨_, rfl, rfl, _, rfl, ifp (by simp [ansF]) ⟨_, rfl, ⟨i, rfl, by have := fault_le hf; omega⟩, rfl, fun d hd => k _ d s3 hd⟩⟩
    · rw [el] at hgt
      unfold due at k
      rw [if_pos hgt] at k
      exact k _ d (Same.refl H) hd
end
end Sh
end
section
set_option Elab.async false
set_option linter.all false
set_option maxRecDepth 100000
set_option maxHeartbeats 2000000
set_option autoImplicit false
namespace Mth
/-- the starts of the first n branches above p -/
def starts {α : Type} (w : α → Nat) (l : List α) (p n : Nat) : List Int := (List.range n).map fun j => ((nxs w l (p + 1) j : Nat) : Int)
theorem starts_len {α : Type} (w : α → Nat) (l : List α) (p n : Nat) : (starts w l p n).length = n := by simp [starts]
theorem starts_succ {α : Type} (w : α → Nat) (l : List α) (p n : Nat) : starts w l p (n + 1) = starts w l p n ++ [((nxs w l (p + 1) n : Nat) : Int)] := by
  simp [starts, List.range_succ]
theorem starts_get {α : Type} (w : α → Nat) (l : List α) (p : Nat) {n j : Nat} (h : j < n) : (starts w l p n)[j]? = some ((nxs w l (p + 1) j : Nat) : Int) := by
  simp [starts, h]
theorem kids_drop (p : List Nat) {n j : Nat} (h : j < n) : (kids p n).drop (n - (j + 1)) = (p ++ [n - 1 - j]) :: (kids p n).drop (n - j) := by
  have e : n - (j + 1) < (kids p n).length := by rw [kids_len]; omega
  rw [List.drop_eq_getElem_cons e, show n - (j + 1) + 1 = n - j by omega]
  have q := kids_get (p := p) (n := n) (t := n - 1 - j) (by omega)
  rw [show n - 1 - j = n - (j + 1) by omega, List.getElem?_eq_getElem e] at q
  rw [Option.some.inj q, show n - 1 - j = n - (j + 1) by omega]
theorem forest_le {α : Type} (w : α → Nat) : ∀ (l : List α) (n : Nat), forest w l n = true → n ≤ l.length
  | [], n, h => by rw [forest_nil w h]; exact Nat.le_refl _
  | k :: r, 0, _ => Nat.zero_le _
  | k :: r, n + 1, h => by
    have q := forest_le w r (w k + n) h
    rw [List.length_cons]
    omega
theorem stk_le {α : Type} (w : α → Nat) {l : List α} (h : forest w l 1 = true) {i : Nat} (hi : i ≤ l.length) : (stk w l i).length ≤ l.length := by
  have q := forest_le w _ _ (stk_len w h i hi).2
  rw [List.length_drop] at q
  omega
theorem stk_dep {α : Type} (w : α → Nat) {l : List α} (h : forest w l 1 = true) : ∀ i, i ≤ l.length → ∀ p ∈ stk w l i, p.length ≤ i
  | 0, _, p, hp => by
    have e : p = [] := List.mem_singleton.mp hp
    rw [e]
    exact Nat.le_refl 0
  | i + 1, hi, p, hp => by
    obtain ⟨st, e1, e2⟩ := stk_step w h (i := i) (by omega)
    have ih := stk_dep w h i (by omega)
    rw [e2] at hp
    rcases List.mem_append.mp hp with q | q
    · unfold kids at q
      obtain ⟨j, _, rfl⟩ := List.mem_map.mp q
      have z := ih (pth w l i) (by rw [e1]; exact List.mem_cons_self)
      rw [List.length_append]
      exact Nat.succ_le_succ z
    · have z := ih p (by rw [e1]; exact List.mem_cons_of_mem _ q)
      omega
theorem pth_dep {α : Type} (w : α → Nat) {l : List α} (h : forest w l 1 = true) {i : Nat} (hi : i < l.length) : (pth w l i).length ≤ i := by
  obtain ⟨st, e1, e2⟩ := stk_step w h hi
  exact stk_dep w h i (Nat.le_of_lt hi) _ (by rw [e1]; exact List.mem_cons_self)
end Mth
namespace Sh
open PySem PySem.Spec PyProof.Rows L2
open C8 (pss_cut tCut)
open Evl (ixN_nat)
structure WfOk (rows : List Row) (l : List Str) : Prop where
  f : Mth.forest (wR rows) l 1 = true
  sz : l.length ≤ 2000
theorem PlantOk.wf {rows : List Row} {l : List Str} (x : PlantOk rows l) : WfOk rows l := ⟨x.f, x.sz⟩
theorem StumpOk.wf {rows : List Row} {l : List Str} (x : StumpOk rows l) : WfOk rows l := ⟨x.f, x.sz⟩
/-- a list of the ends -/
def EndsAt (H : Hp) (p : Addr) (rows : List Row) (l : List Str) : Prop := H p = some (.lst ((Mth.ends (wR rows) l).map V.int))
def spEnds (C : Addr) : Sp := fun vs H Q _ => ∃ (b t : Addr) (rows : List Row) (l : List Str), vs = [.ref b, .ref t] ∧ BedAt C H b rows ∧ ROk 8 rows ∧ Tq H t (l.map V.str) ∧ WfOk rows l ∧ ∀ H' p, Same H H' → H p = none → EndsAt H' p rows l → Q (.ref p) H'
theorem row_at {rows : List Row} {m : Int} (R : ROk m rows) {i : Nat} (h : i < rows.length) : ((wR rows (rows[i]).1 : Nat) : Int) = (rows[i]).2 := by
  obtain ⟨q, hq, e, hf, ew, _⟩ := wR_mem R ⟨rows[i], List.getElem_mem h, rfl⟩
  obtain ⟨j, hj, ej⟩ := List.mem_iff_getElem.mp hq
  have h1 : (rows.map (·.1))[j]'(by rw [List.length_map]; exact hj) = (rows.map (·.1))[i]'(by rw [List.length_map]; exact h) := by
    rw [List.getElem_map, List.getElem_map, ej, e]
  have e2 := (List.getElem_inj R.nd).mp h1
  subst e2
  rw [ew, ← ej]
/-- tuples of what f says -/
def TsAt {α : Type} (f : α → List V) (H : Hp) (ts : List Addr) (xs : List α) : Prop := ts.length = xs.length ∧ ∀ (i : Nat) (t : Addr) (x : α), ts[i]? = some t → xs[i]? = some x → Tq H t (f x)
theorem TsAt.keep {α : Type} {f : α → List V} {H H' : Hp} {ts : List Addr} {xs : List α} (x : TsAt f H ts xs) (k : TQ H H') : TsAt f H' ts xs := ⟨x.1, fun i t q a b => k _ _ (x.2 i t q a b)⟩
theorem TsAt.nil {α : Type} {f : α → List V} {H : Hp} : TsAt f H [] [] := ⟨rfl, fun i t x a => by simp at a⟩
theorem TsAt.snoc {α : Type} {f : α → List V} {H : Hp} {ts : List Addr} {xs : List α} {t : Addr} {q : α} (x : TsAt f H ts xs) (h : Tq H t (f q)) : TsAt f H (ts ++ [t]) (xs ++ [q]) := by
  refine ⟨by rw [List.length_append, List.length_append, x.1]; rfl, fun i u y a b => ?_⟩
  by_cases e : i < ts.length
  · rw [List.getElem?_append_left e] at a
    rw [List.getElem?_append_left (by rw [← x.1]; exact e)] at b
    exact x.2 i u y a b
  · rw [List.getElem?_append_right (by omega)] at a
    rw [List.getElem?_append_right (by rw [← x.1]; omega), ← x.1] at b
    have z : i - ts.length = 0 := by
      have := lt_of_get a
      simp at this
      omega
    rw [z] at a b
    cases a
    cases b
    exact h
theorem TsAt.pop {α : Type} {f : α → List V} {H : Hp} {ts : List Addr} {xs : List α} {q : α} (x : TsAt f H ts (xs ++ [q])) : ∃ t, ts[ts.length - 1]? = some t ∧ TsAt f H ts.dropLast xs ∧ Tq H t (f q) ∧ ts = ts.dropLast ++ [t] := by
  have hl : ts.length = xs.length + 1 := by rw [x.1, List.length_append]; rfl
  have hi : ts.length - 1 < ts.length := by omega
  refine ⟨ts[ts.length - 1], List.getElem?_eq_getElem hi, ⟨by rw [List.length_dropLast]; omega, fun i t y a b => ?_⟩, x.2 (ts.length - 1) _ _ (List.getElem?_eq_getElem hi) (by rw [hl]; simp), ?_⟩
  · have hb := lt_of_get b
    rw [List.getElem?_dropLast] at a
    rw [if_pos (by omega)] at a
    exact x.2 i t y a (by rw [List.getElem?_append_left hb]; exact b)
  · have hn : ts ≠ [] := fun e => by rw [e] at hl; simp at hl
    have := List.dropLast_concat_getLast hn
    rw [List.getLast_eq_getElem] at this
    exact this.symm
theorem TsAt.at {α : Type} {f : α → List V} {H : Hp} {ts : List Addr} {xs : List α} (x : TsAt f H ts xs) {i : Nat} (h : i < xs.length) : ∃ t, ts[i]? = some t ∧ (ts.map V.ref)[i]? = some (.ref t) ∧ Tq H t (f xs[i]) := by
  have h2 : i < ts.length := by rw [x.1]; exact h
  exact ⟨ts[i], List.getElem?_eq_getElem h2, by rw [List.getElem?_map, List.getElem?_eq_getElem h2]; rfl, x.2 i _ _ (List.getElem?_eq_getElem h2) (List.getElem?_eq_getElem h)⟩
def pV (p : List Nat) : List V := p.map fun n => V.int ((n : Nat) : Int)
theorem catA_of {K : PySem.W.Frag} {H : Hp} {a b : Addr} {xs ys : List V} {Q : VK} (ha : Tq H a xs) (hb : Tq H b ys) (hl : xs.length + ys.length ≤ 100000) (k : ∀ r H', Same H H' → Tq H' r (xs ++ ys) → Q (.ref r) H') : rCatA K (.ref a) (.ref b) H Q := by
  refine ⟨a, b, xs, ys, rfl, rfl, ha.sq, hb.sq, le_line hl, fun e => k b H (Same.refl H) (by rw [e]; exact hb), fun _ e => k a H (Same.refl H) (by rw [e, List.append_nil]; exact ha), fun _ _ p hp => k p _ ((Same.refl H).upd_new hp) (.of upd_same)⟩
theorem slA_of {K : PySem.W.Frag} {H : Hp} {a : Addr} {xs : List V} {Q : VK} {i j : Nat} (ha : Tq H a xs) (hj : j ≤ xs.length) (hi : i ≤ j) (k : ∀ r H', Same H H' → Tq H' r ((xs.drop i).take (j - i)) → Q (.ref r) H') : rSlA K (.ref a) (some (i : Int)) (some (j : Int)) H Q := by
  have e1 : HT.sIx xs.length 0 (some (i : Int)) = i := by rw [HT.sIx_nat]; omega
  have e2 : HT.sIx xs.length xs.length (some (j : Int)) = j := by rw [HT.sIx_nat]; omega
  refine ⟨a, xs, rfl, ha.sq, fun h => ?_, fun _ p hp => ?_⟩
  · rw [e1, e2] at h
    refine k a H (Same.refl H) ?_
    rw [h.1, h.2, List.drop_zero, Nat.sub_zero, List.take_length]
    exact ha
  · have hc : cutV xs (some (i : Int)) (some (j : Int)) = (xs.drop i).take (j - i) := by
      unfold cutV
      rw [e1, e2]
    rw [hc]
    exact k p _ ((Same.refl H).upd_new hp) (.of upd_same)
def spStarts (C : Addr) : Sp := fun vs H Q _ => ∃ (b t e : Addr) (p : Nat) (rows : List Row) (l : List Str) (hp : p < l.length), vs = [.ref b, .ref t, .ref e, .int ((p : Nat) : Int)] ∧ BedAt C H b rows ∧ ROk 8 rows ∧ Tq H t (l.map V.str) ∧ WfOk rows l ∧ EndsAt H e rows l ∧
  ∀ H' q, Same H H' → H q = none → H' q = some (.lst ((Mth.starts (wR rows) l p (wR rows l[p])).map V.int)) → Q (.ref q) H'
/-- a list of tuples, the paths of all knots -/
def PthsL (H : Hp) (q : Addr) (rows : List Row) (l : List Str) : Prop := ∃ ts, H q = some (.lst (ts.map V.ref)) ∧ TsAt pV H ts ((List.range l.length).map (Mth.pth (wR rows) l))
def spPaths (C : Addr) : Sp := fun vs H Q _ => ∃ (b t : Addr) (rows : List Row) (l : List Str), vs = [.ref b, .ref t] ∧ BedAt C H b rows ∧ ROk 8 rows ∧ Tq H t (l.map V.str) ∧ WfOk rows l ∧ ∀ H' q, Same H H' → H q = none → PthsL H' q rows l → Q (.ref q) H'
abbrev s_ends_of : Stmt := top 15
abbrev N_ends_of : List Str := ["bed", "tree", "ends", "place", "end", "_"]
theorem sc_ends_of : FnScope N_ends_of ["bed", "tree"] (defScope s_ends_of) := ⟨rfl, rfl, rfl, by decide +kernel, rfl, by decide +kernel, by decide +kernel⟩
abbrev s_law_number : Stmt := top 50
abbrev N_law_number : List Str := ["rows", "word", "row"]
theorem sc_law_number : FnScope N_law_number ["rows", "word"] (defScope s_law_number) := ⟨rfl, rfl, rfl, by decide +kernel, rfl, by decide +kernel, by decide +kernel⟩
abbrev s_paths_of : Stmt := top 16
abbrev N_paths_of : List Str := ["bed", "tree", "paths", "waiting", "entry", "path", "index"]
theorem sc_paths_of : FnScope N_paths_of ["bed", "tree"] (defScope s_paths_of) := ⟨rfl, rfl, rfl, by decide +kernel, rfl, by decide +kernel, by decide +kernel⟩
section
variable {P : Program} {w : World} {K : PySem.W.Frag} {mg : Str → Option Value} {base : Heap} {C CT : Addr}
def spNumber : Sp := fun vs H Q _ => ∃ (r : Addr) (rows : List Row) (z : Str), vs = [.ref r, .str z] ∧ RowsAt H r rows ∧ ROk 8 rows ∧ Q (.int (nmO rows z)) H
theorem ok_law_number (T : Bk mg) (D : Def0 K mg "_law_number" s_law_number) : DefOk P w K mg base CX0 1 "_law_number" spNumber := by
  refine D.ok sc_law_number (fun vs H Q E h => ?_) (fun _ _ _ _ _ _ us hl => match us, hl with | [_, _], _ => rfl) (fun f cdv A outer s H vs Q E hr h => ?_)
  · obtain ⟨r, rows, z, rfl, _⟩ := h
    rfl
  · obtain ⟨r, rows, z, rfl, ⟨ts, hR, hT⟩, R, k⟩ := h
    refine ⟨_, (pss_cons (ps_for PassesOwn.never rfl (pi_list (pv 0)) (pg_name (i := 2) sc_law_number.nd rfl (Or.inl rfl))
        (pss_one (ps_if (pt_cmpR op_eq (pe_ix ix_tup (pv 2) pe_int (fun _ _ => rfl)) (pv 1) (nomark _))
          (pss_one (ps_ret (pe_ix ix_tup (pv 2) pe_int (fun _ _ => rfl))))
          pss_nil)))
      (pss_one (ps_ret (pe_un un_neg pe_int)))), ?_⟩
    refine ⟨_, rfl, r, rfl, ⟨_, SqL.of hR⟩, for_it (walk_list (xs := ts.map V.ref)) (fun i σ H' => ∃ (x : Option V), σ = [some (.ref r), some (.str z), x] ∧ H' = H ∧ ∀ q ∈ rows.take i, q.1 ≠ z)
      ⟨none, rfl, rfl, fun q h => by simp at h⟩ (fun i σ H' _ ⟨_, _, q, _⟩ => SqL.of (q ▸ hR)) ?_ ?_⟩
    · rintro i v σ H1 H2 hi ⟨x, rfl, rfl, hn⟩ ⟨rfl, hv⟩
      have hir : i < rows.length := by rw [List.length_map, hT.1] at hi; exact hi
      obtain ⟨t, t1, t2, t3⟩ := hT.at hir
      rw [t2] at hv
      cases hv
      refine ⟨_, rfl, t, _, _, _, rfl, rfl, SqT.of t3, atI_nat (j := 0) rfl, _, rfl, rfl, _, rfl, ite2 (fun h => ?_) (fun h => ?_)⟩
      · have e := V.str.inj (of_decide_eq_true h)
        refine ⟨_, rfl, t, _, _, _, rfl, rfl, SqT.of t3, atI_nat (j := 1) rfl, ?_⟩
        rw [← row_at R hir, e, ← nm_of R ⟨rows[i], List.getElem_mem hir, e⟩]
        exact k
      · refine ⟨_, rfl, rfl, fun q hq => ?_⟩
        rw [List.take_add_one, List.getElem?_eq_getElem hir] at hq
        rcases List.mem_append.mp hq with a | a
        · exact hn q a
        · rw [List.mem_singleton.mp a]
          exact fun e => h (decide_eq_true (congrArg V.str e))
    · rintro σ H1 ⟨x, rfl, rfl, hn⟩
      rw [List.length_map, hT.1, List.take_length] at hn
      rcases nm_case R z with q | q
      · rw [q.1] at k
        exact ⟨_, rfl, k⟩
      · obtain ⟨y, hy, e⟩ := q.2.2.2
        exact absurd e (hn y hy)
theorem ok_ends_of (T : Bk mg) (B : BedT K C) (D : Def0 K mg "ends_of" s_ends_of) : DefOk P w K mg base CX0 1 "ends_of" (spEnds C) := by
  refine D.ok sc_ends_of (fun vs H Q E h => ?_) (fun _ _ _ _ _ _ us hl => match us, hl with | [_, _], _ => rfl) (fun f cdv A outer s H vs Q E hr h => ?_)
  · obtain ⟨b, t, rows, l, rfl, _⟩ := h
    rfl
  · obtain ⟨b, t, rows, l, rfl, hB, R, ht, O, k⟩ := h
    have hu := hu_of hr
    have hsz := O.sz
    refine ⟨_, (pss_cons (ps_setLc (i := 2) (own := [("_", 5)]) (g := (gName 5)) (tt := tYes) rfl sc_ends_of.nd rfl rfl (sw_true rfl rfl rfl (by decide +kernel)) (pi_tup (pv 1)) (blkOk_by (N := N_ends_of) (sc := defScope s_ends_of) (by decide +kernel)) (fun _ _ _ _ _ => (pg_name (i := 5) sc_ends_of.nd rfl (Or.inl rfl))) (fun _ _ _ _ _ => pts_nil) (fun _ _ _ _ _ => pe_int))
      (pss_cons (ps_for PassesOwn.never rfl (pi_range3 (by rfl) T.b_range (pa_cons (pe_op op_sub (pe_callB call_len_seq (by rfl) T.b_len boot_len (pa_cons (pv 1) pa_nil)) pe_int) (pa_cons (pe_un un_neg pe_int) (pa_cons (pe_un un_neg pe_int) pa_nil)))) (pg_name (i := 3) sc_ends_of.nd rfl (Or.inl rfl))
        (pss_cons (ps_set (i := 4) sc_ends_of.nd rfl (Or.inl rfl) (pe_op op_add (pv 3) pe_int))
        (pss_cons (ps_for PassesOwn.never rfl (pi_range1 (by rfl) T.b_range (pa_cons (pe_dget2 hu (pe_fld (pv 0) rfl) (pe_ix ix_tup (pv 1) (pv 3) (fun _ _ => rfl)) pe_int ⟨rfl, rfl, rfl, rfl⟩) pa_nil)) (pg_name (i := 5) sc_ends_of.nd rfl (Or.inl rfl))
          (pss_one (ps_set (i := 4) sc_ends_of.nd rfl (Or.inl rfl) (pe_ix ix_list (pv 2) (pv 4) (fun _ _ => rfl)))))
        (pss_one (ps_asg (pv 4) (pg_sub (pv 2) (pv 3) set_list))))))
      (pss_one (ps_ret (pv 2))))), ?_⟩
    refine ⟨_, rfl, t, rfl, ⟨_, ht.sq⟩, fun D hD => lc_it (walk_tup (xs := l.map V.str)) (fun i H' => Same H H' ∧ H' D = some (.lst ((List.replicate i (0 : Int)).map V.int))) ⟨(Same.refl H).upd_new hD, upd_same⟩ (fun i H' _ ⟨q, _⟩ => (ht.same q).sq) ?_ ?_⟩
    · rintro i v H1 H2 hi ⟨q1, q2⟩ ⟨rfl, hv⟩
      refine ⟨rfl, _, q2, ?_, q1.upd_own hD, ?_⟩
      · rw [List.length_map, List.length_replicate]
        rw [List.length_map] at hi
        exact lt_line (by omega)
      · rw [upd_same, List.replicate_succ', List.map_append]
        rfl
    · rintro H1 ⟨q1, q2⟩
      rw [List.length_map] at q2
      refine ⟨_, rfl, t, _, rfl, .inr ((ht.same q1).sq), _, _, rfl, rfl, _, rfl, _, rfl, _, _, _, _, rfl, RgC.neg (by rw [List.length_map]; omega) (by rw [List.length_map]; omega) (by decide) (by decide), ?_⟩
      rw [show ((((l.map V.str).length : Nat) : Int) - 1 - -1).toNat = l.length by rw [List.length_map]; omega]
      refine for_rangeC (fun i σ H' => ∃ (x y z : Option V) (es : List Int), σ = [some (.ref b), some (.ref t), some (.ref D), x, y, z] ∧ Same H H' ∧ H' D = some (.lst (es.map V.int)) ∧ es.length = l.length ∧ ∀ j, l.length - i ≤ j → j < l.length → es[j]? = some ((Mth.nxs (wR rows) l j 1 : Nat) : Int)) ?_ ?_ ?_
      · exact ⟨none, none, none, _, rfl, q1, q2, List.length_replicate, fun j h1 h2 => absurd h1 (by omega)⟩
      · rintro i σ H2 hi ⟨x, y, z, es, rfl, s2, p2, el, eh⟩
        have epl : (((l.map V.str).length : Nat) : Int) - 1 + ((i : Nat) : Int) * -1 = ((l.length - 1 - i : Nat) : Int) := by rw [List.length_map]; omega
        rw [epl]
        generalize hp : l.length - 1 - i = p
        have hpl : p < l.length := by omega
        have hk : l[p]? = some l[p] := List.getElem?_eq_getElem hpl
        obtain ⟨dx, r, kk, ww, rk, ts, h1, h2, h3, h4, h5, h6⟩ := hB.same s2
        refine ⟨_, rfl, _, _, rfl, rfl, ?_⟩
        refine ⟨_, rfl, b, C, dx, _, _, rfl, h1, B.cl, B.nW, lk_widths _ _ _ _, ww, rfl, .inl ⟨_, .inl h5⟩, _, rfl, _, rfl, t, _, _, _, rfl, rfl, (ht.same s2).sq, str_at hpl rfl, _, DGet.k (k := .inr l[p]) h5, ?_⟩
        rw [get_wL R]
        have hw3 := wR_le R (l[p])
        refine ⟨_, rfl, (show -(2 ^ 62) ≤ ((wR rows l[p] : Nat) : Int) by omega), (show ((wR rows l[p] : Nat) : Int) < 2 ^ 62 by omega), ?_⟩
        rw [Int.toNat_natCast]
        refine for_range (fun i2 σ H' => ∃ (z : Option V), σ = [some (.ref b), some (.ref t), some (.ref D), some (.int ((p : Nat) : Int)), some (.int ((Mth.nxs (wR rows) l (p + 1) i2 : Nat) : Int)), z] ∧ H' = H2) ?_ ?_ ?_
        · refine ⟨z, ?_, rfl⟩
          rw [Mth.nxs_zero _ hpl]
          rfl
        · rintro i2 σ H3 hi2 ⟨z, rfl, rfl⟩
          obtain ⟨m1, m2, m3⟩ := Mth.end_step (wR rows) O.f hk hi2
          refine ⟨_, rfl, _, rfl, D, _, _, _, rfl, rfl, SqL.of p2, int_at (eh _ (by omega) m1) rfl, ?_⟩
          rw [m3]
          exact ⟨_, rfl, rfl⟩
        · rintro σ H3 ⟨z, rfl, rfl⟩
          rw [Mth.end_last _ hk]
          refine ⟨_, rfl, _, rfl, _, rfl, D, _, _, p, rfl, rfl, p2, ixz (by rw [List.length_map, el]; exact hpl) rfl, ?_⟩
          refine ⟨_, _, _, es.set p ((Mth.nxs (wR rows) l p 1 : Nat) : Int), rfl, s2.upd_own hD, by rw [upd_same, List.map_set], by rw [List.length_set]; exact el, fun j h1 h2 => ?_⟩
          by_cases e : j = p
          · subst e
            rw [List.getElem?_set_self (by omega)]
          · rw [List.getElem?_set_ne (Ne.symm e)]
            exact eh j (by omega) h2
      · rintro σ H2 ⟨x, y, z, es, rfl, s2, p2, el, eh⟩
        refine ⟨_, rfl, ?_⟩
        refine k _ _ s2 hD ?_
        unfold EndsAt
        rw [← Mth.ends_of_get (wR rows) el (fun j hj => eh j (by omega) hj)]
        exact p2
theorem ok_paths_of (T : Bk mg) (B : BedT K C) (D : Def0 K mg "paths_of" s_paths_of) : DefOk P w K mg base CX0 1 "paths_of" (spPaths C) := by
  refine D.ok sc_paths_of (fun vs H Q E h => ?_) (fun _ _ _ _ _ _ us hl => match us, hl with | [_, _], _ => rfl) (fun f cdv A outer s H vs Q E hr h => ?_)
  · obtain ⟨b, t, rows, l, rfl, _⟩ := h
    rfl
  · obtain ⟨b, t, rows, l, rfl, hB, R, ht, O, k⟩ := h
    have hu := hu_of hr
    have hsz := O.sz
    refine ⟨_, (pss_cons (ps_set (i := 2) sc_paths_of.nd rfl (Or.inl rfl) (pe_lst pa_nil))
      (pss_cons (ps_set (i := 3) sc_paths_of.nd rfl (Or.inl rfl) (pe_lst (pa_cons (pe_tup pa_nil) pa_nil)))
      (pss_cons (ps_for PassesOwn.never rfl (pi_tup (pv 1)) (pg_name (i := 4) sc_paths_of.nd rfl (Or.inl rfl))
        (pss_cons (ps_set (i := 5) sc_paths_of.nd rfl (Or.inl rfl) (pe_bm0 PySem.F.plainAttrs_list PySem.F.slot_list_pop PySem.F.type_list_pop mt_pop (pv 3)))
        (pss_cons (ps_expr (pe_bm PySem.F.plainAttrs_list PySem.F.slot_list_append PySem.F.type_list_append mt_append (pv 2) (pa_cons (pv 5) pa_nil)))
        (pss_one (ps_for PassesOwn.never rfl (pi_range3 (by rfl) T.b_range (pa_cons (pe_op op_sub (pe_dget2 hu (pe_fld (pv 0) rfl) (pv 4) pe_int ⟨rfl, rfl, rfl, rfl⟩) pe_int) (pa_cons (pe_un un_neg pe_int) (pa_cons (pe_un un_neg pe_int) pa_nil)))) (pg_name (i := 6) sc_paths_of.nd rfl (Or.inl rfl))
          (pss_one (ps_expr (pe_bm PySem.F.plainAttrs_list PySem.F.slot_list_append PySem.F.type_list_append mt_append (pv 3) (pa_cons (pe_op op_catA (pv 5) (pe_tup (pa_cons (pv 6) pa_nil))) pa_nil)))))))))
      (pss_one (ps_ret (pv 2)))))), ?_⟩
    refine ⟨le_line (by decide), fun p hp => ?_⟩
    have s1 := (Same.refl H).upd_new (o := .lst []) hp
    refine ⟨le_line (by decide), fun e he => ?_⟩
    have s2 := s1.upd_new (o := .tup []) he
    have pn2 : (upd (upd H p (.lst [])) e (.tup [])) p = some (.lst []) := by rw [upd_ne (ne_of_none upd_same he)]; exact upd_same
    refine ⟨le_line (show 1 ≤ 100000 by decide), fun q hq => ?_⟩
    have s3 := s2.upd_new (o := .lst [.ref e]) hq
    have pq : p ≠ q := ne_of_none pn2 hq
    have eq : e ≠ q := ne_of_none upd_same hq
    have hpN : H p = none := hp
    have hqN : H q = none := by
      cases z : H q with
      | none => rfl
      | some o => rw [s2 _ _ z] at hq; cases hq
    refine ⟨_, rfl, t, rfl, ⟨_, (ht.same s3).sq⟩, for_it (walk_tup (xs := l.map V.str)) (fun i σ H' => ∃ (x y z : Option V) (ps ws : List Addr), σ = [some (.ref b), some (.ref t), some (.ref p), some (.ref q), x, y, z] ∧ Same H H' ∧
      H' p = some (.lst (ps.map V.ref)) ∧ H' q = some (.lst (ws.map V.ref)) ∧ TsAt pV H' ps ((List.range i).map (Mth.pth (wR rows) l)) ∧ TsAt pV H' ws (Mth.stk (wR rows) l i).reverse)
      ⟨none, none, none, [], [e], rfl, s3, by rw [upd_ne pq]; exact pn2, upd_same, TsAt.nil, ?_⟩ (fun i σ H' _ ⟨_, _, _, _, _, _, q, _⟩ => (ht.same q).sq) ?_ ?_⟩
    · exact TsAt.nil.snoc (q := []) (.of (by rw [upd_ne eq]; exact upd_same))
    · rintro i v σ H1 H2 hi ⟨x, y, z, ps, ws, rfl, s4, hP, hQ, tP, tQ⟩ ⟨rfl, hv⟩
      have hil : i < l.length := by rw [List.length_map] at hi; exact hi
      rw [List.getElem?_map, List.getElem?_eq_getElem hil] at hv
      cases hv
      obtain ⟨st, e1, e2⟩ := Mth.stk_step (wR rows) O.f hil
      have F := Mth.stk_len (wR rows) O.f i (Nat.le_of_lt hil)
      rw [e1, List.reverse_cons] at tQ
      obtain ⟨a, a1, a2, a3, a4⟩ := tQ.pop
      refine ⟨_, rfl, .inl ⟨rfl, _, SqL.of hQ⟩, q, _, _, rfl, rfl, hQ, (by rw [List.length_map, List.getElem?_map, a1]; rfl), ?_⟩
      have hqp : q ≠ p := pq.symm
      have hda : (ws.map V.ref).dropLast = ws.dropLast.map V.ref := (List.map_dropLast ..).symm
      rw [hda]
      have s5 := s4.upd_own (o := .lst (ws.dropLast.map V.ref)) hqN
      refine ⟨_, rfl, .inl ⟨rfl, _, SqL.of (by rw [upd_ne pq]; exact hP)⟩, _, rfl, p, _, _, rfl, rfl, (by rw [upd_ne pq]; exact hP), lt_line (by rw [List.length_map, tP.1, List.length_map, List.length_range]; omega), ?_⟩
      have s6 := s5.upd_own (o := .lst (ps.map V.ref ++ [V.ref a])) hpN
      obtain ⟨dx, r, kk, ww, rk, ts, h1, h2, h3, h4, h5, h6⟩ := hB.same s6
      have hw3 := wR_le R (l[i])
      refine ⟨_, rfl, b, C, dx, _, _, rfl, h1, B.cl, B.nW, lk_widths _ _ _ _, ww, rfl, .inl ⟨_, .inl h5⟩, _, rfl, _, DGet.k (k := .inr l[i]) h5, ?_⟩
      rw [get_wL R]
      refine ⟨_, _, rfl, rfl, _, rfl, _, rfl, _, _, _, _, rfl, RgC.neg (by omega) (by omega) (by decide) (by decide), ?_⟩
      rw [show (((wR rows l[i] : Nat) : Int) - 1 - -1).toNat = wR rows l[i] by omega]
      have tk6 : TQ H2 (upd (upd H2 q (.lst (ws.dropLast.map V.ref))) p (.lst (ps.map V.ref ++ [V.ref a]))) := (TQ.lst hQ).trans (TQ.lst (ys := ps.map V.ref) (by rw [upd_ne pq]; exact hP))
      refine for_rangeC (fun j σ H' => ∃ (z : Option V) (ws : List Addr), σ = [some (.ref b), some (.ref t), some (.ref p), some (.ref q), some (.str l[i]), some (.ref a), z] ∧ Same H H' ∧
        H' p = some (.lst ((ps ++ [a]).map V.ref)) ∧ H' q = some (.lst (ws.map V.ref)) ∧ TsAt pV H' (ps ++ [a]) ((List.range (i + 1)).map (Mth.pth (wR rows) l)) ∧ TsAt pV H' ws (st.reverse ++ ((Mth.kids (Mth.pth (wR rows) l i) (wR rows l[i])).drop (wR rows l[i] - j)).reverse) ∧ Tq H' a (pV (Mth.pth (wR rows) l i))) ?_ ?_ ?_
      · refine ⟨z, ws.dropLast, rfl, s6, by rw [upd_same, List.map_append]; rfl, by rw [upd_ne hqp, upd_same], ?_, ?_, tk6 _ _ a3⟩
        · rw [List.range_succ, List.map_append]
          exact (tP.keep tk6).snoc (tk6 _ _ a3)
        · rw [Nat.sub_zero, List.drop_of_length_le (by rw [Mth.kids_len]; exact Nat.le_refl _), List.reverse_nil, List.append_nil]
          exact a2.keep tk6
      · rintro j σ H3 hj ⟨z, ws, rfl, s7, hP3, hQ3, tP3, tQ3, a3'⟩
        refine ⟨_, rfl, .inl ⟨rfl, _, SqL.of hQ3⟩, _, rfl, _, rfl, le_line (show 1 ≤ 100000 by decide), fun u hu1 => ?_⟩
        have na : a ≠ u := a3'.ne_none hu1
        have nq : q ≠ u := ne_of_none hQ3 hu1
        have np : p ≠ u := ne_of_none hP3 hu1
        have hdep := Mth.pth_dep (wR rows) O.f hil
        refine catA_of (TQ.new hu1 _ _ a3') (.of upd_same) (by unfold pV; rw [List.length_map, List.length_singleton]; omega) (fun c H4 s8 hc => ?_)
        have s9 := (Same.refl H3).upd_new (o := .tup [V.int (((wR rows l[i] : Nat) : Int) - 1 + ((j : Nat) : Int) * -1)]) hu1
        have s10 := s9.trans s8
        have hle := Mth.stk_le (wR rows) O.f (i := i + 1) hil
        rw [e2, List.length_append, Mth.kids_len] at hle
        refine ⟨q, _, _, rfl, rfl, s10 _ _ hQ3, ?_, ?_⟩
        · rw [List.length_map, tQ3.1, List.length_append, List.length_reverse, List.length_reverse, List.length_drop, Mth.kids_len]
          exact lt_line (by omega)
        have tk10 : TQ H3 (upd H4 q (.lst (ws.map V.ref ++ [V.ref c]))) := (TQ.of_same s10).trans (TQ.lst (s10 _ _ hQ3))
        refine ⟨_, ws ++ [c], rfl, (s7.trans s10).upd_own hqN, by rw [upd_ne pq]; exact s10 _ _ hP3, by rw [upd_same, List.map_append]; rfl, ?_, ?_, ?_⟩
        · exact tP3.keep tk10
        · rw [Mth.kids_drop _ hj, List.reverse_cons, ← List.append_assoc]
          refine (tQ3.keep tk10).snoc ?_
          refine TQ.lst (s10 _ _ hQ3) _ _ ?_
          have hc2 := hc
          rw [show ((wR rows l[i] : Nat) : Int) - 1 + ((j : Nat) : Int) * -1 = ((wR rows l[i] - 1 - j : Nat) : Int) by omega] at hc2
          unfold pV at hc2 ⊢
          rw [List.map_append]
          exact hc2
        · exact tk10 _ _ a3'
      · rintro σ H3 ⟨z, ws, rfl, s7, hP3, hQ3, tP3, tQ3, a3'⟩
        refine ⟨_, _, _, _, ws, rfl, s7, hP3, hQ3, tP3, ?_⟩
        rw [Nat.sub_self, List.drop_zero, ← List.reverse_append, ← e2] at tQ3
        exact tQ3
    · rintro σ H1 ⟨x, y, z, ps, ws, rfl, s4, hP, hQ, tP, tQ⟩
      refine ⟨_, rfl, k _ _ s4 hpN ⟨ps, hP, ?_⟩⟩
      rw [List.length_map] at tP
      exact tP
end
end Sh
end
section
set_option Elab.async false
set_option linter.all false
set_option maxRecDepth 100000
set_option maxHeartbeats 2000000
set_option autoImplicit false
namespace Mth
def tall {α : Type} (w : α → Nat) (l : List α) : Nat → Nat
  | 0 => 0
  | i + 1 => max (tall w l i) ((pth w l i).length + 1)
/-- the branch at a place -/
def cut {α : Type} (w : α → Nat) (l : List α) (a : Nat) : List α := (l.drop a).take (nxs w l a 1 - a)
def brs {α : Type} (w : α → Nat) (l : List α) (p n : Nat) : List (List α) := (List.range n).map fun c => cut w l (nxs w l (p + 1) c)
theorem brs_succ {α : Type} (w : α → Nat) (l : List α) (p n : Nat) : brs w l p (n + 1) = brs w l p n ++ [cut w l (nxs w l (p + 1) n)] := by
  simp [brs, List.range_succ]
def wd {α : Type} (w : α → Nat) (l : List α) (p : Nat) : Nat := match l[p]? with
  | some k => w k
  | none => 0
theorem wd_of {α : Type} (w : α → Nat) {l : List α} {p : Nat} (h : p < l.length) : wd w l p = w l[p] := by
  unfold wd
  rw [List.getElem?_eq_getElem h]
theorem brs_len {α : Type} (w : α → Nat) (l : List α) (p n : Nat) : (brs w l p n).length = n := by simp [brs]
theorem kids_lens (p : List Nat) (n : Nat) : ((kids p n).reverse.map fun p => ((p.length + 1 : Nat) : Int)) = List.replicate n ((p.length + 2 : Nat) : Int) := by
  refine List.eq_replicate_iff.mpr ⟨by rw [List.length_map, List.length_reverse, kids_len], fun b hb => ?_⟩
  obtain ⟨q, hq, rfl⟩ := List.mem_map.mp hb
  unfold kids at hq
  obtain ⟨a, _, rfl⟩ := List.mem_map.mp (List.mem_reverse.mp hq)
  rw [List.length_append]
  rfl
end Mth
namespace Sh
open PySem PySem.Spec PyProof.Rows L2
open C8 (pss_cut tCut)
open Evl (ixN_nat)
theorem valV_rk {ns : List Str} (nd : ns.Nodup) {j : Nat} (h : j < ns.length) : valV (rkL ns) (.inr ns[j]) = some (.int ((j : Nat) : Int)) := by
  unfold valV rkL
  rw [List.find?_map]
  have e : ((fun kv : Key × V => decide (kv.1 = Sum.inr ns[j])) ∘ fun q : Str × Nat => ((.inr q.1 : Key), V.int ((q.2 : Nat) : Int))) = fun q => decide (q.1 = ns[j]) := by
    funext q
    exact key_rr q.1 _
  rw [e]
  have hm : (ns[j], j) ∈ ns.zipIdx := by
    rw [List.mem_iff_getElem?]
    exact ⟨j, by rw [List.getElem?_zipIdx, List.getElem?_eq_getElem h]; simp⟩
  cases hf : ns.zipIdx.find? (fun q => decide (q.1 = ns[j])) with
  | none => exact absurd (List.find?_eq_none.mp hf _ hm) (by simp)
  | some q =>
    have h1 := List.mem_of_find?_eq_some hf
    have h2 : q.1 = ns[j] := by simpa using List.find?_some hf
    obtain ⟨i, hi, ei⟩ := List.mem_iff_getElem.mp h1
    rw [List.getElem_zipIdx] at ei
    rw [List.length_zipIdx] at hi
    rw [← ei] at h2
    have h3 := (List.getElem_inj nd).mp h2
    subst h3
    rw [← ei]
    simp
/-- the ranks of a plant's knots -/
def RanksOf (ns : List Str) (l : List Str) (ks : List Int) : Prop := ks.length = l.length ∧ ∀ (i : Nat) (z : Str), l[i]? = some z → ∃ j : Nat, ns[j]? = some z ∧ ks[i]? = some ((j : Nat) : Int)
theorem RanksOf.uniq {ns l : List Str} (nd : ns.Nodup) {ks ks' : List Int} (x : RanksOf ns l ks) (y : RanksOf ns l ks') : ks = ks' := by
  refine List.ext_getElem? fun i => ?_
  by_cases h : i < l.length
  · obtain ⟨j, a, b⟩ := x.2 i _ (List.getElem?_eq_getElem h)
    obtain ⟨j', a', b'⟩ := y.2 i _ (List.getElem?_eq_getElem h)
    obtain ⟨hj, ej⟩ := List.getElem?_eq_some_iff.mp a
    obtain ⟨hj', ej'⟩ := List.getElem?_eq_some_iff.mp a'
    have := (List.getElem_inj nd).mp (ej.trans ej'.symm)
    subst this
    rw [b, b']
  · have a := x.1
    have b := y.1
    rw [List.getElem?_eq_none (by omega), List.getElem?_eq_none (by omega)]
theorem RanksOf.snoc {ns l : List Str} {ks : List Int} {i j : Nat} {z : Str} (x : RanksOf ns (l.take i) ks) (h : l[i]? = some z) (hj : ns[j]? = some z) : RanksOf ns (l.take (i + 1)) (ks ++ [((j : Nat) : Int)]) := by
  have hi := lt_of_get h
  have hk : ks.length = i := by rw [x.1, List.length_take]; omega
  refine ⟨by rw [List.length_append, hk, List.length_take]; simp; omega, fun k u hu => ?_⟩
  rw [← take_snoc h] at hu
  by_cases e : k < i
  · rw [List.getElem?_append_left (by rw [List.length_take]; omega)] at hu
    obtain ⟨j', a, b⟩ := x.2 k u hu
    exact ⟨j', a, by rw [List.getElem?_append_left (by omega)]; exact b⟩
  · have hlt := lt_of_get hu
    rw [List.length_append, List.length_take] at hlt
    have ek : k = i := by simp at hlt; omega
    subst ek
    rw [List.getElem?_append_right (by rw [List.length_take]; omega), List.length_take] at hu
    rw [show k - min k l.length = 0 by omega] at hu
    cases hu
    exact ⟨j, hj, by rw [List.getElem?_append_right (by omega), hk, Nat.sub_self]; rfl⟩
theorem way2 {A : XA} {E : XK} {H : Hp} {p q : Prop} : ∀ {o : Option Ex}, Way A E H o p → (o = none → p → q) → Way A E H o q
  | none, k, h => h rfl k
  | some _, k, _ => k
theorem Way.same {A : XA} {E : XK} {H H1 : Hp} {p q : Prop} (s : Same H H1) (h : p → q) : ∀ {o : Option Ex}, Way A E H o p → Way A E H1 o q
  | none, k => h k
  | some _, k => Rz.same k s
def spPlI (C : Addr) (A : XA) (f : List Row → List Str → Int) : Sp := fun vs H Q E => ∃ (b t : Addr) (rows : List Row) (l : List Str), vs = [.ref b, .ref t] ∧ BedAt C H b rows ∧ ROk 8 rows ∧ Tq H t (l.map V.str) ∧ l.length ≤ 6000 ∧ Way A E H (due rows false l) (∀ H', Same H H' → Q (.int (f rows l)) H')
def spPlR (C : Addr) (A : XA) (f : List Row → List Str → Hp → Addr → Prop) : Sp := fun vs H Q E => ∃ (b t : Addr) (rows : List Row) (l : List Str), vs = [.ref b, .ref t] ∧ BedAt C H b rows ∧ ROk 8 rows ∧ Tq H t (l.map V.str) ∧ l.length ≤ 6000 ∧ Way A E H (due rows false l) (∀ H' q, Same H H' → f rows l H' q → Q (.ref q) H')
def spPlZ (C : Addr) (A : XA) (f : List Row → List Str → Hp → Addr → Prop) : Sp := fun vs H Q E => ∃ (b t : Addr) (rows : List Row) (l : List Str), vs = [.ref b, .ref t] ∧ BedAt C H b rows ∧ ROk 8 rows ∧ Tz H t (l.map V.str) ∧ l.length ≤ 6000 ∧ Way A E H (due rows false l) (∀ H' q, Same H H' → f rows l H' q → Q (.ref q) H')
def spLevels (C : Addr) : Sp := fun vs H Q _ => ∃ (b t : Addr) (rows : List Row) (l : List Str), vs = [.ref b, .ref t] ∧ BedAt C H b rows ∧ ROk 8 rows ∧ Tq H t (l.map V.str) ∧ WfOk rows l ∧ ∀ H', Same H H' → Q (.int ((Mth.tall (wR rows) l l.length : Nat) : Int)) H'
def KeyAt (rows : List Row) (l : List Str) (H : Hp) (q : Addr) : Prop := ∃ u ks, H q = some (.tup [.int ((l.length : Nat) : Int), .ref u]) ∧ H u = some (.tup (ks.map V.int)) ∧ RanksOf (rows.map (·.1)) l ks
def CntAt (rows : List Row) (l : List Str) (H : Hp) (q : Addr) : Prop := H q = some (.tup ((rows.map fun r => ((l.count r.1 : Nat) : Int)).map V.int))
def PthsAt (rows : List Row) (l : List Str) (H : Hp) (q : Addr) : Prop := ∃ ts, H q = some (.tup (ts.map V.ref)) ∧ TsAt pV H ts ((List.range l.length).map (Mth.pth (wR rows) l))
def BrsAt (rows : List Row) (l : List Str) (H : Hp) (q : Addr) : Prop := ∃ ts, H q = some (.tup (ts.map V.ref)) ∧ TsAt sV H ts (Mth.brs (wR rows) l 0 (Mth.wd (wR rows) l 0))
section
variable {P : Program} {w : World} {K : PySem.W.Frag} {mg : Str → Option Value} {base : Heap} {C CT : Addr} {A : XA}
end
end Sh
end
section
set_option Elab.async false
set_option linter.all false
set_option maxRecDepth 100000
set_option maxHeartbeats 2000000
set_option autoImplicit false
namespace Mth
/-- where a path of whole numbers leads from a place -/
def walkI {α : Type} (w : α → Nat) (l : List α) : Nat → List Int → Option Nat
  | p, [] => some p
  | p, c :: cs => if 0 ≤ c ∧ c < (wd w l p : Int) then walkI w l (nxs w l (p + 1) c.toNat) cs else none
end Mth
namespace Sh
open PySem PySem.Spec PyProof.Rows L2
open C8 (pss_cut tCut)
open Evl (ixN_nat)
theorem Def0.star {P : Program} {w : World} {K : PySem.W.Frag} {mg : Str → Option Value} {base : Heap} {k : Nat} {x : Str} {sp : Sp} {st : Stmt} {N ps : List Str} {pv : Str} (D : Def0 K mg x st) (S : FnScope N (ps ++ [pv]) (defScope st))
    (hb : ∀ (kV doc pm : Value) (an : Option Addr) (cdv ct : Value) (us rest : List Value), us.length = ps.length → bindArgs (PySem.W.fnOf x x (defArgs st) (defBody st) (defScope st) .none kV doc pm an cdv ct) ⟨us ++ rest, []⟩ = (newTuple rest >>= fun t => pure (ps.zip us ++ [(pv, t)])))
    (hbody : ∀ (f : Addr) (cdv : Value) (A : Around) (outer : List Env) (s : Shared) (H : Hp) (vs : List V) (Q : VK) (E : XK), Room k (A.deeper (envOfC x (defScope st) s.heap.objs.size f cdv)) → sp vs H Q E →
      ∃ t, PSs (cxOf (L2.CX P w) P w K mg base N x (defScope st) f cdv A outer s H E) (defBody st) t ∧ t { nx := fun _ H' => Q .non H', rt := Q } (start N vs) H) :
    DefOk P w K mg base (L2.CX P w) (k + 1) x (fun vs H Q E => ∃ ws rest, vs = ws ++ rest ∧ ws.length = ps.length ∧ rest.length ≤ sizeLine ∧ ∀ p, H p = Option.none → sp (ws ++ [V.ref p]) (upd H p (.tup rest)) Q E) := by
  obtain ⟨f, fd, hm, F⟩ := D
  obtain ⟨oc, od, dV, kV, doc, pm, an, cdv, ct, osl, rfl, lk, hcd, hdv, _⟩ := F.ex
  have hd : dV = .none := by
    rcases hdv with ⟨_, h⟩ | h
    · exact h
    · exact absurd rfl h.1
  subst hd
  exact ⟨f, hm, F.kp, StX.fn_star lk hcd S StX.cxUp (hb kV doc pm an cdv ct) fun A outer s H vs Q E hr hsp => hbody f cdv A outer s H vs Q E hr hsp⟩
theorem slA_lo {K : PySem.W.Frag} {H : Hp} {a : Addr} {xs : List V} {Q : VK} {j : Nat} (ha : Tq H a xs) (hj : j ≤ xs.length) (k : ∀ r H', Same H H' → Tq H' r (xs.take j) → Q (.ref r) H') : rSlA K (.ref a) none (some (j : Int)) H Q := by
  have e2 : HT.sIx xs.length xs.length (some (j : Int)) = j := by rw [HT.sIx_nat]; omega
  have e1 : HT.sIx xs.length 0 none = 0 := rfl
  refine ⟨a, xs, rfl, ha.sq, fun h => ?_, fun _ p hp => ?_⟩
  · rw [e2] at h
    refine k a H (Same.refl H) ?_
    rw [h.2, List.take_length]
    exact ha
  · have hc : cutV xs none (some (j : Int)) = xs.take j := by
      unfold cutV
      rw [e1, e2, List.drop_zero, Nat.sub_zero]
    rw [hc]
    exact k p _ ((Same.refl H).upd_new hp) (.of upd_same)
theorem slA_hi {K : PySem.W.Frag} {H : Hp} {a : Addr} {xs : List V} {Q : VK} {i : Nat} (ha : Tq H a xs) (hi : i ≤ xs.length) (k : ∀ r H', Same H H' → Tq H' r (xs.drop i) → Q (.ref r) H') : rSlA K (.ref a) (some (i : Int)) none H Q := by
  have e1 : HT.sIx xs.length 0 (some (i : Int)) = i := by rw [HT.sIx_nat]; omega
  have e2 : HT.sIx xs.length xs.length none = xs.length := rfl
  refine ⟨a, xs, rfl, ha.sq, fun h => ?_, fun _ p hp => ?_⟩
  · rw [e1] at h
    refine k a H (Same.refl H) ?_
    rw [h.1, List.drop_zero]
    exact ha
  · have hc : cutV xs (some (i : Int)) none = xs.drop i := by
      unfold cutV
      rw [e1, e2]
      exact List.take_of_length_le (by rw [List.length_drop]; omega)
    rw [hc]
    exact k p _ ((Same.refl H).upd_new hp) (.of upd_same)
theorem flat_le : ∀ {ls : List (List Str)} {m n : Nat}, (∀ l ∈ ls, l.length ≤ m) → ls.length ≤ n → ls.flatten.length ≤ m * n
  | [], m, n, _, _ => Nat.zero_le _
  | l :: ls, m, n, h, hn => by
    obtain ⟨k, rfl⟩ : ∃ k, n = k + 1 := ⟨n - 1, by rw [List.length_cons] at hn; omega⟩
    have h1 := h l List.mem_cons_self
    have h2 := flat_le (ls := ls) (n := k) (fun l hl => h l (List.mem_cons_of_mem _ hl)) (by rw [List.length_cons] at hn; omega)
    rw [List.flatten_cons, List.length_append, Nat.mul_succ]
    omega
theorem lk_branches (r k w rk : Addr) : (bedF r k w rk).lookup ("branches" : Str) = none := by
  have h : (("branches" : Str) == "rows") = false := by decide +kernel
  have h2 : (("branches" : Str) == "kinds") = false := by decide +kernel
  have h3 : (("branches" : Str) == "widths") = false := by decide +kernel
  have h4 : (("branches" : Str) == "ranks") = false := by decide +kernel
  simp [bedF, List.lookup, h, h2, h3, h4]
def iV (zs : List Int) : List V := zs.map V.int
def spSpan (C : Addr) (A : XA) : Sp := fun vs H Q E => ∃ (b t a : Addr) (rows : List Row) (l : List Str) (zs : List Int), vs = [.ref b, .ref t, .ref a] ∧ BedAt C H b rows ∧ ROk 8 rows ∧ Tq H t (l.map V.str) ∧ PlantOk rows l ∧ Tq H a (iV zs) ∧
  (∀ q, Mth.walkI (wR rows) l 0 zs = some q → q < l.length → ∀ H' r, Same H H' → Tq H' r [.int ((q : Nat) : Int), .int ((Mth.nxs (wR rows) l q 1 : Nat) : Int)] → Q (.ref r) H') ∧
  (Mth.walkI (wR rows) l 0 zs = none → Rz A E H (.path a))
def spBranch (C : Addr) (A : XA) : Sp := fun vs H Q E => ∃ (b t a : Addr) (rows : List Row) (l : List Str) (zs : List Int), vs = [.ref b, .ref t, .ref a] ∧ BedAt C H b rows ∧ ROk 8 rows ∧ Tq H t (l.map V.str) ∧ l.length ≤ 6000 ∧ Tq H a (iV zs) ∧
  Way A E H (due rows false l) ((∀ q, Mth.walkI (wR rows) l 0 zs = some q → q < l.length → ∀ H' r, Same H H' → Tq H' r (sV (Mth.cut (wR rows) l q)) → Q (.ref r) H') ∧ (Mth.walkI (wR rows) l 0 zs = none → Rz A E H (.path a)))
def put (w : Str → Nat) (l : List Str) (q : Nat) (o : List Str) : List Str := l.take q ++ o ++ l.drop (Mth.nxs w l q 1)
def spReplaced (C : Addr) (A : XA) : Sp := fun vs H Q E => ∃ (b t a u : Addr) (rows : List Row) (l o : List Str) (zs : List Int), vs = [.ref b, .ref t, .ref a, .ref u] ∧ BedAt C H b rows ∧ ROk 8 rows ∧ Tq H t (l.map V.str) ∧ l.length ≤ 6000 ∧ Tq H a (iV zs) ∧ Tq H u (o.map V.str) ∧ o.length ≤ 6000 ∧
  Way A E H (due rows false l) ((Mth.walkI (wR rows) l 0 zs = none → Rz A E H (.path a)) ∧ ∀ q, Mth.walkI (wR rows) l 0 zs = some q → q < l.length →
    Way A E H (due rows false o) (((put (wR rows) l q o).length ≤ 2000 → ∀ H' r, Same H H' → Tq H' r (sV (put (wR rows) l q o)) → Q (.ref r) H') ∧ (2000 < (put (wR rows) l q o).length → Rz A E H .many)))
def spBr (C : Addr) (A : XA) : Sp := fun vs H Q E => ∃ (b : Addr) (z : Str) (rows : List Row), vs = [.ref b, .str z] ∧ BedAt C H b rows ∧ ROk 8 rows ∧ Kin z ∧ (nmO rows z < 0 → Rz A E H (.kind z)) ∧ (0 ≤ nmO rows z → Q (.int ((wR rows z : Nat) : Int)) H)
/-- the first bad one -/
def fbad (rows : List Row) (hole : Bool) (ls : List (List Str)) : Option Ex := ls.findSome? (due rows hole)
def pdue (rows : List Row) (z : Str) (ls : List (List Str)) : Option Ex := if nmO rows z < 0 then some (.kind z) else if wR rows z ≠ ls.length then some (.wrong (wR rows z) ls.length) else match fbad rows false ls with
  | some x => some x
  | none => if 2000 < (z :: ls.flatten).length then some .many else none
def spPlanted (C : Addr) (A : XA) : Sp := fun vs H Q E => ∃ (b p : Addr) (z : Str) (rows : List Row) (ts : List Addr) (ls : List (List Str)), vs = [.ref b, .str z, .ref p] ∧ BedAt C H b rows ∧ ROk 8 rows ∧ Kin z ∧ Tq H p (ts.map V.ref) ∧ TsAt sV H ts ls ∧ (∀ l ∈ ls, l.length ≤ 6000) ∧ ls.length ≤ 20 ∧
  Way A E H (pdue rows z ls) (∀ H' r, Same H H' → Tq H' r (sV (z :: ls.flatten)) → Q (.ref r) H')
def spStar (n : Nat) (sp : Sp) : Sp := fun vs H Q E => ∃ ws rest, vs = ws ++ rest ∧ ws.length = n ∧ rest.length ≤ sizeLine ∧ ∀ p, H p = Option.none → sp (ws ++ [V.ref p]) (upd H p (.tup rest)) Q E
def BrOk (P : Program) (w : World) (K : PySem.W.Frag) (mg : Str → Option Value) (base : Heap) (C : Addr) (A : XA) : Prop := ∃ f, Meth K C "branches" f ∧ FnR P w K mg base (L2.CX P w) 2 f (spBr C A)
abbrev s_branches : Stmt := inClass (top 42) 4
abbrev N_branches : List Str := ["self", "kind"]
theorem sc_branches : FnScope N_branches ["self", "kind"] (defScope s_branches) := ⟨rfl, rfl, rfl, by decide +kernel, rfl, by decide +kernel, by decide +kernel⟩
section
variable {P : Program} {w : World} {K : PySem.W.Frag} {mg : Str → Option Value} {base : Heap} {C CN CT : Addr} {A : XA}
theorem ok_branches (x : XS P w K mg A) (B : BedT K C) {y : Str} {f : Addr} {fd : FuncData} (F : FunD K "branches" "Bed.branches" (defArgs s_branches) (defBody s_branches) (defScope s_branches) [] [] f fd) (M : Meth K C "branches" f) : BrOk P w K mg base C A := by
  have x_UnknownKind := x.xU
  have G : FnOk P w K mg base (L2.CX P w) 2 f fd ["self", "kind"] (spBr C A) := F.ok sc_branches (fun vs H Q E h => by obtain ⟨b, z, rows, rfl, _⟩ := h; rfl) fun cdv A outer s H vs Q E hr h => by
    obtain ⟨b, z, rows, rfl, hB, R, hz, k1, k2⟩ := h
    have hu := hu_of hr
    obtain ⟨dx, r, kk, ww, rk, ts, h1, h2, h3, h4, h5, h6⟩ := hB
    refine ⟨_, (pss_cons (ps_if (pt_cmp (pc_dnotin hu (pv 1) (pe_fld (pv 0) rfl)))
        (pss_one (ps_raiseSup rfl x_UnknownKind hr (takes_of rfl rfl rfl rfl) (pa_cons (pv 1) pa_nil)))
        pss_nil)
      (pss_one (ps_ret (pe_dget hu (pe_fld (pv 0) rfl) (pv 1) (fun _ _ => rfl))))), ?_⟩
    refine ⟨_, rfl, _, rfl, b, C, dx, _, _, rfl, h1, B.cl, B.nW, lk_widths _ _ _ _, ww, _, rfl, DGet.k (k := .inr z) h5, _, rfl, ?_⟩
    rcases nm_case R z with q | q
    · rw [q.2.2.1]
      refine ifp (by simp) ?_
      exact ⟨_, rfl, ⟨z, rfl, hz⟩, rfl, fun d hd => k1 (by omega) _ d (Same.refl H) hd⟩
    · rw [q.2.2.1]
      refine ifn (by simp) ?_
      exact ⟨_, rfl, b, C, dx, _, _, rfl, h1, B.cl, B.nW, lk_widths _ _ _ _, _, rfl, ww, _, rfl, (by rw [← q.2.2.1]; exact DGet.k (k := .inr z) h5), k2 (by omega)⟩
  refine ⟨f, M, fun A' outer s H us vs Q E hr e0 r hs => G.raw (F.bindsN fun _ _ _ _ _ _ us hl => match us, hl with | [_, _], _ => rfl) .nil A' outer s H us vs Q E hr e0 r (by show spBr C A (vs ++ []) H Q E; rw [List.append_nil]; exact hs)⟩
end
end Sh
end
section
set_option Elab.async false
set_option linter.all false
set_option autoImplicit false
namespace Mth
variable {α : Type} [DecidableEq α]
/-! Stumps as preorder lists: what stands at the holes, the holes filled. -/
section
variable (w : α → Nat) (hole : α)
/-- what stands in m at the holes of the rest of a stump, from place p on -/
def prt (m : List α) : List α → Nat → List (List α) → Option (List (List α))
  | [], _, acc => some acc
  | z :: r, p, acc => if z = hole then prt m r (nxs w m p 1) (acc ++ [cut w m p]) else if m[p]? = some z then prt m r (p + 1) acc else none
theorem prt_len {m : List α} : ∀ {l : List α} {p : Nat} {acc ps : List (List α)}, prt w hole m l p acc = some ps → ps.length = acc.length + l.count hole
  | [], _, acc, ps, h => by cases h; rfl
  | z :: r, p, acc, ps, h => by
    unfold prt at h
    rw [List.count_cons]
    split at h
    · rename_i e
      have q := prt_len h
      rw [List.length_append, List.length_singleton] at q
      rw [q, if_pos (beq_iff_eq.mpr e)]
      omega
    · rename_i e
      split at h
      · have q := prt_len h
        rw [q, if_neg (fun x => e (beq_iff_eq.mp x))]
        rfl
      · cases h
end
/-- the first n entries of a stump, its holes filled -/
def fil (hole : α) (ls : List (List α)) (l : List α) : Nat → List α
  | 0 => []
  | i + 1 => fil hole ls l i ++ match l[i]? with
    | some z => if z = hole then ls.getD ((l.take i).count hole) [] else [z]
    | none => []
theorem count_take {hole : α} {l : List α} {i : Nat} (h : i < l.length) : (l.take (i + 1)).count hole = (l.take i).count hole + if l[i] = hole then 1 else 0 := by
  rw [List.take_add_one, List.getElem?_eq_getElem h, List.count_append, Option.toList_some, List.count_singleton]
  by_cases e : l[i] = hole <;> simp [e]
theorem take_flat {β : Type} {ls : List (List β)} {j : Nat} (h : j < ls.length) : (ls.take (j + 1)).flatten.length = (ls.take j).flatten.length + (ls.getD j []).length := by
  rw [List.take_add_one, List.getElem?_eq_getElem h, List.flatten_append, List.length_append]
  simp [List.getD, h]
theorem fil_len (hole : α) (ls : List (List α)) (l : List α) (hc : l.count hole ≤ ls.length) : ∀ n, n ≤ l.length → (fil hole ls l n).length + (l.take n).count hole = n + (ls.take ((l.take n).count hole)).flatten.length
  | 0, _ => by simp [fil]
  | i + 1, h => by
    have ih := fil_len hole ls l hc i (by omega)
    have hi : i < l.length := h
    have hle : (l.take (i + 1)).count hole ≤ l.count hole := List.Sublist.count_le _ (List.take_sublist _ _)
    unfold fil
    rw [List.getElem?_eq_getElem hi, count_take hi, List.length_append]
    rw [count_take hi] at hle
    by_cases e : l[i] = hole
    · rw [if_pos e] at hle
      simp only [e, eq_self_iff_true, if_true]
      rw [take_flat (by omega)]
      omega
    · simp only [e, if_false, List.length_singleton, Nat.add_zero]
      omega
/-- the places of the holes -/
def hps (hole : α) (l : List α) : List Nat := (List.range l.length).filter fun i => decide (l[i]? = some hole)
theorem hps_take (hole : α) (l : List α) : ∀ n, n ≤ l.length → (((List.range n).filter fun i => decide (l[i]? = some hole)).length) = (l.take n).count hole
  | 0, _ => by simp
  | i + 1, h => by
    have hi : i < l.length := h
    rw [List.range_succ, List.filter_append, List.length_append, hps_take hole l i (by omega), count_take hi, List.filter_cons, List.filter_nil, List.getElem?_eq_getElem hi]
    by_cases e : l[i] = hole <;> simp [e]
theorem hps_len (hole : α) (l : List α) : (hps hole l).length = l.count hole := by
  have h := hps_take hole l l.length (Nat.le_refl _)
  rw [List.take_length] at h
  exact h
end Mth
end
section
set_option Elab.async false
set_option linter.all false
set_option maxRecDepth 100000
set_option maxHeartbeats 2000000
set_option autoImplicit false
/-! zip(l, t): a list beside a tuple. -/
namespace L2
open PySem PySem.Spec PyProof.Rows
def ItzM (K : PySem.W.Frag) (a b : Addr) : It where
  go := fun i H => ∃ (xs ys : List V) (x y : V), SqL K H a xs ∧ SqT K H b ys ∧ xs[i]? = some x ∧ ys[i]? = some y
  yld := fun i H v H' => ∃ T x y, v = .ref T ∧ H T = none ∧ H' = upd H T (.tup [x, y]) ∧ (∀ xs, SqL K H a xs → xs[i]? = some x) ∧ ∀ ys, SqT K H b ys → ys[i]? = some y
  stop := fun i H => ∃ xs ys : List V, SqL K H a xs ∧ SqT K H b ys ∧ xs.length = ys.length ∧ xs.length = i
/-- how the five cells of it lie -/
structure ZmApart (z TI TO i1 i2 a b : Addr) : Prop where
  s : ZipSep2 z TI TO i1 i2 [i1, a] [i2, b]
  a1 : a ≠ i1
  b2 : b ≠ i2
def zmCells (z TI TO i1 i2 : Addr) : List Addr := [z, TI, TO, i1, i2]
theorem zm_out {z TI TO i1 i2 c : Addr} (h : c ∉ zmCells z TI TO i1 i2) : c ≠ z ∧ c ≠ TO ∧ c ≠ i1 ∧ c ≠ i2 := by
  unfold zmCells at h
  simp only [List.mem_cons, not_or] at h
  exact ⟨h.1, h.2.2.1, h.2.2.2.1, h.2.2.2.2.1⟩
def zmAt (z TI TO i1 i2 a b : Addr) (i : Nat) (h : Heap) : Prop :=
  IsZip h z TI TO .none ∧ IsTupOf2 h TI (.ref i1) (.ref i2) ∧ (∃ x y, IsTupOf2 h TO x y) ∧ h.IsListIter i1 a i ∧ h.IsTupleIter i2 b i
theorem turn_zipM {P : Program} {w : World} {K : PySem.W.Frag} {elts : List Expr} {kk : Nat} {tpos : Pos} {a b z TI TO i1 i2 : Addr} (D : ZmApart z TI TO i1 i2 a b) :
    Turn P w K (.Tuple elts kk tpos) (ItzM K a b) (zmCells z TI TO i1 i2) z (zmAt z TI TO i1 i2 a b) := by
  have mz : z ∈ zmCells z TI TO i1 i2 := by simp [zmCells]
  have mI : TI ∈ zmCells z TI TO i1 i2 := by simp [zmCells]
  have mO : TO ∈ zmCells z TI TO i1 i2 := by simp [zmCells]
  have m1 : i1 ∈ zmCells z TI TO i1 i2 := by simp [zmCells]
  have m2 : i2 ∈ zmCells z TI TO i1 i2 := by simp [zmCells]
  refine ⟨mz, ?_, ?_, ?_, ?_, ?_⟩
  · rintro i h ⟨hz, hI, ⟨x, y, hO⟩, ⟨o1, e1, _, d1⟩, ⟨o2, e2, _, d2⟩⟩ c hc
    simp only [zmCells, List.mem_cons, List.not_mem_nil, or_false] at hc
    rcases hc with rfl | rfl | rfl | rfl | rfl
    · exact ⟨_, hz, fun v q => nomatch q⟩
    · exact ⟨_, hI, fun v q => nomatch q⟩
    · exact ⟨_, hO, fun v q => nomatch q⟩
    · exact ⟨o1, e1, fun v q => by rw [d1] at q; cases q⟩
    · exact ⟨o2, e2, fun v q => by rw [d2] at q; cases q⟩
  · rintro i h h' ⟨hz, hI, ⟨x, y, hO⟩, h1, h2⟩ k
    exact ⟨k z mz _ hz, k TI mI _ hI, ⟨x, y, k TO mO _ hO⟩, h1.at fun o q => k i1 m1 o q, h2.at fun o q => k i2 m2 o q⟩
  · intro X eP ew eK calm i pins s σ H E I own st go
    subst eP ew eK
    obtain ⟨hz, hI, ⟨x0, y0, hO⟩, h1, h2⟩ := st
    obtain ⟨xs, ys, x, y, qa, qb, gx, gy⟩ := go
    obtain ⟨its, ra, pa, _⟩ := I.list qa
    obtain ⟨jts, rb, pb, _⟩ := I.tuple qb
    obtain ⟨u, gu, ru⟩ := ra.get gx
    obtain ⟨v, gv, rv⟩ := rb.get gy
    have lt1 : i < its.toArray.size := by simpa using (List.getElem?_eq_some_iff.mp gu).1
    have lt2 : i < jts.toArray.size := by simpa using (List.getElem?_eq_some_iff.mp gv).1
    have zl : z < s.heap.objs.size := Heap.lt_size hz
    refine wpAny_pyNext_zipD2_item D.s (Draws.list (prog := X.prog) (w := X.w) (A := X.A.in1) (I.ok.hd calm) i1 a D.a1 its.toArray) (Draws.tuple (prog := X.prog) (w := X.w) (A := X.A.in1) (I.ok.hd calm) i2 b D.b2 jts.toArray) hz hI hO ⟨h1, pa.isList⟩ ⟨h2, pb⟩ lt1 lt2 fun x1 x2 h' tk e1 e2 hz' hO' t1 t2 hT hsz keep => ?_
    have f1 : x1 = u := by
      have q : its.toArray[i]? = some x1 := e1
      have q2 : its[i]? = some x1 := by simpa using q
      exact Option.some.inj (q2.symm.trans gu)
    have f2 : x2 = v := by
      have q : jts.toArray[i]? = some x2 := e2
      have q2 : jts[i]? = some x2 := by simpa using q
      exact Option.some.inj (q2.symm.trans gv)
    subst f1 f2
    refine ⟨_, rfl, wpAny_letOwnedTupleGo_zip (s := { s with heap := h', toks := tk }) hz' fun h'' hz2 sb => ?_⟩
    have hT2 : h''.get? s.heap.objs.size = some { cls := .type "tuple", data := .seq #[x1, x2] } := (sb.2 _ (Nat.ne_of_gt zl)).trans hT
    have fr : H s.heap.objs.size = none := I.hok.fresh (Nat.le_refl _)
    have I1 : Inv X pins σ (upd H s.heap.objs.size (.tup [x, y])) { s with heap := h'', toks := tk } :=
      I.turnedNew (ch := zmCells z TI TO i1 i2) (fun c o hb q => (sb.2 c (zm_out hb).1).trans (keep c o (zm_out hb).1 (zm_out hb).2.1 (zm_out hb).2.2.1 (zm_out hb).2.2.2 q)) own (Nat.le_refl _)
        ⟨by show 2 ≤ sizeLine; decide, [x1, x2], .cons ru (.cons rv .nil), ⟨_, hT2, rfl, _, rfl⟩⟩
    refine ⟨.ref s.heap.objs.size, _, I1, rfl, ⟨_, x, y, rfl, fr, rfl, fun l hl => by rw [I.list_inj hl qa]; exact gx, fun l hl => by rw [I.tuple_inj hl qb]; exact gy⟩, ⟨hz2, ?_, ⟨x1, x2, ?_⟩, ?_, ?_⟩, fun c hcm => ?_⟩
    · exact (sb.2 _ D.s.TIz).trans (keep _ _ D.s.TIz D.s.TITO D.s.TIi1 D.s.TIi2 hI)
    · exact (sb.2 _ D.s.TOz).trans hO'
    · exact t1.1.at fun o q => (sb.2 _ (Ne.symm D.s.zi1)).trans q
    · exact t2.1.at fun o q => (sb.2 _ (Ne.symm D.s.zi2)).trans q
    · have lt : c < s.heap.objs.size := by
        simp only [zmCells, List.mem_cons, List.not_mem_nil, or_false] at hcm
        rcases hcm with rfl | rfl | rfl | rfl | rfl
        · exact zl
        · exact Heap.lt_size hI
        · exact Heap.lt_size hO
        · obtain ⟨_, q, _⟩ := h1; exact Heap.lt_size q
        · obtain ⟨_, q, _⟩ := h2; exact Heap.lt_size q
      rw [upd_ne (Nat.ne_of_lt lt)]
      exact (own c hcm).1
  · intro X eP ew eK calm i pins s σ H E I own st stop
    subst eP ew eK
    obtain ⟨hz, hI, ⟨x0, y0, hO⟩, h1, h2⟩ := st
    obtain ⟨xs, ys, qa, qb, el, ei⟩ := stop
    obtain ⟨its, ra, pa, _⟩ := I.list qa
    obtain ⟨jts, rb, pb, _⟩ := I.tuple qb
    have l1 := ra.length
    have l2 := rb.length
    refine wpAny_pyNext_zipD2_end D.s (Draws.list (prog := X.prog) (w := X.w) (A := X.A.in1) (I.ok.hd calm) i1 a D.a1 its.toArray) (Draws.tuple (prog := X.prog) (w := X.w) (A := X.A.in1) (I.ok.hd calm) i2 b D.b2 jts.toArray) hz hI hO ⟨h1, pa.isList⟩ ⟨h2, pb⟩ (by simp; omega) (by simp; omega) (.inl (by simp; omega)) fun h' tk keep => ?_
    exact ⟨rfl, I.turnedL (t' := tk) (ch := zmCells z TI TO i1 i2) (fun c o hb q => keep c o (zm_out hb).1 (zm_out hb).2.1 (zm_out hb).2.2.1 (zm_out hb).2.2.2 q) own⟩
  · intro A i s Q E st h
    exact wpAny_pyIter_zip st.1 h
def iZipM (K : PySem.W.Frag) (ta : TA) : TI := fun σ H R => ta σ H fun vs H1 => ∃ a b xs ys, vs = [.ref a, .ref b] ∧ SqL K H1 a xs ∧ SqT K H1 b ys ∧ R (ItzM K a b) H1
theorem pi_zipM {X : Cx} {e e2 : Expr} {ta : TA} {p pos tpos : Pos} {elts : List Expr} {kk : Nat} (hg : Gl X "zip") (hm : X.mg "zip" = none) (ha : PA X [e, e2] ta)
    (hs : starEach [e, e2] X.env = (false, eval e X.env) :: starEach [e2] X.env := by rfl) (hpl : (backTo pos (starEach [e2] X.env)).any (·.1) = false := by rfl) :
    PI X (.Tuple elts kk tpos) (.Call (.Name "zip" p) [e, e2] [] pos) (iZipM X.K ta) := by
  refine ⟨fun pins s σ H R I h => ?_⟩
  refine Call_ (ld_blt I hg hm boot_zip (callWith_type1 (thn (ha.run pos pins s σ H _ I h) fun us s1 ⟨vs, H1, I1, r1, q1⟩ => ?_) hs hpl))
  obtain ⟨a, b, xs, ys, ex, qa, qb, q⟩ := q1
  subst ex
  obtain ⟨u, u2, rfl, ru, ru2⟩ := vals2 r1
  cases ru
  cases ru2
  obtain ⟨its, ra, pa, _⟩ := I1.list qa
  obtain ⟨jts, rb, pb, _⟩ := I1.tuple qb
  have la : a < s1.heap.objs.size := pa.lt
  have lb : b < s1.heap.objs.size := by obtain ⟨_, z, _⟩ := id pb; exact Heap.lt_size z
  generalize hN : s1.heap.objs.size = N at la lb
  have la' : @LT.lt Nat _ a N := la
  have lb' : @LT.lt Nat _ b N := lb
  refine zip_begins2 (begins_list a its.toArray) (begins_tuple b jts.toArray) pa.isList pb fun h' hz hI hO g1 g2 hsz keep => wpAny_pyIter_zip hz ?_
  rw [hN] at hz hI hO g1 g2
  rw [hN]
  have D : ZmApart (N + 4) (N + 2) (N + 3) N (N + 1) a b := by
    refine ⟨?_, Nat.ne_of_lt la, Nat.ne_of_lt (Nat.lt_succ_of_lt lb)⟩
    constructor <;> first
      | (intro q; have q' : @Eq Nat _ _ := q; omega)
      | exact List.mem_cons_self
      | (intro q; rcases List.mem_cons.mp q with q | q
         · have q' : @Eq Nat _ _ := q; omega
         · have q' : @Eq Nat _ _ := List.mem_singleton.mp q; omega)
  refine ⟨N + 4, zmCells (N + 4) (N + 2) (N + 3) N (N + 1), _, _, H1, rfl, I1.kept (t' := s1.toks) keep, turn_zipM D, ⟨hz, hI, ⟨_, _, hO⟩, ⟨_, g1, rfl, rfl⟩, ⟨_, g2, rfl, rfl⟩⟩, fun c hc => ?_, q⟩
  have hle : s1.heap.objs.size ≤ c := by
    rw [hN]
    simp only [zmCells, List.mem_cons, List.not_mem_nil, or_false] at hc
    rcases hc with rfl | rfl | rfl | rfl | rfl
    · exact Nat.le_add_right _ _
    · exact Nat.le_add_right _ _
    · exact Nat.le_add_right _ _
    · exact Nat.le_refl _
    · exact Nat.le_add_right _ _
  exact I1.fpOk hle (I1.hok.fresh hle)
theorem walk_zipM {K : PySem.W.Frag} {a b : Addr} {xs ys : List V} {n : Nat} (h1 : xs.length = n) (h2 : ys.length = n) : Walk (ItzM K a b) n (fun H => SqL K H a xs ∧ SqT K H b ys) (YPair (fun i => xs[i]?) (fun i => ys[i]?)) := by
  refine ⟨fun i _ hi q => ⟨xs, ys, xs[i], ys[i], q.1, q.2, by simp [show i < xs.length by omega], by simp [show i < ys.length by omega]⟩, fun _ q => ⟨xs, ys, q.1, q.2, by omega, h1⟩, fun i H v H' _ q y => ?_⟩
  obtain ⟨T, x, z, e1, e2, e3, e4, e5⟩ := y
  exact ⟨T, x, z, e1, e2, e3, e4 xs q.1, e5 ys q.2⟩
end L2
end
section
set_option Elab.async false
set_option linter.all false
set_option maxRecDepth 100000
set_option maxHeartbeats 2000000
set_option autoImplicit false
namespace Sh
open PySem PySem.Spec PyProof.Rows L2
open C8 (pss_cut tCut)
open Evl (ixN_nat)
abbrev fill (ls : List (List Str)) (l : List Str) : List Str := Mth.fil ("*" : Str) ls l l.length
def spChks (C : Addr) (A : XA) : Sp := fun vs H Q E => ∃ (b s : Addr) (rows : List Row) (ts : List Addr) (ls : List (List Str)), vs = [.ref b, .ref s] ∧ BedAt C H b rows ∧ ROk 8 rows ∧ Tq H s (ts.map V.ref) ∧ TsAt sV H ts ls ∧ (∀ l ∈ ls, l.length ≤ 6000) ∧ Way A E H (fbad rows true ls) (∀ H', Same H H' → Q .non H')
def RanksS (ns l : List Str) (ks : List Int) : Prop := ks.length = l.length ∧ ∀ (i : Nat) (z : Str), l[i]? = some z → (∃ j : Nat, ns[j]? = some z ∧ ks[i]? = some ((j : Nat) : Int)) ∨ (z = "*" ∧ ks[i]? = some ((ns.length : Nat) : Int))
theorem RanksS.snoc {ns l : List Str} {ks : List Int} {i : Nat} {z : Str} {k : Int} (x : RanksS ns (l.take i) ks) (h : l[i]? = some z) (hk : (∃ j : Nat, ns[j]? = some z ∧ k = ((j : Nat) : Int)) ∨ (z = "*" ∧ k = ((ns.length : Nat) : Int))) : RanksS ns (l.take (i + 1)) (ks ++ [k]) := by
  have hil := lt_of_get h
  have hx := x.1
  rw [List.length_take] at hx
  have hm : ks.length = i := by omega
  refine ⟨by rw [List.length_append, List.length_take, List.length_singleton]; omega, fun j y hj => ?_⟩
  rw [← take_snoc h] at hj
  by_cases e : j < i
  · rw [List.getElem?_append_left (by rw [List.length_take]; omega)] at hj
    rw [List.getElem?_append_left (by omega)]
    exact x.2 j y hj
  · have hj2 : j = i := by
      have q := lt_of_get hj
      rw [List.length_append, List.length_take, List.length_singleton] at q
      omega
    subst hj2
    rw [List.getElem?_append_right (by rw [List.length_take]; omega)] at hj
    rw [List.length_take, show j - min j l.length = 0 by omega] at hj
    cases hj
    rw [List.getElem?_append_right (by omega), hm, Nat.sub_self]
    rcases hk with ⟨n, a, b⟩ | ⟨a, b⟩
    · exact .inl ⟨n, a, by rw [b]; rfl⟩
    · exact .inr ⟨a, by rw [b]; rfl⟩
def SkeyAt (rows : List Row) (l : List Str) (H : Hp) (q : Addr) : Prop := ∃ u ks, H q = some (.tup [.int ((l.length : Nat) : Int), .ref u]) ∧ H u = some (.tup (ks.map V.int)) ∧ RanksS (rows.map (·.1)) l ks
def HolesAt (rows : List Row) (l : List Str) (H : Hp) (q : Addr) : Prop := ∃ ts, H q = some (.tup (ts.map V.ref)) ∧ TsAt pV H ts ((Mth.hps ("*" : Str) l).map (Mth.pth (wR rows) l))
def spStR (C : Addr) (A : XA) (f : List Row → List Str → Hp → Addr → Prop) : Sp := fun vs H Q E => ∃ (b t : Addr) (rows : List Row) (l : List Str), vs = [.ref b, .ref t] ∧ BedAt C H b rows ∧ ROk 8 rows ∧ Tq H t (l.map V.str) ∧ l.length ≤ 6000 ∧ Way A E H (due rows true l) (∀ H' q, Same H H' → f rows l H' q → Q (.ref q) H')
def spFillH (K : PySem.W.Frag) : Sp := fun vs H Q _ => ∃ (t p : Addr) (l : List Str) (ts : List Addr) (ls : List (List Str)), vs = [.ref t, .ref p] ∧ Tq H t (l.map V.str) ∧ l.length ≤ 2000 ∧ Tq H p (ts.map V.ref) ∧ TsAt sV H ts ls ∧ (∀ x ∈ ls, x.length ≤ 2000) ∧ ls.length ≤ 20 ∧ l.count ("*" : Str) = ls.length ∧
  ∀ H' q, Same H H' → H q = none → H' q = some (.lst (sV (fill ls l))) → Q (.ref q) H'
def fdue (rows : List Row) (l : List Str) (ls : List (List Str)) : Option Ex := match due rows true l with
  | some x => some x
  | none => if l.count ("*" : Str) ≠ ls.length then some (.wrong (l.count ("*" : Str)) ls.length) else match fbad rows true ls with
    | some x => some x
    | none => if 2000 < (fill ls l).length then some .many else none
def spFilled (C : Addr) (A : XA) : Sp := fun vs H Q E => ∃ (b t p : Addr) (rows : List Row) (l : List Str) (ts : List Addr) (ls : List (List Str)), vs = [.ref b, .ref t, .ref p] ∧ BedAt C H b rows ∧ ROk 8 rows ∧ Tz H t (l.map V.str) ∧ l.length ≤ 6000 ∧ Tq H p (ts.map V.ref) ∧ TsAt sV H ts ls ∧ (∀ l ∈ ls, l.length ≤ 6000) ∧ ls.length ≤ 20 ∧
  Way A E H (fdue rows l ls) (∀ H' r, Same H H' → Tq H' r (sV (fill ls l)) → Q (.ref r) H')
theorem fbad_none {rows : List Row} {hole : Bool} : ∀ {ls : List (List Str)}, fbad rows hole ls = none → ∀ l ∈ ls, due rows hole l = none
  | [], _, _, h => nomatch h
  | a :: r, h, l, hl => by
    unfold fbad at h
    rw [List.findSome?_cons] at h
    cases e : due rows hole a with
    | some x => rw [e] at h; cases h
    | none =>
      rw [e] at h
      rcases List.mem_cons.mp hl with q | q
      · rw [q]; exact e
      · exact fbad_none h l q
theorem fbad_at {rows : List Row} {hole : Bool} {ls : List (List Str)} {i : Nat} (hil : i < ls.length) : fbad rows hole (ls.drop i) = match due rows hole ls[i] with | some x => some x | none => fbad rows hole (ls.drop (i + 1)) := by
  rw [List.drop_eq_getElem_cons hil]
  unfold fbad
  rw [List.findSome?_cons]
  cases due rows hole ls[i] <;> rfl
abbrev s_check_stumps : Stmt := top 20
abbrev N_check_stumps : List Str := ["bed", "stumps", "stump"]
theorem sc_check_stumps : FnScope N_check_stumps ["bed", "stumps"] (defScope s_check_stumps) := ⟨rfl, rfl, rfl, by decide +kernel, rfl, by decide +kernel, by decide +kernel⟩
abbrev s_stump_key : Stmt := top 21
abbrev N_stump_key : List Str := ["bed", "stump", "entry"]
theorem sc_stump_key : FnScope N_stump_key ["bed", "stump"] (defScope s_stump_key) := ⟨rfl, rfl, rfl, by decide +kernel, rfl, by decide +kernel, by decide +kernel⟩
abbrev s_holes : Stmt := top 22
abbrev N_holes : List Str := ["bed", "stump", "path", "entry"]
theorem sc_holes : FnScope N_holes ["bed", "stump"] (defScope s_holes) := ⟨rfl, rfl, rfl, by decide +kernel, rfl, by decide +kernel, by decide +kernel⟩
abbrev s_filled_holes : Stmt := top 24
abbrev N_filled_holes : List Str := ["stump", "pieces", "entries", "given", "entry"]
theorem sc_filled_holes : FnScope N_filled_holes ["stump", "pieces"] (defScope s_filled_holes) := ⟨rfl, rfl, rfl, by decide +kernel, rfl, by decide +kernel, by decide +kernel⟩
abbrev s_filled : Stmt := top 23
abbrev N_filled : List Str := ["bed", "stump", "pieces", "wanted", "entries"]
theorem sc_filled : FnScope N_filled ["bed", "stump", "pieces"] (defScope s_filled) := ⟨rfl, rfl, rfl, by decide +kernel, rfl, by decide +kernel, by decide +kernel⟩
section
variable {P : Program} {w : World} {K : PySem.W.Frag} {mg : Str → Option Value} {base : Heap} {C : Addr} {A : XA}
theorem ok_check_stumps (T : Bk mg) (c_check_stump : DefOk P w K mg base (L2.CX P w) 3 "check_stump" (spChk C A true)) (D : Def0 K mg "check_stumps" s_check_stumps) : DefOk P w K mg base (L2.CX P w) 4 "check_stumps" (spChks C A) := by
  refine D.okX sc_check_stumps (fun vs H Q E h => ?_) (fun _ _ _ _ _ _ us hl => match us, hl with | [_, _], _ => rfl) (fun f cdv A' outer s H vs Q E hr h => ?_)
  · obtain ⟨b, s, rows, ts, ls, rfl, _⟩ := h
    rfl
  · obtain ⟨b, p, rows, ts, ls, rfl, hB, R, hp, hT, hO, k⟩ := h
    refine ⟨_, (pss_one (ps_for (passes_of rfl) rfl (pi_tup (pv 1)) (pg_name (i := 2) sc_check_stumps.nd rfl (Or.inl rfl))
        (pss_one (ps_expr (pe_d c_check_stump (hr.mono (by decide)) (passes_call (takes_of rfl rfl rfl rfl) fun _ _ _ _ h => h) (pa_cons (pv 0) (pa_cons (pv 2) pa_nil))))))), ?_⟩
    refine ⟨_, rfl, p, rfl, ⟨_, hp.sq⟩, for_it (walk_tup (xs := ts.map V.ref)) (fun i σ H' => ∃ (x : Option V), σ = [some (.ref b), some (.ref p), x] ∧ Same H H' ∧ fbad rows true ls = fbad rows true (ls.drop i))
      ⟨none, rfl, Same.refl H, by rw [List.drop_zero]⟩ (fun i σ H' _ ⟨_, _, q, _⟩ => (hp.same q).sq) ?_ ?_⟩
    · rintro i v σ H2 H3 hi ⟨x, rfl, s2, hf⟩ ⟨rfl, hv⟩
      have hil : i < ls.length := by rw [List.length_map, hT.1] at hi; exact hi
      obtain ⟨t, t1, t2, t3⟩ := hT.at hil
      rw [t2] at hv
      cases hv
      rw [fbad_at hil] at hf
      refine ⟨_, rfl, _, rfl, b, t, rows, ls[i], rfl, hB.same s2, R, t3.same s2, hO _ (List.getElem_mem hil), ?_⟩
      cases hd : due rows true ls[i] with
      | some x =>
        rw [hd] at hf
        rw [hf] at k
        exact Rz.same k s2
      | none =>
        rw [hd] at hf
        intro H4 s3
        exact ⟨_, rfl, s2.trans s3, hf⟩
    · rintro σ H2 ⟨x, rfl, s2, hf⟩
      rw [List.length_map, hT.1, List.drop_length] at hf
      rw [hf] at k
      exact k _ s2
theorem ok_stump_key (T : Bk mg) (B : BedT K C) (c_check_stump : DefOk P w K mg base (L2.CX P w) 3 "check_stump" (spChk C A true)) (D : Def0 K mg "stump_key" s_stump_key) : DefOk P w K mg base (L2.CX P w) 4 "stump_key" (spStR C A SkeyAt) := by
  refine D.okX sc_stump_key (fun vs H Q E h => ?_) (fun _ _ _ _ _ _ us hl => match us, hl with | [_, _], _ => rfl) (fun f cdv A outer s H vs Q E hr h => ?_)
  · obtain ⟨b, t, rows, l, rfl, _⟩ := h
    rfl
  · obtain ⟨b, t, rows, l, rfl, hB, R, ht, hlen, k⟩ := h
    have hu := hu_of hr
    refine ⟨_, (pss_cons (ps_expr (pe_d c_check_stump (hr.mono (by decide)) (passes_call (takes_of rfl rfl rfl rfl) fun _ _ _ _ h => h) (pa_cons (pv 0) (pa_cons (pv 1) pa_nil))))
      (pss_one (ps_ret (pe_tup (pa_cons (pe_callB call_len_seq (by rfl) T.b_len boot_len (pa_cons (pv 1) pa_nil)) (pa_cons (pe_callTy call_tuple_of (by rfl) T.b_tuple (by decide +kernel) (pa_cons (pe_lc (own := [("entry", 2)]) (g := (gName 2)) (tt := tYes) rfl sc_stump_key.nd (pi_tup (pv 1)) (blkOk_by (N := N_stump_key) (sc := defScope s_stump_key) (by decide +kernel)) (fun _ _ _ _ _ => (pg_name (i := 2) sc_stump_key.nd rfl (Or.inl rfl))) (fun _ _ _ _ _ => pts_nil) (fun _ _ _ _ _ => (pe_dget2 hu (show PE _ _ (tFld K _ _) from pe_fld (pv 0) rfl) (pv 2) (pe_callB (show CallR _ _ (Evl.rLenS K) from call_len_seq) (by rfl) T.b_len boot_len (pa_cons (show PE _ _ (tFld K _ _) from pe_fld (pv 0) rfl) pa_nil)) ⟨rfl, rfl, rfl, rfl⟩))) pa_nil)) pa_nil)))))), ?_⟩
    refine ⟨_, rfl, _, rfl, b, t, rows, l, rfl, hB, R, ht, hlen, way2 k fun hd k => ?_⟩
    have O := due_stump R hd
    have hsz := O.sz
    intro H1 s1
    refine ⟨_, rfl, t, _, rfl, .inr ((ht.same s1).sq), _, rfl, t, rfl, ⟨_, (ht.same s1).sq⟩, fun D hD => lc_it (walk_tup (xs := l.map V.str)) (fun i H' => Same H1 H' ∧ ∃ ks, H' D = some (.lst (ks.map V.int)) ∧ RanksS (rows.map (·.1)) (l.take i) ks) ⟨(Same.refl H1).upd_new hD, [], upd_same, rfl, fun i z h => by simp at h⟩ (fun i H' _ ⟨q, _⟩ => ((ht.same s1).same q).sq) ?_ ?_⟩
    · rintro i v H2 H3 hi ⟨s2, ks, q1, q2⟩ ⟨rfl, hv⟩
      have hil : i < l.length := by rw [List.length_map] at hi; exact hi
      rw [List.getElem?_map, List.getElem?_eq_getElem hil] at hv
      cases hv
      obtain ⟨dx, r, kk, ww, rk, ts, h1, h2, h3, h4, h5, h6⟩ := (hB.same s1).same s2
      have hlk : ks.length < sizeLine := by
        have := q2.1
        rw [List.length_take] at this
        exact lt_line (by omega)
      refine ⟨rfl, _, rfl, b, C, dx, _, _, rfl, h1, B.cl, B.nRk, lk_ranks _ _ _ _, rk, rfl, .inl ⟨_, .inl h6⟩, _, rfl, _, rfl, b, C, dx, _, _, rfl, h1, B.cl, B.nK, lk_kinds _ _ _ _, kk, _, rfl, .inr (SqT.of h4), _, DGet.k (k := .inr l[i]) h6, ?_⟩
      rcases O.k _ (List.getElem_mem hil) with e | ⟨q, hq, eq⟩
      · have hn : valV (rkL (rows.map (·.1))) (.inr l[i]) = none := valV_none fun kv hkv => by
          unfold rkL at hkv
          obtain ⟨y, hy, rfl⟩ := List.mem_map.mp hkv
          have hm : y.1 ∈ rows.map (·.1) := by
            obtain ⟨n, hn, en⟩ := List.mem_iff_getElem.mp hy
            rw [List.getElem_zipIdx] at en
            rw [← en]
            exact List.getElem_mem _
          intro c
          have c2 : y.1 = l[i] := Sum.inr.inj c
          obtain ⟨x, hx, ex⟩ := List.mem_map.mp hm
          have n := (R.nm x hx).2.2 42 (by rw [ex, c2, e]; decide +kernel)
          omega
        rw [hn]
        refine ⟨_, q1, by rw [List.length_map]; exact hlk, s2.upd_own hD, ks ++ [((rows.length : Nat) : Int)], ?_, q2.snoc (List.getElem?_eq_getElem hil) (.inr ⟨e, by rw [List.length_map]⟩)⟩
        rw [upd_same, List.map_append]
        rw [List.length_map, List.length_map]
        rfl
      · obtain ⟨j, hj, ej⟩ := List.mem_iff_getElem.mp (List.mem_map_of_mem (f := (·.1)) hq)
        have hv : valV (rkL (rows.map (·.1))) (.inr l[i]) = some (.int ((j : Nat) : Int)) := by
          rw [← valV_rk R.nd hj, ej, eq]
        rw [hv]
        refine ⟨_, q1, by rw [List.length_map]; exact hlk, s2.upd_own hD, ks ++ [((j : Nat) : Int)], by rw [upd_same, List.map_append]; rfl, q2.snoc (List.getElem?_eq_getElem hil) (.inl ⟨j, by rw [List.getElem?_eq_getElem hj, ej, eq], rfl⟩)⟩
    · rintro H2 ⟨s2, ks, q1, q2⟩
      rw [List.length_map, List.take_length] at q2
      refine ⟨D, _, rfl, .inl ⟨SqL.of q1, fun u hu1 => ?_⟩⟩
      have s3 := (s1.trans s2).upd_new (o := .tup (ks.map V.int)) hu1
      refine ⟨le_line (show 2 ≤ 100000 by decide), fun q hq => k _ q (s3.upd_new hq) ⟨u, ks, ?_, ?_, q2⟩⟩
      · rw [upd_same, List.length_map]
      · rw [upd_ne (ne_of_none upd_same hq)]
        exact upd_same
theorem ok_holes (T : Bk mg) (B : BedT K C) (c_check_stump : DefOk P w K mg base (L2.CX P w) 3 "check_stump" (spChk C A true)) (c_paths_of : DefOk P w K mg base CX0 1 "paths_of" (spPaths C)) (D : Def0 K mg "holes" s_holes) : DefOk P w K mg base (L2.CX P w) 4 "holes" (spStR C A HolesAt) := by
  refine D.okX sc_holes (fun vs H Q E h => ?_) (fun _ _ _ _ _ _ us hl => match us, hl with | [_, _], _ => rfl) (fun f cdv A outer s H vs Q E hr h => ?_)
  · obtain ⟨b, t, rows, l, rfl, _⟩ := h
    rfl
  · obtain ⟨b, t, rows, l, rfl, hB, R, ht, hlen, k⟩ := h
    have hu := hu_of hr
    refine ⟨_, (pss_cons (ps_expr (pe_d c_check_stump (hr.mono (by decide)) (passes_call (takes_of rfl rfl rfl rfl) fun _ _ _ _ h => h) (pa_cons (pv 0) (pa_cons (pv 1) pa_nil))))
      (pss_one (ps_ret (pe_callTy call_tuple_of (by rfl) T.b_tuple (by decide +kernel) (pa_cons (pe_lc (own := [("path", 2), ("entry", 3)]) (g := (gTup K 2 (gCons (gName 2) (gCons (gName 3) gNil)))) rfl sc_holes.nd (pi_zipM (by rfl) T.b_zip (pa_cons (pe_d c_paths_of (hr.mono (by decide)) pass0 (pa_cons (pv 0) (pa_cons (pv 1) pa_nil))) (pa_cons (pv 1) pa_nil))) (blkOk_by (N := N_holes) (sc := defScope s_holes) (by decide +kernel)) (fun _ _ _ _ _ => (pg_tup (by rfl) (pgs_cons (pg_name (i := 2) sc_holes.nd rfl (Or.inl rfl)) (pgs_cons (pg_name (i := 3) sc_holes.nd rfl (Or.inl rfl)) pgs_nil)))) (fun _ _ _ _ _ => (pts_one (pt_cmpR op_eq (pv 3) (pe_cS (by rfl) T.c_HOLE) (nomark _)))) (fun _ _ _ _ _ => (pv 2))) pa_nil))))), ?_⟩
    refine ⟨_, rfl, _, rfl, b, t, rows, l, rfl, hB, R, ht, hlen, way2 k fun hd k => ?_⟩
    have O := due_stump R hd
    have hsz := O.sz
    intro H1 s1
    refine ⟨_, rfl, _, rfl, b, t, rows, l, rfl, hB.same s1, R, ht.same s1, O.wf, fun H2 q s2 hq ⟨ts, q1, q2⟩ => ?_⟩
    have s3 := s1.trans s2
    have hlx : ts.length = l.length := by rw [q2.1, List.length_map, List.length_range]
    have hD0 : ∀ D, H2 D = none → H1 D = none := fun D hD => by
      cases z : H1 D with
      | none => rfl
      | some o => rw [s2 _ _ z] at hD; cases hD
    refine ⟨_, rfl, q, t, _, _, rfl, SqL.of q1, (ht.same s3).sq, fun D hD => lc_it (walk_zipM (xs := ts.map V.ref) (ys := l.map V.str) (n := l.length) (by rw [List.length_map, hlx]) (by rw [List.length_map])) (fun i H' => Same H2 H' ∧ ∃ hs, H' D = some (.lst (hs.map V.ref)) ∧ TsAt pV H' hs (((List.range i).filter fun j => decide (l[j]? = some ("*" : Str))).map (Mth.pth (wR rows) l))) ⟨(Same.refl H2).upd_new hD, [], upd_same, TsAt.nil⟩ (fun i H' _ ⟨q, _⟩ => ⟨SqL.of (q _ _ q1), ((ht.same s3).same q).sq⟩) ?_ ?_⟩
    · rintro i v H4 H5 hil ⟨s4, hs, d1, d2⟩ ⟨T1, v1, v2, rfl, hT1, rfl, e1, e2⟩
      obtain ⟨u, u1, u2, u3⟩ := q2.at (i := i) (by rw [List.length_map, List.length_range]; exact hil)
      have e1' : (ts.map V.ref)[i]? = some v1 := e1
      rw [u2] at e1'
      cases e1'
      have e2' : (l.map V.str)[i]? = some v2 := e2
      rw [List.getElem?_map, List.getElem?_eq_getElem hil] at e2'
      cases e2'
      have s5 := s4.upd_new (o := .tup [.ref u, .str l[i]]) hT1
      have d1' : (upd H4 T1 (.tup [.ref u, .str l[i]])) D = some (.lst (hs.map V.ref)) := by rw [upd_ne (ne_of_none d1 hT1)]; exact d1
      have hg : ((List.range l.length).map (Mth.pth (wR rows) l))[i]'(by rw [List.length_map, List.length_range]; exact hil) = Mth.pth (wR rows) l i := by
        rw [List.getElem_map, List.getElem_range]
      rw [hg] at u3
      have ef : ((List.range (i + 1)).filter fun j => decide (l[j]? = some ("*" : Str))) = ((List.range i).filter fun j => decide (l[j]? = some ("*" : Str))) ++ if l[i] = ("*" : Str) then [i] else [] := by
        rw [List.range_succ, List.filter_append, List.filter_cons, List.filter_nil, List.getElem?_eq_getElem hil]
        by_cases c : l[i] = ("*" : Str) <;> simp [c]
      refine ⟨T1, _, rfl, SqT.of upd_same, rfl, _, _, rfl, _, _, rfl, rfl, rfl, _, rfl, rfl, _, rfl, ?_⟩
      refine ite2 (fun c => ?_) (fun c => ?_)
      · have c2 := V.str.inj (of_decide_eq_true c)
        rw [if_pos c2] at ef
        refine ⟨_, rfl, _, d1', lt_line ?_, s5.upd_own hD, hs ++ [u], by rw [upd_same, List.map_append]; rfl, ?_⟩
        · rw [List.length_map, d2.1, List.length_map]
          have := List.length_filter_le (fun j => decide (l[j]? = some ("*" : Str))) (List.range i)
          rw [List.length_range] at this
          omega
        · rw [ef, List.map_append]
          have tk : TQ H4 (upd (upd H4 T1 (.tup [.ref u, .str l[i]])) D (.lst (hs.map V.ref ++ [V.ref u]))) := (TQ.new hT1).trans (TQ.lst d1')
          exact (d2.keep tk).snoc (tk _ _ (u3.same s4))
      · have c2 : ¬ l[i] = ("*" : Str) := fun e => c (decide_eq_true (congrArg V.str e))
        rw [if_neg c2, List.append_nil] at ef
        refine ⟨s5, hs, d1', ?_⟩
        rw [ef]
        exact d2.keep (TQ.new hT1)
    · rintro H4 ⟨s4, hs, d1, d2⟩
      refine ⟨D, _, rfl, .inl ⟨SqL.of d1, fun u hu1 => k _ u ((s3.trans s4).upd_new hu1) ⟨hs, upd_same, d2.keep (TQ.new hu1)⟩⟩⟩
theorem ok_filled_holes (T : Bk mg) (D : Def0 K mg "filled_holes" s_filled_holes) : DefOk P w K mg base CX0 1 "filled_holes" (spFillH K) := by
  refine D.ok sc_filled_holes (fun vs H Q E h => ?_) (fun _ _ _ _ _ _ us hl => match us, hl with | [_, _], _ => rfl) (fun f cdv A outer s H vs Q E hr h => ?_)
  · obtain ⟨t, p, l, ts, ls, rfl, _⟩ := h
    rfl
  · obtain ⟨t, p, l, ts, ls, rfl, ht, hlen, hp, hT, hO, h20, hc, k⟩ := h
    refine ⟨_, (pss_cons (ps_set (i := 2) sc_filled_holes.nd rfl (Or.inl rfl) (pe_lst pa_nil))
      (pss_cons (ps_set (i := 3) sc_filled_holes.nd rfl (Or.inl rfl) pe_int)
      (pss_cons (ps_for PassesOwn.never rfl (pi_tup (pv 0)) (pg_name (i := 4) sc_filled_holes.nd rfl (Or.inl rfl))
        (pss_one (ps_if (pt_cmpR op_eq (pv 4) (pe_cS (by rfl) T.c_HOLE) (nomark _))
          (pss_cons (ps_expr (pe_bm PySem.F.plainAttrs_list PySem.F.slot_list_extend PySem.F.type_list_extend mt_extendT (pv 2) (pa_cons (pe_ix ix_tup (pv 1) (pv 3) (fun _ _ => rfl)) pa_nil)))
          (pss_one (ps_aug (i := 3) sc_filled_holes.nd rfl (Or.inl rfl) pe_int ip_add)))
          (pss_one (ps_expr (pe_bm PySem.F.plainAttrs_list PySem.F.slot_list_append PySem.F.type_list_append mt_append (pv 2) (pa_cons (pv 4) pa_nil)))))))
      (pss_one (ps_ret (pv 2)))))), ?_⟩
    refine ⟨le_line (show 0 ≤ 100000 by decide), fun D hD => ?_⟩
    have s1 := (Same.refl H).upd_new (o := .lst []) hD
    have szb : ∀ i, i ≤ l.length → (Mth.fil ("*" : Str) ls l i).length ≤ 42000 := fun i hi => by
      have q := Mth.fil_len ("*" : Str) ls l (by omega) i hi
      have q2 := flat_le (ls := ls.take ((l.take i).count ("*" : Str))) (m := 2000) (n := 20) (fun x hx => hO x (List.mem_of_mem_take hx)) (Nat.le_trans (List.length_take_le' _ _) h20)
      omega
    refine ⟨_, rfl, t, rfl, ⟨_, (ht.same s1).sq⟩, for_it (walk_tup (xs := l.map V.str)) (fun i σ H' => ∃ (x : Option V), σ = [some (.ref t), some (.ref p), some (.ref D), some (.int (((l.take i).count ("*" : Str) : Nat) : Int)), x] ∧ Same H H' ∧ H' D = some (.lst (sV (Mth.fil ("*" : Str) ls l i))))
      ⟨none, rfl, s1, upd_same⟩ (fun i σ H' _ ⟨_, _, q, _⟩ => (ht.same q).sq) ?_ ?_⟩
    · rintro i v σ H2 H3 hi ⟨x, rfl, s2, d2⟩ ⟨rfl, hv⟩
      have hil : i < l.length := by rw [List.length_map] at hi; exact hi
      rw [List.getElem?_map, List.getElem?_eq_getElem hil] at hv
      cases hv
      have hsz := szb i (Nat.le_of_lt hil)
      have hct := Mth.count_take (hole := ("*" : Str)) hil
      have hle : (l.take (i + 1)).count ("*" : Str) ≤ l.count ("*" : Str) := List.Sublist.count_le _ (List.take_sublist _ _)
      have ef : Mth.fil ("*" : Str) ls l (i + 1) = Mth.fil ("*" : Str) ls l i ++ (if l[i] = ("*" : Str) then ls.getD ((l.take i).count ("*" : Str)) [] else [l[i]]) := by
        conv => lhs; unfold Mth.fil
        rw [List.getElem?_eq_getElem hil]
      refine ⟨_, rfl, rfl, _, rfl, ?_⟩
      refine ite2 (fun c => ?_) (fun c => ?_)
      · have c2 := V.str.inj (of_decide_eq_true c)
        rw [if_pos c2] at hct ef
        have hj : (l.take i).count ("*" : Str) < ls.length := by omega
        obtain ⟨u, u1, u2, u3⟩ := hT.at hj
        have eg : ls.getD ((l.take i).count ("*" : Str)) [] = ls[(l.take i).count ("*" : Str)] := by simp [List.getD, hj]
        have hx := hO _ (List.getElem_mem hj)
        refine ⟨_, rfl, .inl ⟨rfl, _, SqL.of d2⟩, _, rfl, _, rfl, p, _, _, _, rfl, rfl, (hp.same s2).sq, at_ofG rfl u2, D, u, _, _, rfl, rfl, d2, (u3.same s2).sq, le_line ?_, ?_⟩
        · unfold sV
          rw [List.length_map, List.length_map]
          omega
        · refine ⟨_, rfl, _, _, rfl, rfl, some (.str l[i]), ?_, s2.upd_own hD, ?_⟩
          · rw [hct, Int.natCast_add]
            rfl
          · rw [upd_same, ef, eg]
            unfold sV
            rw [List.map_append]
      · have c2 : ¬ l[i] = ("*" : Str) := fun e => c (decide_eq_true (congrArg V.str e))
        rw [if_neg c2] at hct ef
        refine ⟨_, rfl, .inl ⟨rfl, _, SqL.of d2⟩, _, rfl, D, _, _, rfl, rfl, d2, lt_line ?_, ?_⟩
        · unfold sV
          rw [List.length_map]
          omega
        · refine ⟨some (.str l[i]), ?_, s2.upd_own hD, ?_⟩
          · rw [hct]
            rfl
          · rw [upd_same, ef]
            unfold sV
            rw [List.map_append]
            rfl
    · rintro σ H2 ⟨x, rfl, s2, d2⟩
      rw [List.length_map] at d2
      exact ⟨_, rfl, k _ _ s2 hD d2⟩
theorem ok_filled (T : Bk mg) (x : XS P w K mg A) (c_check_size : DefOk P w K mg base (L2.CX P w) 2 "check_size" (spSize K A.T)) (c_check_stump : DefOk P w K mg base (L2.CX P w) 3 "check_stump" (spChk C A true)) (c_check_stumps : DefOk P w K mg base (L2.CX P w) 4 "check_stumps" (spChks C A)) (c_filled_holes : DefOk P w K mg base CX0 1 "filled_holes" (spFillH K)) (D : Def0 K mg "filled" s_filled) : DefOk P w K mg base (L2.CX P w) 5 "filled" (spStar 2 (spFilled C A)) := by
  have x_WrongBranches := x.xW
  refine Def0.star (ps := ["bed", "stump"]) (pv := "pieces") D sc_filled (fun kV doc pm an cdv ct => StX.bind_star2 (B := fun us => bindArgs (PySem.W.fnOf "filled" "filled" (defArgs s_filled) (defBody s_filled) (defScope s_filled) .none kV doc pm an cdv ct) ⟨us, []⟩) (fun _ _ => rfl) (fun _ _ _ _ => rfl)) (fun f cdv A' outer s H vs Q E hr h => ?_)
  obtain ⟨b, t, p, rows, l, ts, ls, rfl, hB, R, hz, hlen, hp, hT, hO, h20, k⟩ := h
  have ht := hz.q
  refine ⟨_, (pss_cons (ps_expr (pe_d c_check_stump (hr.mono (by decide)) (passes_call (takes_of rfl rfl rfl rfl) fun _ _ _ _ h => h) (pa_cons (pv 0) (pa_cons (pv 1) pa_nil))))
    (pss_cons (ps_set (i := 3) sc_filled.nd rfl (Or.inl rfl) (pe_mG ty_Z PySem.F.plainAttrs_tuple PySem.F.slot_tuple_count PySem.F.type_tuple_count mt_tcount (pv 1) (pa_cons (pe_cS (by rfl) T.c_HOLE) pa_nil)))
    (pss_cons (ps_if (pt_cmpR op_ne (pe_callB call_len_seq (by rfl) T.b_len boot_len (pa_cons (pv 2) pa_nil)) (pv 3) (nomark _))
      (pss_one (ps_raiseSup rfl x_WrongBranches hr (takes_of rfl rfl rfl rfl) (pa_cons (pv 3) (pa_cons (pe_callB call_len_seq (by rfl) T.b_len boot_len (pa_cons (pv 2) pa_nil)) pa_nil))))
      pss_nil)
    (pss_cons (ps_expr (pe_d c_check_stumps (hr.mono (by decide)) (passes_call (takes_of rfl rfl rfl rfl) fun _ _ _ _ h => h) (pa_cons (pv 0) (pa_cons (pv 2) pa_nil))))
    (pss_cons (ps_set (i := 4) sc_filled.nd rfl (Or.inl rfl) (pe_d c_filled_holes (hr.mono (by decide)) pass0 (pa_cons (pv 1) (pa_cons (pv 2) pa_nil))))
    (pss_cons (ps_expr (pe_d c_check_size (hr.mono (by decide)) (passes_call (takes_of rfl rfl rfl rfl) fun _ _ _ _ h => h) (pa_cons (pv 4) pa_nil)))
    (pss_one (ps_ret (pe_callTy call_tuple_of (by rfl) T.b_tuple (by decide +kernel) (pa_cons (pv 4) pa_nil)))))))))), ?_⟩
  have hlt : (ts.map V.ref).length = ls.length := by rw [List.length_map, hT.1]
  unfold fdue at k
  refine ⟨_, rfl, _, rfl, b, t, rows, l, rfl, hB, R, ht, hlen, ?_⟩
  cases hd : due rows true l with
  | some x => rw [hd] at k; exact k
  | none =>
  rw [hd] at k
  have k1 : Way A E H (if l.count ("*" : Str) ≠ ls.length then some (.wrong (l.count ("*" : Str)) ls.length) else match fbad rows true ls with
    | some x => some x
    | none => if 2000 < (fill ls l).length then some .many else none) (∀ H' r, Same H H' → Tq H' r (sV (fill ls l)) → Q (.ref r) H') := k
  have O := due_stump R hd
  have hsz := O.sz
  have hcl : l.count ("*" : Str) ≤ l.length := List.count_le_length
  intro H1 s1
  refine ⟨_, rfl, ⟨t, _, rfl, hz.same s1⟩, t, l, _, rfl, rfl, (ht.same s1).sq, ?_⟩
  refine ⟨_, rfl, p, _, rfl, .inr (hp.same s1).sq, _, rfl, rfl, _, rfl, ?_⟩
  rw [hlt]
  refine ite2 (fun h => ?_) (fun h => ?_)
  · have hne : l.count ("*" : Str) ≠ ls.length := fun e => by
      rw [e] at h
      simp at h
    rw [if_pos hne] at k1
    exact ⟨_, rfl, _, rfl, p, _, rfl, .inr (hp.same s1).sq, ⟨l.count ("*" : Str), ls.length, by rw [hlt], by omega, by omega⟩, rfl, fun d hd => by rw [hlt]; exact k1 _ d s1 hd⟩
  have heq : l.count ("*" : Str) = ls.length := Classical.byContradiction fun e => h (by simp; omega)
  rw [if_neg (fun q => q heq)] at k1
  refine ⟨_, rfl, _, rfl, b, p, rows, ts, ls, rfl, hB.same s1, R, hp.same s1, hT.keep (TQ.of_same s1), hO, ?_⟩
  cases hf : fbad rows true ls with
  | some x => rw [hf] at k1; exact Rz.same k1 s1
  | none =>
  rw [hf] at k1
  have k2 : Way A E H (if 2000 < (fill ls l).length then some .many else none) (∀ H' r, Same H H' → Tq H' r (sV (fill ls l)) → Q (.ref r) H') := k1
  intro H2 s2
  have st := s1.trans s2
  refine ⟨_, rfl, _, rfl, t, p, l, ts, ls, rfl, ht.same st, hsz, hp.same st, hT.keep (TQ.of_same st), fun x hx => (due_stump R (fbad_none hf x hx)).sz, h20, heq, fun H3 q s3 _ hq => ?_⟩
  have st3 := st.trans s3
  have hln : (sV (fill ls l)).length = (fill ls l).length := by unfold sV; rw [List.length_map]
  refine ⟨_, rfl, q, _, rfl, .inl (SqL.of hq), fun hle => ?_, fun hgt d hd => ?_⟩
  · rw [hln] at hle
    rw [if_neg (by omega)] at k2
    exact ⟨_, rfl, q, _, rfl, .inl ⟨SqL.of hq, fun u hu => k2 _ u (st3.upd_new hu) (.of upd_same)⟩⟩
  · rw [hln] at hgt
    rw [if_pos hgt] at k2
    exact k2 _ d st3 hd
end
end Sh
end
section
set_option Elab.async false
set_option linter.all false
set_option maxRecDepth 100000
set_option maxHeartbeats 2000000
set_option autoImplicit false
namespace Sh
open PySem PySem.Spec PyProof.Rows L2
open C8 (pss_cut tCut)
open Evl (ixN_nat)
/-- what parts gives -/
def PartsV (H : Hp) (v : V) (o : Option (List (List Str))) : Prop := match o with
  | none => v = .non
  | some ps => ∃ q ts, v = .ref q ∧ H q = some (.tup (ts.map V.ref)) ∧ TsAt sV H ts ps
abbrev parts (rows : List Row) (l m : List Str) : Option (List (List Str)) := Mth.prt (wR rows) ("*" : Str) m l 0 []
def spPartsIn (C : Addr) : Sp := fun vs H Q _ => ∃ (b s t : Addr) (rows : List Row) (l m : List Str), vs = [.ref b, .ref s, .ref t] ∧ BedAt C H b rows ∧ ROk 8 rows ∧ Tq H s (l.map V.str) ∧ StumpOk rows l ∧ Tq H t (m.map V.str) ∧ StumpOk rows m ∧ ∀ H' v, Same H H' → PartsV H' v (parts rows l m) → Q v H'
def spPartsFrom : Sp := fun vs H Q _ => ∃ (s t e : Addr) (p : Nat) (rows : List Row) (l m : List Str), vs = [.ref s, .ref t, .ref e, .int (p : Nat)] ∧ ROk 8 rows ∧ Tq H s (l.map V.str) ∧ StumpOk rows l ∧ Tq H t (m.map V.str) ∧ WfOk rows m ∧ p < m.length ∧ EndsAt H e rows m ∧ ∀ H' v, Same H H' → PartsV H' v (Mth.prt (wR rows) ("*" : Str) m l p []) → Q v H'
/-- two stumps, both checked -/
def spSt2 (C : Addr) (A : XA) (f : List Row → List Str → List Str → VK → Hp → Prop) : Sp := fun vs H Q E => ∃ (b s t : Addr) (rows : List Row) (l m : List Str), vs = [.ref b, .ref s, .ref t] ∧ BedAt C H b rows ∧ ROk 8 rows ∧ Tq H s (l.map V.str) ∧ l.length ≤ 6000 ∧ Tq H t (m.map V.str) ∧ m.length ≤ 6000 ∧
  Way A E H (fbad rows true [l, m]) (f rows l m Q H)
def fParts (rows : List Row) (l m : List Str) (Q : VK) (H : Hp) : Prop := ∀ H' v, Same H H' → PartsV H' v (parts rows l m) → Q v H'
def fBegins (rows : List Row) (l m : List Str) (Q : VK) (H : Hp) : Prop := ∀ H', Same H H' → Q (.bl (parts rows l m).isSome) H'
/-- a pair of branches that stand at one place -/
def PairOk (rows : List Row) (q : List Str × List Str) : Prop := (∃ z, q.1 = [z] ∧ q.2 = [z]) ∨ ∃ x y a b, q.1 = x :: a ∧ q.2 = y :: b ∧ x ≠ y ∧ Mth.forest (wR rows) (x :: a) 1 = true ∧ Mth.forest (wR rows) (y :: b) 1 = true
theorem PairOk.pos {rows : List Row} {q : List Str × List Str} (h : PairOk rows q) : 0 < q.1.length ∧ 0 < q.2.length := by
  rcases h with ⟨z, a, b⟩ | ⟨x, y, a, b, e1, e2, _⟩
  · rw [a, b]; exact ⟨Nat.one_pos, Nat.one_pos⟩
  · rw [e1, e2]; exact ⟨Nat.succ_pos _, Nat.succ_pos _⟩
structure CmpOk (rows : List Row) (l m : List Str) (ps : List (List Str × List Str)) : Prop where
  ok : ∀ q ∈ ps, PairOk rows q
  e1 : (ps.map (·.1)).flatten = l
  e2 : (ps.map (·.2)).flatten = m
def PrsAt (H : Hp) (D : Addr) (ps : List (List Str × List Str)) : Prop := ∃ ts : List Addr, H D = some (.lst (ts.map V.ref)) ∧ ts.length = ps.length ∧ ∀ (i : Nat) (t : Addr) (q : List Str × List Str), ts[i]? = some t → ps[i]? = some q → ∃ a b, Tq H t [.ref a, .ref b] ∧ Tq H a (sV q.1) ∧ Tq H b (sV q.2)
def spCmp (C : Addr) : Sp := fun vs H Q _ => ∃ (b s t : Addr) (rows : List Row) (l m : List Str), vs = [.ref b, .ref s, .ref t] ∧ BedAt C H b rows ∧ ROk 8 rows ∧ Tq H s (l.map V.str) ∧ WfOk rows l ∧ Tq H t (m.map V.str) ∧ WfOk rows m ∧ ∀ H' D ps, Same H H' → H D = none → PrsAt H' D ps → CmpOk rows l m ps → Q (.ref D) H'
abbrev s_parts_from : Stmt := top 28
abbrev N_parts_from : List Str := ["stump", "tree", "ends", "place", "found", "entry"]
theorem sc_parts_from : FnScope N_parts_from ["stump", "tree", "ends", "place"] (defScope s_parts_from) := ⟨rfl, rfl, rfl, by decide +kernel, rfl, by decide +kernel, by decide +kernel⟩
abbrev s_parts_in : Stmt := top 27
abbrev N_parts_in : List Str := ["bed", "stump", "tree"]
theorem sc_parts_in : FnScope N_parts_in ["bed", "stump", "tree"] (defScope s_parts_in) := ⟨rfl, rfl, rfl, by decide +kernel, rfl, by decide +kernel, by decide +kernel⟩
abbrev s_parts : Stmt := top 26
abbrev N_parts : List Str := ["bed", "stump", "other"]
theorem sc_parts : FnScope N_parts ["bed", "stump", "other"] (defScope s_parts) := ⟨rfl, rfl, rfl, by decide +kernel, rfl, by decide +kernel, by decide +kernel⟩
abbrev s_begins : Stmt := top 25
abbrev N_begins : List Str := ["bed", "stump", "other"]
theorem sc_begins : FnScope N_begins ["bed", "stump", "other"] (defScope s_begins) := ⟨rfl, rfl, rfl, by decide +kernel, rfl, by decide +kernel, by decide +kernel⟩
abbrev s_compared : Stmt := top 31
abbrev N_compared : List Str := ["bed", "first", "second", "first_ends", "second_ends", "pairs", "left", "right", "left_end", "right_end"]
theorem sc_compared : FnScope N_compared ["bed", "first", "second"] (defScope s_compared) := ⟨rfl, rfl, rfl, by decide +kernel, rfl, by decide +kernel, by decide +kernel⟩
section
variable {P : Program} {w : World} {K : PySem.W.Frag} {mg : Str → Option Value} {base : Heap} {C : Addr} {A : XA}
theorem ok_parts_from (T : Bk mg) (D : Def0 K mg "parts_from" s_parts_from) : DefOk P w K mg base CX0 1 "parts_from" spPartsFrom := by
  refine D.ok sc_parts_from (fun vs H Q E h => ?_) (fun _ _ _ _ _ _ us hl => match us, hl with | [_, _, _, _], _ => rfl) (fun f cdv A outer s H vs Q E hr h => ?_)
  · obtain ⟨s, t, e, p, rows, l, m, rfl, _⟩ := h
    rfl
  · obtain ⟨s, t, e, p0, rows, l, m, rfl, R, hs, O, ht, O2, hp0, he, k⟩ := h
    have hsz := O.sz
    have hsz2 := O2.sz
    have w0 : wR rows "*" = 0 := by
      rcases nm_case R ("*" : Str) with q | q
      · exact q.2.1
      · have := nm_star R
        omega
    obtain ⟨n00, hF0⟩ := Mth.Fst.all (wR rows) O2.f p0 (Nat.le_of_lt hp0)
    obtain ⟨n0, rfl⟩ := hF0.pos _ hp0
    refine ⟨_, (pss_cons (ps_set (i := 4) sc_parts_from.nd rfl (Or.inl rfl) (pe_lst pa_nil))
      (pss_cons (ps_for PassesOwn.never rfl (pi_tup (pv 0)) (pg_name (i := 5) sc_parts_from.nd rfl (Or.inl rfl))
        (pss_one (ps_if (pt_cmpR op_eq (pv 5) (pe_cS (by rfl) T.c_HOLE) (nomark _))
          (pss_cons (ps_expr (pe_bm PySem.F.plainAttrs_list PySem.F.slot_list_append PySem.F.type_list_append mt_append (pv 4) (pa_cons (pe_slice sl_tupA (pv 1) (po_some (pv 3)) (po_some (pe_ix ix_list (pv 2) (pv 3) (fun _ _ => rfl)))) pa_nil)))
          (pss_one (ps_set (i := 3) sc_parts_from.nd rfl (Or.inl rfl) (pe_ix ix_list (pv 2) (pv 3) (fun _ _ => rfl)))))
          (pss_one (ps_if (pt_cmpR op_eq (pv 5) (pe_ix ix_tup (pv 1) (pv 3) (fun _ _ => rfl)) (nomark _))
            (pss_one (ps_aug (i := 3) sc_parts_from.nd rfl (Or.inl rfl) pe_int ip_add))
            (pss_one (ps_ret pe_non)))))))
      (pss_one (ps_ret (pe_callTy call_tuple_of (by rfl) T.b_tuple (by decide +kernel) (pa_cons (pv 4) pa_nil)))))), ?_⟩
    refine ⟨le_line (show 0 ≤ 100000 by decide), fun D hD => ?_⟩
    have s2 := (Same.refl H).upd_new (o := .lst []) hD
    have hDH := hD
    have he2 : (upd H D (.lst [])) e = some (.lst ((Mth.ends (wR rows) m).map V.int)) := by rw [upd_ne (ne_of_none he hD)]; exact he
    refine ⟨_, rfl, s, rfl, ⟨_, (hs.same s2).sq⟩, for_it (walk_tup (xs := l.map V.str)) (fun i σ H' => ∃ (x : Option V) (p n : Nat) (ts : List Addr) (ps : List (List Str)), σ = [some (.ref s), some (.ref t), some (.ref e), some (.int (p : Nat)), some (.ref D), x] ∧ Same H H' ∧ H' e = some (.lst ((Mth.ends (wR rows) m).map V.int)) ∧ H' D = some (.lst (ts.map V.ref)) ∧ TsAt sV H' ts ps ∧
        Mth.Fst (wR rows) l i n ∧ Mth.Fst (wR rows) m p (n + n0) ∧ ps.length ≤ i ∧ Mth.prt (wR rows) ("*" : Str) m (l.drop i) p ps = Mth.prt (wR rows) ("*" : Str) m l p0 [])
      ⟨none, p0, 1, [], [], rfl, s2, he2, upd_same, TsAt.nil, ⟨Nat.zero_le _, O.f⟩, (by rw [Nat.add_comm]; exact hF0), Nat.le_refl _, rfl⟩ (fun i σ H' _ ⟨_, _, _, _, _, _, q, _⟩ => (hs.same q).sq) ?_ ?_⟩
    · rintro i v σ H2 H3 hi ⟨x, p, n, ts, ps, rfl, s3, he3, hD3, hT, F1, F2, hpl, hp⟩ ⟨rfl, hv⟩
      have hil : i < l.length := by rw [List.length_map] at hi; exact hi
      rw [List.getElem?_map, List.getElem?_eq_getElem hil] at hv
      cases hv
      obtain ⟨n', rfl⟩ := F1.pos _ hil
      have hpm : p < m.length := Mth.Fst.lt (wR rows) (m := n' + n0) (by rw [show n' + n0 + 1 = n' + 1 + n0 by omega]; exact F2)
      have G1 := F1.in _ (List.getElem?_eq_getElem hil)
      rw [List.drop_eq_getElem_cons hil] at hp
      have hp' : (if l[i] = ("*" : Str) then Mth.prt (wR rows) ("*" : Str) m (l.drop (i + 1)) (Mth.nxs (wR rows) m p 1) (ps ++ [Mth.cut (wR rows) m p]) else if m[p]? = some l[i] then Mth.prt (wR rows) ("*" : Str) m (l.drop (i + 1)) (p + 1) ps else none) = Mth.prt (wR rows) ("*" : Str) m l p0 [] := hp
      refine ⟨_, rfl, rfl, _, rfl, ?_⟩
      refine ite2 (fun c => ?_) (fun c => ?_)
      · have c2 := V.str.inj (of_decide_eq_true c)
        rw [if_pos c2] at hp'
        rw [c2, w0, Nat.zero_add] at G1
        refine ⟨_, rfl, .inl ⟨rfl, _, SqL.of hD3⟩, _, rfl, _, rfl, _, rfl, _, rfl, _, rfl, e, _, _, _, rfl, rfl, SqL.of he3, int_at (Mth.ends_get (wR rows) hpm) rfl, _, rfl, ?_⟩
        refine slA_of (ht.same s3) (by rw [List.length_map]; exact Mth.nxs_le _ _ _ _) (Mth.nxs_ge _ _ _ (Nat.le_of_lt hpm)) (fun c' H4 s4 hc => ?_)
        have hc' : Tq H4 c' (sV (Mth.cut (wR rows) m p)) := by
          unfold sV Mth.cut
          rw [List.map_take, List.map_drop]
          exact hc
        have hD4 := s4 _ _ hD3
        refine ⟨D, _, _, rfl, rfl, hD4, lt_line (by rw [List.length_map, hT.1]; omega), ?_⟩
        have tk : TQ H3 (upd H4 D (.lst (ts.map V.ref ++ [V.ref c']))) := (TQ.of_same s4).trans (TQ.lst hD4)
        have he4 : (upd H4 D (.lst (ts.map V.ref ++ [V.ref c']))) e = some (.lst ((Mth.ends (wR rows) m).map V.int)) := by
          have ne : e ≠ D := ne_of_none he hD
          rw [upd_ne ne]
          exact s4 _ _ he3
        refine ⟨_, rfl, _, rfl, e, _, _, _, rfl, rfl, SqL.of he4, int_at (Mth.ends_get (wR rows) hpm) rfl, ?_⟩
        refine ⟨_, _, n', ts ++ [c'], ps ++ [Mth.cut (wR rows) m p], rfl, (s3.trans s4).upd_own hDH, he4, by rw [upd_same, List.map_append]; rfl, (hT.keep tk).snoc (TQ.lst hD4 _ _ hc'), G1, ?_, ?_, hp'⟩
        · exact Mth.Fst.skip (wR rows) (a := 1) (b := n' + n0) (by rw [show 1 + (n' + n0) = n' + 1 + n0 by omega]; exact F2)
        · rw [List.length_append, List.length_singleton]
          omega
      · have c2 : ¬ l[i] = ("*" : Str) := fun e => c (decide_eq_true (congrArg V.str e))
        rw [if_neg c2] at hp'
        refine ⟨_, rfl, _, rfl, _, rfl, t, _, _, _, rfl, rfl, (ht.same s3).sq, str_at hpm rfl, rfl, _, rfl, ?_⟩
        refine ite2 (fun d => ?_) (fun d => ?_)
        · have d2 := V.str.inj (of_decide_eq_true d)
          rw [if_pos (by rw [List.getElem?_eq_getElem hpm, d2])] at hp'
          have G2 := Mth.Fst.in (wR rows) (m := n' + n0) (by rw [show n' + n0 + 1 = n' + 1 + n0 by omega]; exact F2) (List.getElem?_eq_getElem hpm)
          rw [← Nat.add_assoc] at G2
          rw [← d2] at G2
          exact ⟨_, rfl, _, _, rfl, rfl, _, p + 1, _, ts, ps, rfl, s3, he3, hD3, hT, G1, G2, by omega, hp'⟩
        · have d2 : ¬ m[p]? = some l[i] := fun e => d (decide_eq_true (congrArg V.str (by rw [List.getElem?_eq_getElem hpm] at e; exact (Option.some.inj e).symm)))
          rw [if_neg d2] at hp'
          exact k _ .non s3 (by rw [← hp']; rfl)
    · rintro σ H2 ⟨x, p, n, ts, ps, rfl, s3, he3, hD3, hT, F1, F2, hpl, hp⟩
      rw [List.length_map, List.drop_length] at hp
      have hp' : some ps = Mth.prt (wR rows) ("*" : Str) m l p0 [] := hp
      exact ⟨_, rfl, D, _, rfl, .inl ⟨SqL.of hD3, fun u hu => k _ _ (s3.upd_new hu) (by rw [← hp']; exact ⟨u, ts, rfl, upd_same, hT.keep (TQ.new hu)⟩)⟩⟩
theorem ok_parts_in (T : Bk mg) (c_ends_of : DefOk P w K mg base CX0 1 "ends_of" (spEnds C)) (c_parts_from : DefOk P w K mg base CX0 1 "parts_from" spPartsFrom) (D : Def0 K mg "parts_in" s_parts_in) : DefOk P w K mg base CX0 2 "parts_in" (spPartsIn C) := by
  refine D.ok sc_parts_in (fun vs H Q E h => ?_) (fun _ _ _ _ _ _ us hl => match us, hl with | [_, _, _], _ => rfl) (fun f cdv A outer s H vs Q E hr h => ?_)
  · obtain ⟨b, s, t, rows, l, m, rfl, _⟩ := h
    rfl
  · obtain ⟨b, s, t, rows, l, m, rfl, hB, R, hs, O, ht, O2, k⟩ := h
    refine ⟨_, (pss_one (ps_ret (pe_d c_parts_from (hr.mono (by decide)) pass0 (pa_cons (pv 1) (pa_cons (pv 2) (pa_cons (pe_d c_ends_of (hr.mono (by decide)) pass0 (pa_cons (pv 0) (pa_cons (pv 2) pa_nil))) (pa_cons pe_int pa_nil))))))), ?_⟩
    refine ⟨_, rfl, _, rfl, _, rfl, _, rfl, b, t, rows, m, rfl, hB, R, ht, O2.wf, fun H1 e s1 _ he => ?_⟩
    exact ⟨s, t, e, 0, rows, l, m, rfl, R, hs.same s1, O, ht.same s1, O2.wf, List.length_pos_iff.mpr (Mth.forest_pos _ O2.f), he, fun H' v s2 hv => k _ _ (s1.trans s2) hv⟩
theorem two_at {H : Hp} {s t : Addr} {l m : List Str} (hs : Tq H s (l.map V.str)) (ht : Tq H t (m.map V.str)) : TsAt sV H [s, t] [l, m] := by
  refine ⟨rfl, fun i u x a b => ?_⟩
  match i, a, b with
  | 0, a, b => cases a; cases b; exact hs
  | 1, a, b => cases a; cases b; exact ht
  | i + 2, a, _ => simp at a
theorem fbad2 {rows : List Row} {l m : List Str} (h : fbad rows true [l, m] = none) : due rows true l = none ∧ due rows true m = none := ⟨fbad_none h l (by simp), fbad_none h m (by simp)⟩
theorem ok_parts (T : Bk mg) (c_check_stumps : DefOk P w K mg base (L2.CX P w) 4 "check_stumps" (spChks C A)) (c_parts_in : DefOk P w K mg base CX0 2 "parts_in" (spPartsIn C)) (D : Def0 K mg "parts" s_parts) : DefOk P w K mg base (L2.CX P w) 5 "parts" (spSt2 C A fParts) := by
  refine D.okX sc_parts (fun vs H Q E h => ?_) (fun _ _ _ _ _ _ us hl => match us, hl with | [_, _, _], _ => rfl) (fun f cdv A' outer s H vs Q E hr h => ?_)
  · obtain ⟨b, s, t, rows, l, m, rfl, _⟩ := h
    rfl
  · obtain ⟨b, s, t, rows, l, m, rfl, hB, R, hs, hl1, ht, hl2, k⟩ := h
    refine ⟨_, (pss_cons (ps_expr (pe_d c_check_stumps (hr.mono (by decide)) (passes_call (takes_of rfl rfl rfl rfl) fun _ _ _ _ h => h) (pa_cons (pv 0) (pa_cons (pe_tup (pa_cons (pv 1) (pa_cons (pv 2) pa_nil))) pa_nil))))
      (pss_one (ps_ret (pe_d c_parts_in (hr.mono (by decide)) pass0 (pa_cons (pv 0) (pa_cons (pv 1) (pa_cons (pv 2) pa_nil))))))), ?_⟩
    refine ⟨_, rfl, _, rfl, _, rfl, le_line (show 2 ≤ 100000 by decide), fun p hp => ?_⟩
    have s1 := (Same.refl H).upd_new (o := .tup [.ref s, .ref t]) hp
    refine ⟨b, p, rows, [s, t], [l, m], rfl, hB.same s1, R, .of upd_same, two_at (hs.same s1) (ht.same s1), fun x hx => ?_, way2 (Way.same s1 (fun k => k) k) fun hd k => ?_⟩
    · rcases List.mem_cons.mp hx with q | q
      · rw [q]; exact hl1
      · rw [List.mem_singleton.mp q]; exact hl2
    · obtain ⟨d1, d2⟩ := fbad2 hd
      intro H1 s2
      have st := s1.trans s2
      exact ⟨_, rfl, _, rfl, _, rfl, b, s, t, rows, l, m, rfl, hB.same st, R, hs.same st, due_stump R d1, ht.same st, due_stump R d2, fun H' v s3 hv => k _ _ (st.trans s3) hv⟩
theorem ok_begins (T : Bk mg) (c_parts : DefOk P w K mg base (L2.CX P w) 5 "parts" (spSt2 C A fParts)) (D : Def0 K mg "begins" s_begins) : DefOk P w K mg base (L2.CX P w) 6 "begins" (spSt2 C A fBegins) := by
  refine D.okX sc_begins (fun vs H Q E h => ?_) (fun _ _ _ _ _ _ us hl => match us, hl with | [_, _, _], _ => rfl) (fun f cdv A' outer s H vs Q E hr h => ?_)
  · obtain ⟨b, s, t, rows, l, m, rfl, _⟩ := h
    rfl
  · obtain ⟨b, s, t, rows, l, m, rfl, hB, R, hs, hl1, ht, hl2, k⟩ := h
    refine ⟨_, (pss_one (ps_ret (pe_cmpR op_notN (pe_d c_parts (hr.mono (by decide)) (passes_call (takes_of rfl rfl rfl rfl) fun _ _ _ _ h => h) (pa_cons (pv 0) (pa_cons (pv 1) (pa_cons (pv 2) pa_nil)))) pe_non (nomark _)))), ?_⟩
    refine ⟨_, rfl, _, rfl, _, rfl, b, s, t, rows, l, m, rfl, hB, R, hs, hl1, ht, hl2, way2 k fun _ k => fun H1 v s1 hv => ?_⟩
    have k1 := k _ s1
    cases ho : parts rows l m with
    | none =>
      rw [ho] at hv k1
      have ev : v = .non := hv
      subst ev
      exact ⟨rfl, k1⟩
    | some ps =>
      rw [ho] at hv k1
      obtain ⟨q, ts, rfl, _⟩ := hv
      exact ⟨rfl, k1⟩
end
end Sh
end
section
set_option linter.all false
set_option autoImplicit false
namespace Mth
variable {α : Type} (w : α → Nat)
theorem nxs_all {l : List α} (h : forest w l 1 = true) : nxs w l 0 1 = l.length := by
  have q := forest_skip w l 1 0 h
  have e := forest_zero w q
  unfold nxs
  rw [List.drop_zero, e]
  rfl
theorem cut_forest {l : List α} (h : forest w l 1 = true) {p : Nat} (hp : p < l.length) : forest w (cut w l p) 1 = true := by
  obtain ⟨m, F⟩ := Fst.all w h p (Nat.le_of_lt hp)
  obtain ⟨n, rfl⟩ := F.pos w hp
  have q := forest_take w (l.drop p) 1 n (by rw [Nat.add_comm]; exact F.2)
  unfold cut nxs
  have e : l.length - (skip w (l.drop p) 1).length - p = (l.drop p).length - (skip w (l.drop p) 1).length := by
    rw [List.length_drop]
    omega
  rw [e]
  exact q
theorem cut_len (l : List α) (p : Nat) : (cut w l p).length ≤ l.length := by
  unfold cut
  rw [List.length_take, List.length_drop]
  omega
theorem cut_mem {l : List α} {p : Nat} {z : α} (h : z ∈ cut w l p) : z ∈ l := List.mem_of_mem_drop (List.mem_of_mem_take h)
theorem brs_flat {l : List α} (h : forest w l 1 = true) {p : Nat} {k : α} (hk : l[p]? = some k) : ∀ c, c ≤ w k → (brs w l p c).flatten = (l.drop (p + 1)).take (nxs w l (p + 1) c - (p + 1))
  | 0, _ => by
    have hp := (List.getElem?_eq_some_iff.mp hk).1
    rw [nxs_zero w hp, Nat.sub_self, List.take_zero]
    rfl
  | c + 1, hc => by
    obtain ⟨m1, m2, m3⟩ := end_step w h hk (t := c) (by omega)
    rw [brs_succ, List.flatten_append, brs_flat h hk c (by omega), List.flatten_singleton]
    have g := nxs_ge w l 1 (Nat.le_of_lt m1)
    rw [m3] at g
    unfold cut
    rw [m3, show nxs w l (p + 1) (c + 1) - (p + 1) = (nxs w l (p + 1) c - (p + 1)) + (nxs w l (p + 1) (c + 1) - nxs w l (p + 1) c) by omega, List.take_add, List.drop_drop]
    congr 3
    omega
theorem brs_all {l : List α} (h : forest w l 1 = true) {k : α} (hk : l[0]? = some k) : k :: (brs w l 0 (w k)).flatten = l := by
  have hp := (List.getElem?_eq_some_iff.mp hk).1
  rw [brs_flat w h hk _ (Nat.le_refl _), end_last w hk, nxs_all w h, List.take_of_length_le (by rw [List.length_drop]; omega)]
  have e := (List.getElem?_eq_some_iff.mp hk).2
  cases l with
  | nil => cases hp
  | cons a r =>
    have e2 : a = k := e
    rw [e2]
    rfl
theorem put_cut (l : List α) (p : Nat) (h : p ≤ l.length) : l.take p ++ cut w l p ++ l.drop (nxs w l p 1) = l := by
  have g := nxs_ge w l 1 h
  unfold cut
  have e : l.drop p = (l.drop p).take (nxs w l p 1 - p) ++ l.drop (nxs w l p 1) := by
    have q := (List.take_append_drop (nxs w l p 1 - p) (l.drop p)).symm
    rw [List.drop_drop, show p + (nxs w l p 1 - p) = nxs w l p 1 by omega] at q
    exact q
  rw [List.append_assoc, ← e, List.take_append_drop]
theorem forest_swap {a o r : List α} (ha : forest w a 1 = true) (ho : forest w o 1 = true) : ∀ (pre : List α) (n : Nat), forest w (pre ++ (a ++ r)) n = true → forest w (pre ++ (o ++ r)) n = true
  | [], n, h => by
    have hn : ∃ m, n = m + 1 := by
      cases n with
      | succ m => exact ⟨m, rfl⟩
      | zero =>
        have e : a ++ r = [] := forest_zero w h
        have e2 : a = [] := (List.append_eq_nil_iff.mp e).1
        exact absurd e2 (forest_pos w ha)
    obtain ⟨m, rfl⟩ := hn
    have q := forest_skip w (a ++ r) 1 m (by rw [Nat.add_comm]; exact h)
    rw [skip_app w a r 1 ha] at q
    have z := forest_app w o r 1 m ho q
    rw [Nat.add_comm] at z
    exact z
  | k :: pre, 0, h => by cases h
  | k :: pre, n + 1, h => forest_swap ha ho pre (w k + n) h
def pu (l : List α) (p : Nat) (o : List α) : List α := l.take p ++ o ++ l.drop (nxs w l p 1)
theorem pu_forest {l o : List α} (h : forest w l 1 = true) (ho : forest w o 1 = true) {p : Nat} (hp : p < l.length) : forest w (pu w l p o) 1 = true := by
  unfold pu
  rw [List.append_assoc]
  refine forest_swap w (cut_forest w h hp) ho (l.take p) 1 ?_
  rw [← List.append_assoc, put_cut w l p (Nat.le_of_lt hp)]
  exact h
theorem pu_drop {l o : List α} {p : Nat} (hp : p < l.length) : (pu w l p o).drop p = o ++ l.drop (nxs w l p 1) := by
  unfold pu
  rw [List.append_assoc, List.drop_append_of_le_length (by rw [List.length_take]; omega), List.drop_take, Nat.sub_self, List.take_zero, List.nil_append]
theorem pu_take {l o : List α} {p : Nat} (hp : p < l.length) : (pu w l p o).take p = l.take p := by
  unfold pu
  rw [List.append_assoc, List.take_append_of_le_length (by rw [List.length_take]; omega), List.take_take, Nat.min_self]
theorem pu_nxs {l o : List α} (ho : forest w o 1 = true) {p : Nat} (hp : p < l.length) : nxs w (pu w l p o) p 1 = p + o.length := by
  unfold nxs
  rw [pu_drop w hp, skip_app w o _ 1 ho]
  unfold pu
  rw [List.length_append, List.length_append, List.length_take]
  omega
theorem pu_cut {l o : List α} (ho : forest w o 1 = true) {p : Nat} (hp : p < l.length) : cut w (pu w l p o) p = o := by
  unfold cut
  rw [pu_nxs w ho hp, pu_drop w hp, show p + o.length - p = o.length by omega, List.take_left']
  rfl
theorem pu_back {l o : List α} (ho : forest w o 1 = true) {p : Nat} (hp : p < l.length) : pu w (pu w l p o) p (cut w l p) = l := by
  show (pu w l p o).take p ++ cut w l p ++ (pu w l p o).drop (nxs w (pu w l p o) p 1) = l
  rw [pu_take w hp, pu_nxs w ho hp]
  have e : (pu w l p o).drop (p + o.length) = l.drop (nxs w l p 1) := by
    rw [← List.drop_drop, pu_drop w hp, List.drop_left']
    rfl
  rw [e]
  exact put_cut w l p (Nat.le_of_lt hp)
theorem pu_self {l : List α} {p : Nat} (hp : p < l.length) : pu w l p (cut w l p) = l := put_cut w l p (Nat.le_of_lt hp)
theorem walkI_nat (l : List α) : ∀ (cs : List Nat) (p : Nat), walkI w l p (cs.map fun n => ((n : Nat) : Int)) = walk w l p cs
  | [], p => rfl
  | c :: cs, p => by
    show (if 0 ≤ ((c : Nat) : Int) ∧ ((c : Nat) : Int) < (wd w l p : Int) then walkI w l (nxs w l (p + 1) ((c : Nat) : Int).toNat) (cs.map fun n => ((n : Nat) : Int)) else none) = walk w l p (c :: cs)
    unfold walk wd
    rw [Int.toNat_natCast, walkI_nat l cs]
    cases l[p]? with
    | none => exact if_neg (by simp)
    | some k =>
      by_cases h : c < w k
      · exact (if_pos (show 0 ≤ ((c : Nat) : Int) ∧ ((c : Nat) : Int) < ((w k : Nat) : Int) from ⟨by omega, by omega⟩)).trans (if_pos h).symm
      · exact (if_neg (show ¬ (0 ≤ ((c : Nat) : Int) ∧ ((c : Nat) : Int) < ((w k : Nat) : Int)) from fun q => by omega)).trans (if_neg h).symm
theorem walkI_app (l : List α) : ∀ (a : List Int) (p : Nat) (b : List Int), walkI w l p (a ++ b) = (walkI w l p a).bind fun q => walkI w l q b
  | [], p, b => rfl
  | c :: a, p, b => by
    show (if 0 ≤ c ∧ c < (wd w l p : Int) then walkI w l (nxs w l (p + 1) c.toNat) (a ++ b) else none) = (if 0 ≤ c ∧ c < (wd w l p : Int) then walkI w l (nxs w l (p + 1) c.toNat) a else none).bind fun q => walkI w l q b
    by_cases h : 0 ≤ c ∧ c < (wd w l p : Int)
    · rw [if_pos h, if_pos h]
      exact walkI_app l a _ b
    · rw [if_neg h, if_neg h]
      rfl
theorem walk_pu {l o : List α} (h : forest w l 1 = true) {p : Nat} (hp : p < l.length) : walk w (pu w l p o) 0 (pth w l p) = some p := by
  have q := pth_walk w h hp
  have hl : (l.take p).length = p := by rw [List.length_take]; omega
  have e : l = l.take p ++ l.drop p := (List.take_append_drop p l).symm
  have hy : l.drop p ≠ [] := fun e => by
    have := congrArg List.length e
    rw [List.length_drop] at this
    simp at this
    omega
  have z := walk_swap (w := w) (pre := l.take p) (y := l.drop p) (y' := o ++ l.drop (nxs w l p 1)) hy (pth w l p) [] (l.take p) rfl (by rw [← e, hl]; exact q)
  rw [hl] at z
  unfold pu
  rw [List.append_assoc]
  exact z
end Mth
end
section
set_option Elab.async false
set_option linter.all false
set_option maxRecDepth 100000
set_option maxHeartbeats 2000000
set_option autoImplicit false
namespace Sh
open PySem PySem.Spec PyProof.Rows L2
open C8 (pss_cut tCut)
open Evl (ixN_nat)
/-! ### tuples of texts compared -/
def stD (l : List Str) : PyData := .tuple (l.map PyData.str)
theorem dp_strs {K : PySem.W.Frag} {H : Hp} : ∀ l : List Str, DpAll K H (sV l) (l.map PyData.str)
  | [] => .nil
  | _ :: l => .cons (.str _) (dp_strs l)
def okT (z : Str) : Bool := z.cps.all (· < 0x110000)
theorem lay_strs : ∀ l : List Str, (∀ z ∈ l, okT z = true) → PyData.canLayAll0 (l.map PyData.str) = true
  | [], _ => rfl
  | a :: l, h => by
    show (okT a && PyData.canLayAll0 (l.map PyData.str)) = true
    rw [lay_strs l fun z hz => h z (List.mem_cons_of_mem _ hz), h a List.mem_cons_self]
    rfl
theorem okT_nm {z : Str} (h : IsNm z) : okT z = true := by
  unfold okT
  rw [Array.all_eq_true_iff_forall_mem]
  intro c hc
  have := h.2.2 c (by simpa using hc)
  exact decide_eq_true (by omega)
theorem StumpOk.okT {rows : List Row} (R : ROk 8 rows) {l : List Str} (O : StumpOk rows l) : ∀ z ∈ l, okT z = true := fun z hz => by
  rcases O.k z hz with e | ⟨q, hq, e⟩
  · rw [e]
    decide +kernel
  · rw [← e]
    exact okT_nm (R.nm q hq)
theorem dep_strs : ∀ l : List Str, PyData.depthAll (l.map PyData.str) = 0
  | [] => rfl
  | _ :: l => by
    show max 0 (PyData.depthAll (l.map PyData.str)) = 0
    rw [dep_strs l]
    rfl
theorem stD_shaped {l : List Str} (h : ∀ z ∈ l, okT z = true) : SeqAt.shaped (stD l) = true := by
  show (PyData.canLayAll0 (l.map PyData.str) && decide (PyData.depthAll (l.map PyData.str) + 1 ≤ 64)) = true
  rw [lay_strs l h, dep_strs l]
  rfl
theorem eqv_strs : ∀ l m : List Str, PyData.eqvAll (l.map PyData.str) (m.map PyData.str) = decide (l = m)
  | [], [] => rfl
  | [], _ :: _ => rfl
  | _ :: _, [] => rfl
  | a :: l, b :: m => by
    show ((a == b) && PyData.eqvAll (l.map PyData.str) (m.map PyData.str)) = _
    rw [eqv_strs l m]
    by_cases h : a = b
    · by_cases h2 : l = m <;> simp [h, h2]
    · simp [h]
theorem stD_eqv (l m : List Str) : PyData.eqv (stD l) (stD m) = decide (l = m) := eqv_strs l m
theorem dp_of {K : PySem.W.Frag} {H : Hp} {a : Addr} {l : List Str} (h : Tq H a (sV l)) : Dp K H (.ref a) (stD l) := .tup h.sq (dp_strs l)
/-! ### what is common, what is united -/
def shr : List (List Str × List Str) → List Str
  | [] => []
  | q :: r => (if q.1 = q.2 then q.1 else ["*"]) ++ shr r
/-- the two differ and neither is a hole -/
def clash (q : List Str × List Str) : Prop := q.1 ≠ q.2 ∧ ¬ (q.1.head? = some ("*" : Str) ∨ q.2.head? = some ("*" : Str))
instance (q : List Str × List Str) : Decidable (clash q) := inferInstanceAs (Decidable (_ ∧ _))
def uni : List (List Str × List Str) → List Str
  | [] => []
  | q :: r => (if q.1.head? = some ("*" : Str) then q.2 else q.1) ++ uni r
theorem shr_app : ∀ ps qs : List (List Str × List Str), shr (ps ++ qs) = shr ps ++ shr qs
  | [], _ => rfl
  | q :: r, qs => by
    show (if q.1 = q.2 then q.1 else ["*"]) ++ shr (r ++ qs) = ((if q.1 = q.2 then q.1 else ["*"]) ++ shr r) ++ shr qs
    rw [shr_app r qs, List.append_assoc]
theorem uni_app : ∀ ps qs : List (List Str × List Str), uni (ps ++ qs) = uni ps ++ uni qs
  | [], _ => rfl
  | q :: r, qs => by
    show (if q.1.head? = some ("*" : Str) then q.2 else q.1) ++ uni (r ++ qs) = ((if q.1.head? = some ("*" : Str) then q.2 else q.1) ++ uni r) ++ uni qs
    rw [uni_app r qs, List.append_assoc]
theorem uni_le : ∀ ps : List (List Str × List Str), (uni ps).length ≤ (ps.map (·.1)).flatten.length + (ps.map (·.2)).flatten.length
  | [] => Nat.zero_le _
  | q :: r => by
    have ih := uni_le r
    have e : uni (q :: r) = (if q.1.head? = some ("*" : Str) then q.2 else q.1) ++ uni r := rfl
    rw [e, List.map_cons, List.map_cons, List.flatten_cons, List.flatten_cons, List.length_append, List.length_append, List.length_append]
    split <;> omega
theorem shr_le {rows : List Row} : ∀ ps : List (List Str × List Str), (∀ q ∈ ps, PairOk rows q) → (shr ps).length ≤ (ps.map (·.1)).flatten.length
  | [], _ => Nat.zero_le _
  | q :: r, h => by
    have ih := shr_le r fun x hx => h x (List.mem_cons_of_mem _ hx)
    have p := (h q List.mem_cons_self).pos
    have e : shr (q :: r) = (if q.1 = q.2 then q.1 else ["*"]) ++ shr r := rfl
    rw [e, List.map_cons, List.flatten_cons, List.length_append, List.length_append]
    split
    · omega
    · rw [List.length_singleton]
      omega
theorem w_star {rows : List Row} {m : Int} (R : ROk m rows) : wR rows "*" = 0 := by
  rcases nm_case R ("*" : Str) with q | q
  · exact q.2.1
  · have := nm_star R
    omega
theorem PairOk.other {rows : List Row} {q : List Str × List Str} (h : PairOk rows q) (n : q.1 ≠ q.2) : Mth.forest (wR rows) q.1 1 = true ∧ Mth.forest (wR rows) q.2 1 = true := by
  rcases h with ⟨z, a, b⟩ | ⟨x, y, a, b, e1, e2, _, f1, f2⟩
  · exact absurd (a.trans b.symm) n
  · rw [e1, e2]
    exact ⟨f1, f2⟩
theorem shr_forest {rows : List Row} {m : Int} (R : ROk m rows) : ∀ (ps : List (List Str × List Str)) (pre : List Str), (∀ q ∈ ps, PairOk rows q) → Mth.forest (wR rows) (pre ++ (ps.map (·.1)).flatten) 1 = true → Mth.forest (wR rows) (pre ++ shr ps) 1 = true
  | [], _, _, h => h
  | q :: r, pre, hp, h => by
    rw [List.map_cons, List.flatten_cons] at h
    have e : shr (q :: r) = (if q.1 = q.2 then q.1 else ["*"]) ++ shr r := rfl
    rw [e]
    have hr := fun x hx => hp x (List.mem_cons_of_mem _ hx)
    by_cases c : q.1 = q.2
    · rw [if_pos c, ← List.append_assoc]
      exact shr_forest R r _ hr (by rw [List.append_assoc]; exact h)
    · rw [if_neg c, ← List.append_assoc]
      refine shr_forest R r _ hr ?_
      rw [List.append_assoc]
      refine Mth.forest_swap (wR rows) ((hp q List.mem_cons_self).other c).1 ?_ pre 1 h
      unfold Mth.forest
      rw [w_star R]
      rfl
theorem shr_mem {rows : List Row} : ∀ {ps : List (List Str × List Str)} {z : Str}, z ∈ shr ps → z = "*" ∨ z ∈ (ps.map (·.1)).flatten
  | [], _, h => nomatch h
  | q :: r, z, h => by
    have e : shr (q :: r) = (if q.1 = q.2 then q.1 else ["*"]) ++ shr r := rfl
    rw [e] at h
    rw [List.map_cons, List.flatten_cons]
    rcases List.mem_append.mp h with h | h
    · split at h
      · exact .inr (List.mem_append_left _ h)
      · exact .inl (List.mem_singleton.mp h)
    · rcases shr_mem (rows := rows) h with h | h
      · exact .inl h
      · exact .inr (List.mem_append_right _ h)
theorem shr_ok {rows : List Row} (R : ROk 8 rows) {l m : List Str} {ps : List (List Str × List Str)} (O : StumpOk rows l) (c : CmpOk rows l m ps) : StumpOk rows (shr ps) := by
  refine ⟨?_, fun z hz => ?_, ?_⟩
  · exact shr_forest R ps [] c.ok (by rw [List.nil_append, c.e1]; exact O.f)
  · rcases shr_mem (rows := rows) hz with h | h
    · exact .inl h
    · rw [c.e1] at h
      exact O.k z h
  · have q := shr_le ps c.ok
    rw [c.e1] at q
    have := O.sz
    omega
section
variable {P : Program} {w : World} {K : PySem.W.Frag} {mg : Str → Option Value} {base : Heap} {C : Addr} {A : XA}
theorem ok_compared (T : Bk mg) (c_ends_of : DefOk P w K mg base CX0 1 "ends_of" (spEnds C)) (D : Def0 K mg "compared" s_compared) : DefOk P w K mg base CX0 2 "compared" (spCmp C) := by
  refine D.ok sc_compared (fun vs H Q E h => ?_) (fun _ _ _ _ _ _ us hl => match us, hl with | [_, _, _], _ => rfl) (fun f cdv A outer s H vs Q E hr h => ?_)
  · obtain ⟨b, s, t, rows, l, m, rfl, _⟩ := h
    rfl
  · obtain ⟨b, s, t, rows, l, m, rfl, hB, R, hs, O, ht, O2, k⟩ := h
    have hsz := O.sz
    have hsz2 := O2.sz
    refine ⟨_, (pss_cons (ps_par (i := 3) (j := 4) rfl sc_compared.nd rfl rfl (by decide) rfl rfl (pa_cons (pe_d c_ends_of (hr.mono (by decide)) pass0 (pa_cons (pv 0) (pa_cons (pv 1) pa_nil))) (pa_cons (pe_d c_ends_of (hr.mono (by decide)) pass0 (pa_cons (pv 0) (pa_cons (pv 2) pa_nil))) pa_nil)) rfl)
      (pss_cons (ps_set (i := 5) sc_compared.nd rfl (Or.inl rfl) (pe_lst pa_nil))
      (pss_cons (ps_asg2 pe_int (pg_name (i := 6) sc_compared.nd rfl (Or.inl rfl)) (pg_name (i := 7) sc_compared.nd rfl (Or.inl rfl)))
      (pss_cons (ps_while PassesOwn.never (pt_cmpR op_lt (pv 6) (pe_callB call_len_seq (by rfl) T.b_len boot_len (pa_cons (pv 1) pa_nil)) (nomark _))
        (pss_cons (ps_par (i := 8) (j := 9) rfl sc_compared.nd rfl rfl (by decide) rfl rfl (pa_cons (pe_op op_add (pv 6) pe_int) (pa_cons (pe_op op_add (pv 7) pe_int) pa_nil)) rfl)
        (pss_cut (ps_if (pt_cmpR op_ne (pe_ix ix_tup (pv 1) (pv 6) (fun _ _ => rfl)) (pe_ix ix_tup (pv 2) (pv 7) (fun _ _ => rfl)) (nomark _))
          (pss_one (ps_par (i := 8) (j := 9) rfl sc_compared.nd rfl rfl (by decide) rfl rfl (pa_cons (pe_ix ix_list (pv 3) (pv 6) (fun _ _ => rfl)) (pa_cons (pe_ix ix_list (pv 4) (pv 7) (fun _ _ => rfl)) pa_nil)) rfl))
          pss_nil)
        (pss_cons (ps_expr (pe_bm PySem.F.plainAttrs_list PySem.F.slot_list_append PySem.F.type_list_append mt_append (pv 5) (pa_cons (pe_tup (pa_cons (pe_slice sl_tupA (pv 1) (po_some (pv 6)) (po_some (pv 8))) (pa_cons (pe_slice sl_tupA (pv 2) (po_some (pv 7)) (po_some (pv 9))) pa_nil))) pa_nil)))
        (pss_one (ps_par (i := 6) (j := 7) rfl sc_compared.nd rfl rfl (by decide) rfl rfl (pa_cons (pv 8) (pa_cons (pv 9) pa_nil)) rfl))))))
      (pss_one (ps_ret (pv 5))))))), ?_⟩
    refine ⟨_, rfl, _, rfl, b, s, rows, l, rfl, hB, R, hs, O, fun H1 e s1 _ he => ?_⟩
    refine ⟨_, rfl, _, rfl, b, t, rows, m, rfl, hB.same s1, R, ht.same s1, O2, fun H2 g s2 hg0 hg => ?_⟩
    have s3 := s1.trans s2
    have he3 := s2 _ _ he
    refine ⟨_, _, rfl, ?_⟩
    refine ⟨le_line (show 0 ≤ 100000 by decide), fun D hD => ?_⟩
    have s4 := s3.upd_new (o := .lst []) hD
    have hDH : H D = none := by
      cases z : H D with
      | none => rfl
      | some o => rw [s3 _ _ z] at hD; cases hD
    have neD : e ≠ D := ne_of_none he3 hD
    have ngD : g ≠ D := ne_of_none hg hD
    refine ⟨fun μ σ H' => ∃ (y z : Option V) (p q n : Nat) (ps : List (List Str × List Str)), σ = [some (.ref b), some (.ref s), some (.ref t), some (.ref e), some (.ref g), some (.ref D), some (.int (p : Nat)), some (.int (q : Nat)), y, z] ∧ μ = l.length - p ∧ Same H H' ∧
      H' e = some (.lst ((Mth.ends (wR rows) l).map V.int)) ∧ H' g = some (.lst ((Mth.ends (wR rows) m).map V.int)) ∧ PrsAt H' D ps ∧ (∀ x ∈ ps, PairOk rows x) ∧ (ps.map (·.1)).flatten = l.take p ∧ (ps.map (·.2)).flatten = m.take q ∧ ps.length ≤ p ∧
      Mth.Fst (wR rows) l p n ∧ Mth.Fst (wR rows) m q n, ⟨_, none, none, 0, 0, 1, [], rfl, rfl, s4, by rw [upd_ne neD]; exact he3, by rw [upd_ne ngD]; exact hg, ⟨[], upd_same, rfl, fun i t q a => by simp at a⟩, (fun _ h => nomatch h), rfl, rfl, Nat.le_refl _, ⟨Nat.zero_le _, O.f⟩, ⟨Nat.zero_le _, O2.f⟩⟩, ?_⟩
    rintro μ σ H3 ⟨y, z, p, q, n, ps, rfl, rfl, s5, he5, hg5, hP, hok, f1, f2, hpl, F1, F2⟩
    refine ⟨_, rfl, _, rfl, s, _, rfl, .inr (hs.same s5).sq, _, _, rfl, rfl, _, rfl, ?_⟩
    by_cases hlt : p < l.length
    · refine ifp (by rw [List.length_map]; exact decide_eq_true (by omega)) ⟨fun σ' H' => ∃ m', m' < l.length - p ∧ _, fun _ _ h => h, ?_⟩
      obtain ⟨n', rfl⟩ := F1.pos _ hlt
      have hqm : q < m.length := F2.lt
      refine ⟨_, rfl, _, _, rfl, rfl, _, rfl, _, _, rfl, rfl, _, _, rfl, ?_⟩
      refine ⟨fun σ' H' => ∃ p2 q2 n2 : Nat, σ' = [some (.ref b), some (.ref s), some (.ref t), some (.ref e), some (.ref g), some (.ref D), some (.int (p : Nat)), some (.int (q : Nat)), some (.int (p2 : Nat)), some (.int (q2 : Nat))] ∧ H' = H3 ∧ p < p2 ∧ p2 ≤ l.length ∧ q < q2 ∧ q2 ≤ m.length ∧
        PairOk rows ((l.drop p).take (p2 - p), (m.drop q).take (q2 - q)) ∧ Mth.Fst (wR rows) l p2 n2 ∧ Mth.Fst (wR rows) m q2 n2, ?_, ?_⟩
      · refine ⟨_, rfl, _, rfl, s, _, _, _, rfl, rfl, (hs.same s5).sq, str_at hlt rfl, _, rfl, _, rfl, t, _, _, _, rfl, rfl, (ht.same s5).sq, str_at hqm rfl, rfl, _, rfl, ?_⟩
        by_cases c : l[p] = m[q]
        · refine ifn (by simp [c]) ?_
          have G1 := F1.in _ (List.getElem?_eq_getElem hlt)
          have G2 := F2.in _ (List.getElem?_eq_getElem hqm)
          rw [← c] at G2
          refine ⟨p + 1, q + 1, _, rfl, rfl, Nat.lt_succ_self _, hlt, Nat.lt_succ_self _, hqm, .inl ⟨l[p], ?_, ?_⟩, G1, G2⟩
          · show (l.drop p).take (p + 1 - p) = [l[p]]
            rw [Nat.add_sub_cancel_left, List.drop_eq_getElem_cons hlt]
            rfl
          · show (m.drop q).take (q + 1 - q) = [l[p]]
            rw [Nat.add_sub_cancel_left, List.drop_eq_getElem_cons hqm, c]
            rfl
        · refine ifp (by simp [c]) ?_
          have k1 : p < Mth.nxs (wR rows) l p 1 := Mth.nxs_gt (wR rows) 0 hlt
          have k2 : q < Mth.nxs (wR rows) m q 1 := Mth.nxs_gt (wR rows) 0 hqm
          refine ⟨_, rfl, _, rfl, e, _, _, _, rfl, rfl, SqL.of he5, int_at (Mth.ends_get (wR rows) hlt) rfl, _, rfl, _, rfl, g, _, _, _, rfl, rfl, SqL.of hg5, int_at (Mth.ends_get (wR rows) hqm) rfl, _, _, rfl, ?_⟩
          have fr : ∀ {x : List Str} {i : Nat} (hx : Mth.forest (wR rows) x 1 = true) (hi : i < x.length), ∃ a, (x.drop i).take (Mth.nxs (wR rows) x i 1 - i) = x[i] :: a ∧ Mth.forest (wR rows) (x[i] :: a) 1 = true := fun {x i} hx hi => by
            have h1 := Mth.cut_forest (wR rows) hx hi
            have h2 : i < Mth.nxs (wR rows) x i 1 := Mth.nxs_gt (wR rows) 0 hi
            unfold Mth.cut at h1
            have h3 : (x.drop i).take (Mth.nxs (wR rows) x i 1 - i) = x[i] :: (x.drop (i + 1)).take (Mth.nxs (wR rows) x i 1 - i - 1) := by
              obtain ⟨z, hz⟩ : ∃ z, Mth.nxs (wR rows) x i 1 - i = z + 1 := ⟨Mth.nxs (wR rows) x i 1 - i - 1, by omega⟩
              rw [hz, List.drop_eq_getElem_cons hi, List.take_succ_cons, Nat.add_sub_cancel]
            refine ⟨_, h3, ?_⟩
            rw [← h3]
            exact h1
          obtain ⟨a1, a2, a3⟩ := fr O.f hlt
          obtain ⟨b1, b2, b3⟩ := fr O2.f hqm
          exact ⟨_, _, n', rfl, rfl, k1, Mth.nxs_le _ _ _ _, k2, Mth.nxs_le _ _ _ _, .inr ⟨_, _, _, _, a2, b2, c, a3, b3⟩, Mth.Fst.skip (wR rows) (a := 1) (b := n') (by rw [Nat.add_comm]; exact F1), Mth.Fst.skip (wR rows) (a := 1) (b := n') (by rw [Nat.add_comm]; exact F2)⟩
      · rintro σ' H' ⟨p2, q2, n2, rfl, rfl, x1, x2, x3, x4, pk, G1, G2⟩
        obtain ⟨ts, t1, t2, t3⟩ := hP
        refine ⟨_, rfl, .inl ⟨rfl, _, SqL.of t1⟩, _, rfl, _, rfl, _, rfl, _, rfl, _, rfl, ?_⟩
        refine slA_of (hs.same s5) (by rw [List.length_map]; exact x2) (Nat.le_of_lt x1) (fun c1 H4 s6 hc1 => ?_)
        refine ⟨_, rfl, _, rfl, _, rfl, _, rfl, _, rfl, ?_⟩
        refine slA_of (ht.same (s5.trans s6)) (by rw [List.length_map]; exact x4) (Nat.le_of_lt x3) (fun c2 H5 s7 hc2 => ?_)
        refine ⟨le_line (show 2 ≤ 100000 by decide), fun v hv => ?_⟩
        have s8 : Same H' (upd H5 v (.tup [.ref c1, .ref c2])) := (s6.trans s7).upd_new hv
        have t8 := s8 _ _ t1
        have hlen : ps.length < 100000 := by omega
        refine ⟨D, _, _, rfl, rfl, t8, lt_line (by rw [List.length_map, t2]; omega), ?_⟩
        have tk : TQ H' (upd (upd H5 v (.tup [.ref c1, .ref c2])) D (.lst (ts.map V.ref ++ [V.ref v]))) := (TQ.of_same s8).trans (TQ.lst t8)
        refine ⟨_, rfl, _, rfl, _, _, rfl, ?_⟩
        have tk5 : TQ H5 (upd (upd H5 v (.tup [.ref c1, .ref c2])) D (.lst (ts.map V.ref ++ [V.ref v]))) := (TQ.new hv).trans (TQ.lst t8)
        refine ⟨l.length - p2, by omega, _, _, p2, q2, n2, ps ++ [((l.drop p).take (p2 - p), (m.drop q).take (q2 - q))], rfl, rfl, (s5.trans s8).upd_own hDH, ?_, ?_, ⟨ts ++ [v], ?_, ?_, ?_⟩, ?_, ?_, ?_, ?_, G1, G2⟩
        · rw [upd_ne neD]; exact s8 _ _ he5
        · rw [upd_ne ngD]; exact s8 _ _ hg5
        · rw [upd_same, List.map_append]; rfl
        · rw [List.length_append, List.length_append, t2]; rfl
        · intro i u x h1 h2
          by_cases hi : i < ts.length
          · rw [List.getElem?_append_left hi] at h1
            rw [List.getElem?_append_left (by omega)] at h2
            obtain ⟨a, b', y1, y2, y3⟩ := t3 i u x h1 h2
            exact ⟨a, b', tk _ _ y1, tk _ _ y2, tk _ _ y3⟩
          · rw [List.getElem?_append_right (by omega)] at h1 h2
            rw [t2] at h1
            have hi0 : i - ps.length = 0 := by
              have q := lt_of_get h2
              rw [List.length_singleton] at q
              omega
            rw [hi0] at h1 h2
            cases h1
            cases h2
            refine ⟨c1, c2, TQ.lst t8 _ _ (.of upd_same), ?_, ?_⟩
            · have w := tk5 _ _ (hc1.same s7)
              unfold sV
              rw [List.map_take, List.map_drop]
              exact w
            · have w := tk5 _ _ hc2
              unfold sV
              rw [List.map_take, List.map_drop]
              exact w
        · intro x hx
          rcases List.mem_append.mp hx with h | h
          · exact hok x h
          · rw [List.mem_singleton.mp h]
            exact pk
        · rw [List.map_append, List.flatten_append, f1]
          have e3 := List.take_add (l := l) (i := p) (j := p2 - p)
          rw [show p + (p2 - p) = p2 by omega] at e3
          rw [e3]
          simp
        · rw [List.map_append, List.flatten_append, f2]
          have e3 := List.take_add (l := m) (i := q) (j := q2 - q)
          rw [show q + (q2 - q) = q2 by omega] at e3
          rw [e3]
          simp
        · rw [List.length_append, List.length_singleton]
          omega
    · refine ifn (by rw [List.length_map]; simp; omega) ⟨_, rfl, ?_⟩
      have hpe : p = l.length := Nat.le_antisymm F1.1 (Nat.not_lt.mp hlt)
      have n0 : n = 0 := by
        have h := F1.2
        rw [hpe, List.drop_length] at h
        exact Mth.forest_nil _ h
      subst n0
      have hq0 := Mth.forest_zero _ F2.2
      have hqe : m.take q = m := List.take_of_length_le (List.drop_eq_nil_iff.mp hq0)
      rw [hpe, List.take_length] at f1
      rw [hqe] at f2
      exact k _ _ ps s5 hDH hP ⟨hok, f1, f2⟩
end
end Sh
end
section
set_option Elab.async false
set_option linter.all false
set_option maxRecDepth 100000
set_option maxHeartbeats 2000000
set_option autoImplicit false
namespace Sh
open PySem PySem.Spec PyProof.Rows L2
open C8 (pss_cut tCut)
open Evl (ixN_nat)
def spShared (C : Addr) : Sp := fun vs H Q _ => ∃ (b s t : Addr) (rows : List Row) (l m : List Str), vs = [.ref b, .ref s, .ref t] ∧ BedAt C H b rows ∧ ROk 8 rows ∧ Tq H s (l.map V.str) ∧ StumpOk rows l ∧ Tq H t (m.map V.str) ∧ StumpOk rows m ∧ ∀ H' q ps, Same H H' → CmpOk rows l m ps → Tz H' q (sV (shr ps)) → Q (.ref q) H'
/-- the common stump of the first and the others -/
def ComR (rows : List Row) : List Str → List (List Str) → List Str → Prop
  | l, [], c => c = l
  | l, m :: ms, c => ∃ ps, CmpOk rows l m ps ∧ ComR rows (shr ps) ms c
def spCommon (C : Addr) (A : XA) : Sp := fun vs H Q E => ∃ (b s p : Addr) (rows : List Row) (l : List Str) (ts : List Addr) (ms : List (List Str)), vs = [.ref b, .ref s, .ref p] ∧ BedAt C H b rows ∧ ROk 8 rows ∧ Tq H s (l.map V.str) ∧ l.length ≤ 6000 ∧ Tq H p (ts.map V.ref) ∧ TsAt sV H ts ms ∧ (∀ x ∈ ms, x.length ≤ 6000) ∧ ms.length ≤ 20 ∧
  Way A E H (fbad rows true (l :: ms)) (∀ H' q c, Same H H' → ComR rows l ms c → Tq H' q (sV c) → (ms ≠ [] → Tz H' q (sV c)) → Q (.ref q) H')
def clashes (ps : List (List Str × List Str)) : Prop := ∃ q ∈ ps, clash q
instance (ps : List (List Str × List Str)) : Decidable (clashes ps) := inferInstanceAs (Decidable (∃ q, q ∈ ps ∧ clash q))
theorem CmpOk.mem1 {rows : List Row} {l m : List Str} {ps : List (List Str × List Str)} (c : CmpOk rows l m ps) {q : List Str × List Str} (h : q ∈ ps) {z : Str} (hz : z ∈ q.1) : z ∈ l := by
  rw [← c.e1]
  exact List.mem_flatten.mpr ⟨q.1, List.mem_map_of_mem (f := (·.1)) h, hz⟩
theorem CmpOk.mem2 {rows : List Row} {l m : List Str} {ps : List (List Str × List Str)} (c : CmpOk rows l m ps) {q : List Str × List Str} (h : q ∈ ps) {z : Str} (hz : z ∈ q.2) : z ∈ m := by
  rw [← c.e2]
  exact List.mem_flatten.mpr ⟨q.2, List.mem_map_of_mem (f := (·.2)) h, hz⟩
theorem flat_take {α : Type} (ls : List (List α)) (i : Nat) : (ls.take i).flatten.length ≤ ls.flatten.length := by
  conv => rhs; rw [← List.take_append_drop i ls, List.flatten_append, List.length_append]
  omega
theorem PrsAt.at {H : Hp} {D : Addr} {ps : List (List Str × List Str)} (h : PrsAt H D ps) : ∃ ts : List Addr, H D = some (.lst (ts.map V.ref)) ∧ (ts.map V.ref).length = ps.length ∧ ∀ (i : Nat) (hi : i < ps.length), ∃ t a b, (ts.map V.ref)[i]? = some (.ref t) ∧ Tq H t [.ref a, .ref b] ∧ Tq H a (sV ps[i].1) ∧ Tq H b (sV ps[i].2) := by
  obtain ⟨ts, t1, t2, t3⟩ := h
  refine ⟨ts, t1, by rw [List.length_map, t2], fun i hi => ?_⟩
  have ht : i < ts.length := by omega
  obtain ⟨a, b, y1, y2, y3⟩ := t3 i ts[i] ps[i] (List.getElem?_eq_getElem ht) (List.getElem?_eq_getElem hi)
  exact ⟨ts[i], a, b, by rw [List.getElem?_map, List.getElem?_eq_getElem ht]; rfl, y1, y2, y3⟩
/-- the union of two stumps, read from left to right -/
inductive Un (w : Str → Nat) : List Str → List Str → Option (List Str) → Prop
  | nil (r : List Str) : Un w r [] (some [])
  | same (a : Str) (l m : List Str) (o : Option (List Str)) : Un w l m o → Un w (a :: l) (a :: m) (o.map fun u => [a] ++ u)
  | right (t l m : List Str) (o : Option (List Str)) : Mth.forest w t 1 = true → t.head? ≠ some "*" → Un w l m o → Un w (t ++ l) ("*" :: m) (o.map fun u => t ++ u)
  | left (t l m : List Str) (o : Option (List Str)) : Mth.forest w t 1 = true → t.head? ≠ some "*" → Un w l m o → Un w ("*" :: l) (t ++ m) (o.map fun u => t ++ u)
  | clash (a b : Str) (l m : List Str) : a ≠ b → a ≠ "*" → b ≠ "*" → Un w (a :: l) (b :: m) none
theorem Un.le {w : Str → Nat} {l m : List Str} {o : Option (List Str)} (h : Un w l m o) : ∀ u, o = some u → u.length ≤ l.length + m.length := by
  induction h with
  | nil r => intro u e; cases e; exact Nat.zero_le _
  | same a l m o h ih =>
    intro u e
    cases o with
    | none => cases e
    | some v =>
      cases e
      have := ih v rfl
      simp only [List.length_append, List.length_cons, List.length_nil]
      omega
  | right t l m o ht h1 h ih =>
    intro u e
    cases o with
    | none => cases e
    | some v =>
      cases e
      have := ih v rfl
      simp only [List.length_append, List.length_cons]
      omega
  | left t l m o ht h1 h ih =>
    intro u e
    cases o with
    | none => cases e
    | some v =>
      cases e
      have := ih v rfl
      simp only [List.length_append, List.length_cons]
      omega
  | clash a b l m h1 h2 h3 => intro u e; cases e
def UnV (H : Hp) (v : V) (o : Option (List Str)) : Prop := match o with
  | none => v = .non
  | some u => ∃ q, v = .ref q ∧ H q = some (.lst (sV u))
def spUnionOf : Sp := fun vs H Q _ => ∃ (s d t e : Addr) (p : Nat) (rows : List Row) (l m : List Str), vs = [.ref s, .ref d, .int (p : Nat), .ref t, .ref e] ∧ ROk 8 rows ∧ Tq H s (l.map V.str) ∧ WfOk rows l ∧ p < l.length ∧ Tq H t (m.map V.str) ∧ WfOk rows m ∧ EndsAt H d rows l ∧ EndsAt H e rows m ∧ ∀ H' v o, Same H H' → Un (wR rows) (l.drop p) m o → UnV H' v o → Q v H'
def spUnited (C : Addr) (A : XA) : Sp := fun vs H Q E => ∃ (b s t : Addr) (rows : List Row) (l m : List Str), vs = [.ref b, .ref s, .ref t] ∧ BedAt C H b rows ∧ ROk 8 rows ∧ Tq H s (l.map V.str) ∧ l.length ≤ 6000 ∧ Tq H t (m.map V.str) ∧ m.length ≤ 6000 ∧
  Way A E H (fbad rows true [l, m]) (∀ o, Un (wR rows) l m o → (o = none → ∀ H', Same H H' → Q .non H') ∧ (∀ u, o = some u → (2000 < u.length → Rz A E H .many) ∧ (u.length ≤ 2000 → ∀ H' q, Same H H' → Tz H' q (sV u) → Q (.ref q) H')))
abbrev s_union_of : Stmt := top 33
abbrev N_union_of : List Str := ["first", "first_ends", "left", "second", "second_ends", "entries", "right", "left_end", "right_end"]
theorem sc_union_of : FnScope N_union_of ["first", "first_ends", "left", "second", "second_ends"] (defScope s_union_of) := ⟨rfl, rfl, rfl, by decide +kernel, rfl, by decide +kernel, by decide +kernel⟩
abbrev s_shared_stump : Stmt := top 30
abbrev N_shared_stump : List Str := ["bed", "first", "second", "entries", "branch", "other"]
theorem sc_shared_stump : FnScope N_shared_stump ["bed", "first", "second"] (defScope s_shared_stump) := ⟨rfl, rfl, rfl, by decide +kernel, rfl, by decide +kernel, by decide +kernel⟩
abbrev s_common : Stmt := top 29
abbrev N_common : List Str := ["bed", "first", "others", "shared", "other"]
theorem sc_common : FnScope N_common ["bed", "first", "others"] (defScope s_common) := ⟨rfl, rfl, rfl, by decide +kernel, rfl, by decide +kernel, by decide +kernel⟩
abbrev s_united : Stmt := top 32
abbrev N_united : List Str := ["bed", "first", "second", "entries"]
theorem sc_united : FnScope N_united ["bed", "first", "second"] (defScope s_united) := ⟨rfl, rfl, rfl, by decide +kernel, rfl, by decide +kernel, by decide +kernel⟩
section
variable {P : Program} {w : World} {K : PySem.W.Frag} {mg : Str → Option Value} {base : Heap} {C : Addr} {A : XA}
theorem ok_shared_stump (T : Bk mg) (c_compared : DefOk P w K mg base CX0 2 "compared" (spCmp C)) (D : Def0 K mg "shared_stump" s_shared_stump) : DefOk P w K mg base CX0 3 "shared_stump" (spShared C) := by
  refine D.ok sc_shared_stump (fun vs H Q E h => ?_) (fun _ _ _ _ _ _ us hl => match us, hl with | [_, _, _], _ => rfl) (fun f cdv A' outer s H vs Q E hr h => ?_)
  · obtain ⟨b, s, t, rows, l, m, rfl, _⟩ := h
    rfl
  · obtain ⟨b, s, t, rows, l, m, rfl, hB, R, hs, O, ht, O2, k⟩ := h
    have hsz := O.sz
    refine ⟨_, (pss_cons (ps_set (i := 3) sc_shared_stump.nd rfl (Or.inl rfl) (pe_lst pa_nil))
      (pss_cons (ps_for PassesOwn.never rfl (pi_list (pe_d c_compared (hr.mono (by decide)) pass0 (pa_cons (pv 0) (pa_cons (pv 1) (pa_cons (pv 2) pa_nil))))) (pg_tup (by rfl) (pgs_cons (pg_name (i := 4) sc_shared_stump.nd rfl (Or.inl rfl)) (pgs_cons (pg_name (i := 5) sc_shared_stump.nd rfl (Or.inl rfl)) pgs_nil)))
        (pss_one (ps_expr (pe_bm PySem.F.plainAttrs_list PySem.F.slot_list_extend PySem.F.type_list_extend mt_extendT (pv 3) (pa_cons (pe_ifExp (pt_cmpR (op_eqD hr.units) (pv 4) (pv 5) (nomark _)) (pv 4) (pe_tup (pa_cons (pe_cS (by rfl) T.c_HOLE) pa_nil))) pa_nil)))))
      (pss_one (ps_ret (pe_callTy call_tupleF (by rfl) T.b_tuple (by decide +kernel) (pa_cons (pv 3) pa_nil)))))), ?_⟩
    refine ⟨le_line (show 0 ≤ 100000 by decide), fun D hD => ?_⟩
    have s1 := (Same.refl H).upd_new (o := .lst []) hD
    refine ⟨_, rfl, _, rfl, _, rfl, b, s, t, rows, l, m, rfl, hB.same s1, R, hs.same s1, O.wf, ht.same s1, O2.wf, fun H2 F ps s2 hF hP hC => ?_⟩
    have st := s1.trans s2
    obtain ⟨ts, t1, t2, t3⟩ := hP.at
    have nDF : D ≠ F := ne_of_none upd_same hF
    have dD : H2 D = some (.lst []) := s2 _ _ upd_same
    refine ⟨F, rfl, ⟨_, SqL.of t1⟩, for_it (walk_list (xs := ts.map V.ref)) (fun i σ H' => ∃ (x y : Option V), σ = [some (.ref b), some (.ref s), some (.ref t), some (.ref D), x, y] ∧ Same H H' ∧ TQ H2 H' ∧ H' F = some (.lst (ts.map V.ref)) ∧ H' D = some (.lst (sV (shr (ps.take i)))))
      ⟨none, none, rfl, st, TQ.refl H2, t1, dD⟩ (fun i σ H' _ ⟨_, _, _, _, _, q, _⟩ => SqL.of q) ?_ ?_⟩
    · rintro i v σ H3 H4 hi ⟨x, y, rfl, s3, tk3, f3, d3⟩ ⟨rfl, hv⟩
      rw [t2] at hi
      obtain ⟨u, a, c, u1, u2, u3, u4⟩ := t3 i hi
      rw [u1] at hv
      cases hv
      have hm : ps[i] ∈ ps := List.getElem_mem hi
      have w1 := tk3 _ _ u3
      have w2 := tk3 _ _ u4
      have ep : shr (ps.take (i + 1)) = shr (ps.take i) ++ (if ps[i].1 = ps[i].2 then ps[i].1 else ["*"]) := by
        rw [List.take_add_one, List.getElem?_eq_getElem hi, shr_app]
        show _ ++ ((if ps[i].1 = ps[i].2 then ps[i].1 else ["*"]) ++ []) = _
        rw [List.append_nil]
      have hle : (shr (ps.take (i + 1))).length ≤ l.length := by
        have q1 := shr_le (rows := rows) (ps.take (i + 1)) fun z hz => hC.ok z (List.mem_of_mem_take hz)
        have q2 := flat_take (ps.map (·.1)) (i + 1)
        rw [List.map_take] at q1
        rw [hC.e1] at q2
        omega
      refine ⟨u, _, rfl, (tk3 _ _ u2).sq, rfl, _, _, rfl, _, _, rfl, rfl, ?_⟩
      refine ⟨_, rfl, .inl ⟨rfl, _, SqL.of d3⟩, _, rfl, _, rfl, stD ps[i].1, stD ps[i].2, dp_of w1, dp_of w2, stD_shaped (fun z hz => O.okT R z (hC.mem1 hm hz)), stD_shaped (fun z hz => O2.okT R z (hC.mem2 hm hz)), _, rfl, ?_⟩
      rw [stD_eqv]
      have fin : ∀ (e : Addr) (H5 : Hp), Same H4 H5 → TQ H4 H5 → Tq H5 e (sV (if ps[i].1 = ps[i].2 then ps[i].1 else ["*"])) → _ := fun e H5 s5 tk5 h5 =>
        (show rExtendT K (.ref D) [.ref e] H5 (fun _ H6 => ∃ (x y : Option V), [some (V.ref b), some (.ref s), some (.ref t), some (.ref D), some (.ref a), some (.ref c)] = [some (.ref b), some (.ref s), some (.ref t), some (.ref D), x, y] ∧ Same H H6 ∧ TQ H2 H6 ∧ H6 F = some (.lst (ts.map V.ref)) ∧ H6 D = some (.lst (sV (shr (ps.take (i + 1))))) ) from by
          have d5 := s5 _ _ d3
          refine ⟨D, e, _, _, rfl, rfl, d5, h5.sq, le_line ?_, some (.ref a), some (.ref c), rfl, (s3.trans s5).upd_own hD, (tk3.trans tk5).trans (TQ.lst d5), ?_, ?_⟩
          · rw [ep, List.length_append] at hle
            unfold sV
            rw [List.length_map, List.length_map]
            omega
          · rw [upd_ne (Ne.symm nDF)]
            exact s5 _ _ f3
          · rw [upd_same, ep]
            unfold sV
            rw [List.map_append])
      by_cases c0 : ps[i].1 = ps[i].2
      · refine ifp (decide_eq_true c0) ?_
        exact ⟨_, rfl, fin a H4 (Same.refl H4) (TQ.refl H4) (by rw [if_pos c0]; exact w1)⟩
      · refine ifn (fun q => c0 (of_decide_eq_true q)) ?_
        exact ⟨le_line (show 1 ≤ 100000 by decide), fun e he => fin e _ ((Same.refl H4).upd_new he) (TQ.new he) (by rw [if_neg c0]; exact .of upd_same)⟩
    · rintro σ H3 ⟨x, y, rfl, s3, tk3, f3, d3⟩
      rw [t2, List.take_length] at d3
      exact ⟨_, rfl, D, _, rfl, SqL.of d3, fun u o hu ho => k _ u ps (s3.upd_new hu) hC ⟨o, upd_same, ho⟩⟩
theorem ok_common (T : Bk mg) (c_check_stumps : DefOk P w K mg base (L2.CX P w) 4 "check_stumps" (spChks C A)) (c_shared_stump : DefOk P w K mg base CX0 3 "shared_stump" (spShared C)) (D : Def0 K mg "common" s_common) : DefOk P w K mg base (L2.CX P w) 5 "common" (spStar 2 (spCommon C A)) := by
  refine Def0.star (ps := ["bed", "first"]) (pv := "others") D sc_common (fun kV doc pm an cdv ct => StX.bind_star2 (B := fun us => bindArgs (PySem.W.fnOf "common" "common" (defArgs s_common) (defBody s_common) (defScope s_common) .none kV doc pm an cdv ct) ⟨us, []⟩) (fun _ _ => rfl) (fun _ _ _ _ => rfl)) (fun f cdv A' outer s H vs Q E hr h => ?_)
  obtain ⟨b, t, p, rows, l, ts, ms, rfl, hB, R, ht, hlen, hp, hT, hO, h20, k⟩ := h
  refine ⟨_, (pss_cons (ps_expr (pe_d c_check_stumps (hr.mono (by decide)) (passes_call (takes_of rfl rfl rfl rfl) fun _ _ _ _ h => h) (pa_cons (pv 0) (pa_cons (pe_tup (pa_cons (pv 1) (StX.pa_star (pv 2) pa_nil))) pa_nil))))
    (pss_cons (ps_set (i := 3) sc_common.nd rfl (Or.inl rfl) (pv 1))
    (pss_cons (ps_for (passes_of rfl) rfl (pi_tup (pv 2)) (pg_name (i := 4) sc_common.nd rfl (Or.inl rfl))
      (pss_one (ps_set (i := 3) sc_common.nd rfl (Or.inl rfl) (pe_d c_shared_stump (hr.mono (by decide)) pass0 (pa_cons (pv 0) (pa_cons (pv 3) (pa_cons (pv 4) pa_nil)))))))
    (pss_one (ps_ret (pv 3)))))), ?_⟩
  refine ⟨_, rfl, _, rfl, _, rfl, p, _, rfl, .inl hp.sq, ?_⟩
  refine ⟨le_line ?_, fun u hu => ?_⟩
  · rw [List.append_nil, List.length_cons, List.length_map, hT.1]
    omega
  have s1 := (Same.refl H).upd_new (o := .tup ([V.ref t] ++ (ts.map V.ref ++ []))) hu
  have hTS : TsAt sV H (t :: ts) (l :: ms) := ⟨by rw [List.length_cons, List.length_cons, hT.1], fun i x q a b => by
    match i, a, b with
    | 0, a, b => cases a; cases b; exact ht
    | i + 1, a, b => exact hT.2 i x q a b⟩
  refine ⟨b, u, rows, t :: ts, l :: ms, rfl, hB.same s1, R, ?_, hTS.keep (TQ.of_same s1), ?_, way2 (Way.same s1 (fun k => k) k) fun hd k => ?_⟩
  · refine .of ?_
    rw [upd_same, List.append_nil]
    rfl
  · intro x hx
    rcases List.mem_cons.mp hx with q | q
    · rw [q]; exact hlen
    · exact hO x q
  have hn := fbad_none hd
  intro H1 s2
  have st := s1.trans s2
  have ht1 : Tq H1 t (l.map V.str) := ht.same st
  refine ⟨_, rfl, _, rfl, p, rfl, ⟨_, (hp.same st).sq⟩, for_it (walk_tup (xs := ts.map V.ref)) (fun i σ H' => ∃ (x : Option V) (c : Addr) (z : List Str), σ = [some (.ref b), some (.ref t), some (.ref p), some (.ref c), x] ∧ Same H H' ∧ Tq H' c (z.map V.str) ∧ (0 < i → Tz H' c (z.map V.str)) ∧ StumpOk rows z ∧ ∀ y, ComR rows z (ms.drop i) y → ComR rows l ms y)
    ⟨none, t, l, rfl, st, ht1, fun h => absurd h (Nat.lt_irrefl 0), due_stump R (hn l List.mem_cons_self), fun y h => h⟩ (fun i σ H' _ ⟨_, _, _, _, q, _⟩ => (hp.same q).sq) ?_ ?_⟩
  · rintro i v σ H3 H4 hi ⟨x, c, z, rfl, s3, hc, hcz, Oz, hz⟩ ⟨rfl, hv⟩
    have him : i < ms.length := by rw [List.length_map, hT.1] at hi; exact hi
    obtain ⟨e, e1, e2, e3⟩ := hT.at him
    rw [e2] at hv
    cases hv
    refine ⟨_, rfl, _, rfl, _, rfl, b, c, e, rows, z, ms[i], rfl, hB.same s3, R, hc, Oz, e3.same s3, due_stump R (hn _ (List.mem_cons_of_mem _ (List.getElem_mem him))), fun H5 q ps s4 hC hq => ?_⟩
    refine ⟨_, q, shr ps, rfl, s3.trans s4, hq.q, fun _ => hq, shr_ok R Oz hC, fun y hy => hz y ?_⟩
    rw [List.drop_eq_getElem_cons him]
    exact ⟨ps, hC, hy⟩
  · rintro σ H3 ⟨x, c, z, rfl, s3, hc, hcz, Oz, hz⟩
    rw [List.length_map, hT.1, List.drop_length] at hz
    refine ⟨_, rfl, k _ c z s3 (hz z rfl) hc fun hne => hcz ?_⟩
    rw [List.length_map, hT.1]
    exact List.length_pos_iff.mpr hne
theorem head_of {x : Str} {a : List Str} : (x :: a).head? = some ("*" : Str) ↔ x = "*" := by
  rw [List.head?_cons]
  exact ⟨fun h => Option.some.inj h, fun h => by rw [h]⟩
theorem drop_cut {w : Str → Nat} {l : List Str} {p : Nat} (h : p < l.length) : l.drop p = Mth.cut w l p ++ l.drop (Mth.nxs w l p 1) := by
  unfold Mth.cut
  have h2 := Mth.nxs_ge w l 1 (Nat.le_of_lt h)
  have e : l.drop (Mth.nxs w l p 1) = (l.drop p).drop (Mth.nxs w l p 1 - p) := by rw [List.drop_drop]; congr 1; omega
  rw [e, List.take_append_drop]
theorem cut_head {w : Str → Nat} {l : List Str} {p : Nat} (h : p < l.length) : (Mth.cut w l p).head? = some l[p] := by
  unfold Mth.cut
  have h2 : p < Mth.nxs w l p 1 := Mth.nxs_gt w 0 h
  obtain ⟨z, hz⟩ : ∃ z, Mth.nxs w l p 1 - p = z + 1 := ⟨Mth.nxs w l p 1 - p - 1, by omega⟩
  rw [hz, List.drop_eq_getElem_cons h, List.take_succ_cons]
  rfl
theorem ok_union_of (T : Bk mg) (D : Def0 K mg "union_of" s_union_of) : DefOk P w K mg base CX0 1 "union_of" spUnionOf := by
  refine D.ok sc_union_of (fun vs H Q E h => ?_) (fun _ _ _ _ _ _ us hl => match us, hl with | [_, _, _, _, _], _ => rfl) (fun f cdv A' outer s H vs Q E hr h => ?_)
  · obtain ⟨s, d, t, e, p, rows, l, m, rfl, _⟩ := h
    rfl
  · obtain ⟨s, d, t, e, p0, rows, l, m, rfl, R, hs, O, hp0, ht, O2, hd, he, k⟩ := h
    have hsz := O.sz
    have hsz2 := O2.sz
    have w0 : wR rows "*" = 0 := w_star R
    obtain ⟨n00, hF0⟩ := Mth.Fst.all (wR rows) O.f p0 (Nat.le_of_lt hp0)
    obtain ⟨n0, rfl⟩ := hF0.pos _ hp0
    refine ⟨_, (pss_cons (ps_set (i := 5) sc_union_of.nd rfl (Or.inl rfl) (pe_lst pa_nil))
      (pss_cons (ps_set (i := 6) sc_union_of.nd rfl (Or.inl rfl) pe_int)
      (pss_cons (ps_while PassesOwn.never (pt_cmpR op_lt (pv 6) (pe_callB call_len_seq (by rfl) T.b_len boot_len (pa_cons (pv 3) pa_nil)) (nomark _))
        (pss_cons (ps_par (i := 7) (j := 8) rfl sc_union_of.nd rfl rfl (by decide) rfl rfl (pa_cons (pe_op op_add (pv 2) pe_int) (pa_cons (pe_op op_add (pv 6) pe_int) pa_nil)) rfl)
        (pss_cut (ps_if (PW.pt (pw_or (pt_cmpR op_eq (pe_ix ix_tup (pv 0) (pv 2) (fun _ _ => rfl)) (pe_ix ix_tup (pv 3) (pv 6) (fun _ _ => rfl)) (nomark _)) (pw_or1 (pt_cmpR op_eq (pe_ix ix_tup (pv 3) (pv 6) (fun _ _ => rfl)) (pe_cS (by rfl) T.c_HOLE) (nomark _)))))
          (pss_cons (ps_set (i := 7) sc_union_of.nd rfl (Or.inl rfl) (pe_ifExp (pt_cmpR op_eq (pe_ix ix_tup (pv 0) (pv 2) (fun _ _ => rfl)) (pe_ix ix_tup (pv 3) (pv 6) (fun _ _ => rfl)) (nomark _)) (pe_op op_add (pv 2) pe_int) (pe_ix ix_list (pv 1) (pv 2) (fun _ _ => rfl))))
          (pss_one (ps_expr (pe_bm PySem.F.plainAttrs_list PySem.F.slot_list_extend PySem.F.type_list_extend mt_extendT (pv 5) (pa_cons (pe_slice sl_tupA (pv 0) (po_some (pv 2)) (po_some (pv 7))) pa_nil)))))
          (pss_one (ps_if (pt_cmpR op_eq (pe_ix ix_tup (pv 0) (pv 2) (fun _ _ => rfl)) (pe_cS (by rfl) T.c_HOLE) (nomark _))
            (pss_cons (ps_set (i := 8) sc_union_of.nd rfl (Or.inl rfl) (pe_ix ix_list (pv 4) (pv 6) (fun _ _ => rfl)))
            (pss_one (ps_expr (pe_bm PySem.F.plainAttrs_list PySem.F.slot_list_extend PySem.F.type_list_extend mt_extendT (pv 5) (pa_cons (pe_slice sl_tupA (pv 3) (po_some (pv 6)) (po_some (pv 8))) pa_nil)))))
            (pss_one (ps_ret pe_non)))))
        (pss_one (ps_par (i := 2) (j := 6) rfl sc_union_of.nd rfl rfl (by decide) rfl rfl (pa_cons (pv 7) (pa_cons (pv 8) pa_nil)) rfl)))))
      (pss_one (ps_ret (pv 5)))))), ?_⟩
    refine ⟨le_line (show 0 ≤ 100000 by decide), fun D hD => ?_⟩
    have s0 := (Same.refl H).upd_new (o := .lst []) hD
    refine ⟨fun μ σ H' => ∃ (y z : Option V) (p q n : Nat) (u : List Str), σ = [some (.ref s), some (.ref d), some (.int (p : Nat)), some (.ref t), some (.ref e), some (.ref D), some (.int (q : Nat)), y, z] ∧ μ = m.length - q ∧ Same H H' ∧
      H' D = some (.lst (sV u)) ∧ u.length + p0 ≤ p + q ∧ p ≤ l.length ∧ q ≤ m.length ∧ (∀ o, Un (wR rows) (l.drop p) (m.drop q) o → Un (wR rows) (l.drop p0) m (o.map fun x => u ++ x)) ∧ Mth.Fst (wR rows) l p (n + n0) ∧ Mth.Fst (wR rows) m q n, ⟨_, none, none, p0, 0, 1, [], rfl, rfl, s0, upd_same, Nat.le_of_eq (Nat.zero_add _), Nat.le_of_lt hp0, Nat.zero_le _, fun o h => by simpa using h, (by rw [Nat.add_comm]; exact hF0), ⟨Nat.zero_le _, O2.f⟩⟩, ?_⟩
    rintro μ σ H3 ⟨y, z, p, q, n, u, rfl, rfl, s3, hu3, hul, hpl, hql, hU, F1, F2⟩
    refine ⟨_, rfl, _, rfl, t, _, rfl, .inr (ht.same s3).sq, _, _, rfl, rfl, _, rfl, ?_⟩
    by_cases hlt : q < m.length
    · refine ifp (by rw [List.length_map]; exact decide_eq_true (by omega)) ⟨fun σ' H' => ∃ m', m' < m.length - q ∧ _, fun _ _ h => h, ?_⟩
      have hn : ∃ n', n = n' + 1 := F2.pos _ hlt
      obtain ⟨n', rfl⟩ := hn
      have F1' : Mth.Fst (wR rows) l p (n' + n0 + 1) := by rw [show n' + n0 + 1 = n' + 1 + n0 by omega]; exact F1
      have hpm : p < l.length := Mth.Fst.lt (wR rows) F1'
      have G1 := F1'.in _ (List.getElem?_eq_getElem hpm)
      have G2 := F2.in _ (List.getElem?_eq_getElem hlt)
      have S1 : Mth.Fst (wR rows) l (Mth.nxs (wR rows) l p 1) (n' + n0) := Mth.Fst.skip (wR rows) (a := 1) (b := n' + n0) (by rw [Nat.add_comm]; exact F1')
      have S2 : Mth.Fst (wR rows) m (Mth.nxs (wR rows) m q 1) n' := Mth.Fst.skip (wR rows) (a := 1) (b := n') (by rw [Nat.add_comm]; exact F2)
      have dl : l.drop p = l[p] :: l.drop (p + 1) := List.drop_eq_getElem_cons hpm
      have dm : m.drop q = m[q] :: m.drop (q + 1) := List.drop_eq_getElem_cons hlt
      have k1 : p < Mth.nxs (wR rows) l p 1 := Mth.nxs_gt (wR rows) 0 hpm
      have k2 : q < Mth.nxs (wR rows) m q 1 := Mth.nxs_gt (wR rows) 0 hlt
      have k3 := Mth.nxs_le (wR rows) l p 1
      have k4 := Mth.nxs_le (wR rows) m q 1
      have at1 : ∀ H', Same H H' → ∃ a, Tq H' s (l.map V.str) := fun H' q => ⟨s, hs.same q⟩
      refine ⟨_, rfl, _, _, rfl, rfl, _, rfl, _, _, rfl, rfl, _, _, rfl, ?_⟩
      have next : ∀ (p2 q2 : Nat) (c : List Str) (H4 : Hp), Same H H4 → H4 D = some (.lst (sV (u ++ c))) → c.length + p + q ≤ p2 + q2 → p2 ≤ l.length → q2 ≤ m.length → q < q2 →
          (∀ o, Un (wR rows) (l.drop p2) (m.drop q2) o → Un (wR rows) (l.drop p) (m.drop q) (o.map fun x => c ++ x)) → (∃ n2, Mth.Fst (wR rows) l p2 (n2 + n0) ∧ Mth.Fst (wR rows) m q2 n2) →
          ∃ m', m' < m.length - q ∧ ∃ (y z : Option V) (p_1 q_1 n_1 : Nat) (u_1 : List Str), ([some (.ref s), some (.ref d), some (.int (p2 : Nat)), some (.ref t), some (.ref e), some (.ref D), some (.int (q2 : Nat)), some (.int (p2 : Nat)), some (.int (q2 : Nat))] : L2.St) = [some (.ref s), some (.ref d), some (.int (p_1 : Nat)), some (.ref t), some (.ref e), some (.ref D), some (.int (q_1 : Nat)), y, z] ∧ m' = m.length - q_1 ∧ Same H H4 ∧
            H4 D = some (.lst (sV u_1)) ∧ u_1.length + p0 ≤ p_1 + q_1 ∧ p_1 ≤ l.length ∧ q_1 ≤ m.length ∧ (∀ o, Un (wR rows) (l.drop p_1) (m.drop q_1) o → Un (wR rows) (l.drop p0) m (o.map fun x => u_1 ++ x)) ∧ Mth.Fst (wR rows) l p_1 (n_1 + n0) ∧ Mth.Fst (wR rows) m q_1 n_1 := by
        rintro p2 q2 c H4 s4 h4 hc h5 h6 h7 hUn ⟨n2, g1, g2⟩
        refine ⟨m.length - q2, by omega, _, _, p2, q2, n2, u ++ c, rfl, rfl, s4, h4, by rw [List.length_append]; omega, h5, h6, fun o h => ?_, g1, g2⟩
        have := hU _ (hUn o h)
        rw [Option.map_map] at this
        have e : ((fun x => u ++ x) ∘ fun x => c ++ x) = fun x => u ++ c ++ x := by funext x; simp
        rw [e] at this
        exact this
      refine ⟨fun σ' H' => ∃ (p2 q2 : Nat) (c : List Str), σ' = [some (.ref s), some (.ref d), some (.int (p : Nat)), some (.ref t), some (.ref e), some (.ref D), some (.int (q : Nat)), some (.int (p2 : Nat)), some (.int (q2 : Nat))] ∧ Same H H' ∧ H' D = some (.lst (sV (u ++ c))) ∧ c.length + p + q ≤ p2 + q2 ∧ p2 ≤ l.length ∧ q2 ≤ m.length ∧ q < q2 ∧
          (∀ o, Un (wR rows) (l.drop p2) (m.drop q2) o → Un (wR rows) (l.drop p) (m.drop q) (o.map fun x => c ++ x)) ∧ (∃ n2, Mth.Fst (wR rows) l p2 (n2 + n0) ∧ Mth.Fst (wR rows) m q2 n2), ?_, ?_⟩
      · have ln : ∀ (xs : List Str) (i j : Nat), j - i ≤ 2000 → (sV u).length + (((xs.map V.str).drop i).take (j - i)).length ≤ 100000 := fun xs i j h => by
          unfold sV
          rw [List.length_map, List.length_take]
          omega
        have up : ∀ (xs : List Str) (i j : Nat) (H4 : Hp), (upd H4 D (.lst (sV u ++ ((xs.map V.str).drop i).take (j - i)))) D = some (.lst (sV (u ++ (xs.drop i).take (j - i)))) := fun xs i j H4 => by
          rw [upd_same]
          unfold sV
          rw [List.map_append, List.map_take, List.map_drop]
        refine ⟨_, rfl, _, rfl, s, _, _, _, rfl, rfl, (hs.same s3).sq, str_at hpm rfl, _, rfl, _, rfl, t, _, _, _, rfl, rfl, (ht.same s3).sq, str_at hlt rfl, rfl, _, rfl, ?_⟩
        have one : (l.drop p).take (p + 1 - p) = [l[p]] := by
          rw [Nat.add_sub_cancel_left, dl]
          rfl
        by_cases c : l[p] = m[q]
        · refine ifp (decide_eq_true (congrArg V.str c)) ?_
          refine ⟨_, rfl, _, rfl, s, _, _, _, rfl, rfl, (hs.same s3).sq, str_at hpm rfl, _, rfl, _, rfl, t, _, _, _, rfl, rfl, (ht.same s3).sq, str_at hlt rfl, rfl, _, rfl, ifp (decide_eq_true (congrArg V.str c)) ?_⟩
          refine ⟨_, rfl, _, _, rfl, rfl, _, rfl, .inl ⟨rfl, _, SqL.of hu3⟩, _, rfl, _, rfl, _, rfl, _, rfl, _, rfl, ?_⟩
          refine slA_of (hs.same s3) (by rw [List.length_map]; exact hpm) (Nat.le_succ p) (fun c9 H4 s4 hc => ?_)
          refine ⟨D, c9, _, _, rfl, rfl, s4 _ _ hu3, hc.sq, le_line (ln l p (p + 1) (by omega)), ?_⟩
          refine ⟨p + 1, q + 1, [l[p]], rfl, (s3.trans s4).upd_own hD, by rw [← one]; exact up _ _ _ _, by rw [List.length_singleton]; omega, hpm, hlt, Nat.lt_succ_self q, fun o h => ?_, wR rows l[p] + n', ?_, ?_⟩
          · rw [dl, dm, ← c]
            exact .same _ _ _ _ h
          · rw [Nat.add_assoc]; exact G1
          · rw [c]; exact G2
        · refine ifn (fun x => c (V.str.inj (of_decide_eq_true x))) ?_
          refine ⟨_, rfl, _, rfl, t, _, _, _, rfl, rfl, (ht.same s3).sq, str_at hlt rfl, rfl, _, rfl, ?_⟩
          by_cases c2 : m[q] = ("*" : Str)
          · refine ifp (decide_eq_true (congrArg V.str c2)) ?_
            refine ⟨_, rfl, _, rfl, s, _, _, _, rfl, rfl, (hs.same s3).sq, str_at hpm rfl, _, rfl, _, rfl, t, _, _, _, rfl, rfl, (ht.same s3).sq, str_at hlt rfl, rfl, _, rfl, ifn (fun x => c (V.str.inj (of_decide_eq_true x))) ?_⟩
            refine ⟨_, rfl, _, rfl, d, _, _, _, rfl, rfl, SqL.of (s3 _ _ hd), int_at (Mth.ends_get (wR rows) hpm) rfl, _, rfl, .inl ⟨rfl, _, SqL.of hu3⟩, _, rfl, _, rfl, _, rfl, _, rfl, _, rfl, ?_⟩
            refine slA_of (hs.same s3) (by rw [List.length_map]; exact k3) (Nat.le_of_lt k1) (fun c9 H4 s4 hc => ?_)
            refine ⟨D, c9, _, _, rfl, rfl, s4 _ _ hu3, hc.sq, le_line (ln l p _ (by omega)), ?_⟩
            refine ⟨_, q + 1, Mth.cut (wR rows) l p, rfl, (s3.trans s4).upd_own hD, up _ _ _ _, ?_, k3, hlt, Nat.lt_succ_self q, fun o h => ?_, n', S1, ?_⟩
            · unfold Mth.cut
              rw [List.length_take, List.length_drop]
              omega
            · rw [drop_cut hpm, dm, c2]
              exact .right _ _ _ _ (Mth.cut_forest (wR rows) O.f hpm) (by rw [cut_head hpm]; exact fun x => c ((Option.some.inj x).trans c2.symm)) h
            · rw [c2, w0, Nat.zero_add] at G2
              exact G2
          · refine ifn (fun x => c2 (V.str.inj (of_decide_eq_true x))) ?_
            refine ⟨_, rfl, _, rfl, s, _, _, _, rfl, rfl, (hs.same s3).sq, str_at hpm rfl, rfl, _, rfl, ?_⟩
            by_cases c3 : l[p] = ("*" : Str)
            · refine ifp (decide_eq_true (congrArg V.str c3)) ?_
              refine ⟨_, rfl, _, rfl, e, _, _, _, rfl, rfl, SqL.of (s3 _ _ he), int_at (Mth.ends_get (wR rows) hlt) rfl, _, rfl, .inl ⟨rfl, _, SqL.of hu3⟩, _, rfl, _, rfl, _, rfl, _, rfl, _, rfl, ?_⟩
              refine slA_of (ht.same s3) (by rw [List.length_map]; exact k4) (Nat.le_of_lt k2) (fun c9 H4 s4 hc => ?_)
              refine ⟨D, c9, _, _, rfl, rfl, s4 _ _ hu3, hc.sq, le_line (ln m q _ (by omega)), ?_⟩
              refine ⟨p + 1, _, Mth.cut (wR rows) m q, rfl, (s3.trans s4).upd_own hD, up _ _ _ _, ?_, hpm, k4, k2, fun o h => ?_, n', ?_, S2⟩
              · unfold Mth.cut
                rw [List.length_take, List.length_drop]
                omega
              · rw [drop_cut hlt, dl, c3]
                exact .left _ _ _ _ (Mth.cut_forest (wR rows) O2.f hlt) (by rw [cut_head hlt]; exact fun x => c2 (Option.some.inj x)) h
              · rw [c3, w0, Nat.zero_add] at G1
                exact G1
            · refine ifn (fun x => c3 (V.str.inj (of_decide_eq_true x))) ?_
              refine k _ _ none s3 ?_ rfl
              refine hU none ?_
              rw [dl, dm]
              exact .clash _ _ _ _ c c3 c2
      · rintro σ' H4 ⟨p2, q2, c, rfl, s4, h4, hc, h5, h6, h7, hUn, hn2⟩
        refine ⟨_, rfl, _, rfl, _, _, rfl, ?_⟩
        exact next p2 q2 c H4 s4 h4 hc h5 h6 h7 hUn hn2
    · refine ifn (by rw [List.length_map]; simp only [decide_eq_true_iff]; omega) ?_
      have eq : q = m.length := by omega
      have h0 := hU (some []) (by rw [eq, List.drop_length]; exact .nil _)
      refine ⟨_, rfl, k _ _ _ s3 h0 ⟨D, rfl, ?_⟩⟩
      show H3 D = some (.lst (sV (u ++ [])))
      rw [List.append_nil]
      exact hu3
theorem ok_united (T : Bk mg) (x : XS P w K mg A) (c_check_size : DefOk P w K mg base (L2.CX P w) 2 "check_size" (spSize K A.T)) (c_check_stumps : DefOk P w K mg base (L2.CX P w) 4 "check_stumps" (spChks C A)) (c_ends_of : DefOk P w K mg base CX0 1 "ends_of" (spEnds C)) (c_union_of : DefOk P w K mg base CX0 1 "union_of" spUnionOf) (D : Def0 K mg "united" s_united) : DefOk P w K mg base (L2.CX P w) 5 "united" (spUnited C A) := by
  refine D.okX sc_united (fun vs H Q E h => ?_) (fun _ _ _ _ _ _ us hl => match us, hl with | [_, _, _], _ => rfl) (fun f cdv A' outer s H vs Q E hr h => ?_)
  · obtain ⟨b, s, t, rows, l, m, rfl, _⟩ := h
    rfl
  · obtain ⟨b, s, t, rows, l, m, rfl, hB, R, hs, hl1, ht, hl2, k⟩ := h
    refine ⟨_, (pss_cons (ps_expr (pe_d c_check_stumps (hr.mono (by decide)) (passes_call (takes_of rfl rfl rfl rfl) fun _ _ _ _ h => h) (pa_cons (pv 0) (pa_cons (pe_tup (pa_cons (pv 1) (pa_cons (pv 2) pa_nil))) pa_nil))))
      (pss_cons (ps_set (i := 3) sc_united.nd rfl (Or.inl rfl) (pe_d c_union_of (hr.mono (by decide)) pass0 (pa_cons (pv 1) (pa_cons (pe_d c_ends_of (hr.mono (by decide)) pass0 (pa_cons (pv 0) (pa_cons (pv 1) pa_nil))) (pa_cons pe_int (pa_cons (pv 2) (pa_cons (pe_d c_ends_of (hr.mono (by decide)) pass0 (pa_cons (pv 0) (pa_cons (pv 2) pa_nil))) pa_nil)))))))
      (pss_cons (ps_if (pt_cmpR op_isN (pv 3) pe_non (nomark _))
        (pss_one (ps_ret pe_non))
        pss_nil)
      (pss_cons (ps_expr (pe_d c_check_size (hr.mono (by decide)) (passes_call (takes_of rfl rfl rfl rfl) fun _ _ _ _ h => h) (pa_cons (pv 3) pa_nil)))
      (pss_one (ps_ret (pe_callTy call_tupleF (by rfl) T.b_tuple (by decide +kernel) (pa_cons (pv 3) pa_nil)))))))), ?_⟩
    refine ⟨_, rfl, _, rfl, _, rfl, le_line (show 2 ≤ 100000 by decide), fun p hp => ?_⟩
    have s0 := (Same.refl H).upd_new (o := .tup [.ref s, .ref t]) hp
    refine ⟨b, p, rows, [s, t], [l, m], rfl, hB.same s0, R, .of upd_same, two_at (hs.same s0) (ht.same s0), fun x hx => ?_, way2 (Way.same s0 (fun k => k) k) fun hd k => ?_⟩
    · rcases List.mem_cons.mp hx with q | q
      · rw [q]; exact hl1
      · rw [List.mem_singleton.mp q]; exact hl2
    obtain ⟨d1, d2⟩ := fbad2 hd
    have O := due_stump R d1
    have O2 := due_stump R d2
    have hsz := O.sz
    have hsz2 := O2.sz
    intro H1 sa
    have sb := s0.trans sa
    refine ⟨_, rfl, _, rfl, _, rfl, b, s, rows, l, rfl, hB.same sb, R, hs.same sb, O.wf, fun H2 d s2 _ hd2 => ?_⟩
    have sc := sb.trans s2
    refine ⟨_, rfl, _, rfl, _, rfl, b, t, rows, m, rfl, hB.same sc, R, ht.same sc, O2.wf, fun H3 e s3 _ he => ?_⟩
    have sd := sc.trans s3
    refine ⟨s, d, t, e, 0, rows, l, m, rfl, R, hs.same sd, O.wf, List.length_pos_iff.mpr (Mth.forest_pos _ O.f), ht.same sd, O2.wf, s3 _ _ hd2, he, fun H4 v o s4 hU hv => ?_⟩
    have se := sd.trans s4
    have k := k o hU
    cases o with
    | none =>
      have hv : v = .non := hv
      subst hv
      exact ⟨_, rfl, rfl, _, rfl, ifp rfl (k.1 rfl _ se)⟩
    | some u =>
      obtain ⟨D, rfl, hD⟩ := hv
      obtain ⟨k2, k3⟩ := k.2 u rfl
      have hln : (sV u).length = u.length := by unfold sV; rw [List.length_map]
      refine ⟨_, rfl, rfl, _, rfl, ifn (by simp) ?_⟩
      refine ⟨_, rfl, D, _, rfl, .inl (SqL.of hD), fun hle => ?_, fun hgt d hd => ?_⟩
      · rw [hln] at hle
        exact ⟨_, rfl, D, _, rfl, SqL.of hD, fun u' o hu' ho => k3 hle _ u' (se.upd_new hu') ⟨o, upd_same, ho⟩⟩
      · rw [hln] at hgt
        exact k2 hgt _ d se hd
end
end Sh
end
section
set_option Elab.async false
set_option linter.all false
set_option maxRecDepth 100000
set_option maxHeartbeats 2000000
set_option autoImplicit false
namespace Sh
open PySem PySem.Spec PyProof.Rows L2
open C8 (pss_cut tCut)
open Evl (ixN_nat)
def Shrt (ps : List Str) : Prop := ∀ z ∈ ps, z.length ≤ 100
/-- all stands but the two -/
def Kp2 (a b : Addr) (H H' : Hp) : Prop := ∀ c o, H c = some o → c ≠ a → c ≠ b → H' c = some o
def spClose : Sp := fun vs H Q _ => ∃ (p q : Addr) (ps : List Str) (ms : List Int), vs = [.ref p, .ref q] ∧ p ≠ q ∧ H p = some (.lst (sV ps)) ∧ H q = some (.lst (ms.map V.int)) ∧ Shrt ps ∧ ps.length + ms.length ≤ 60000 ∧
  ∀ H' (ps' : List Str) (ms' : List Int), Kp2 p q H H' → H' p = some (.lst (sV ps')) → H' q = some (.lst (ms'.map V.int)) → Shrt ps' → ps'.length + ms'.length ≤ ps.length + ms.length + 1 → Q .non H'
def spText (C : Addr) : Sp := fun vs H Q _ => ∃ (b t : Addr) (rows : List Row) (l : List Str), vs = [.ref b, .ref t] ∧ BedAt C H b rows ∧ ROk 8 rows ∧ Tq H t (l.map V.str) ∧ l.length ≤ 2000 ∧ Shrt l ∧ ∀ H' z, Same H H' → Q (.str z) H'
def spWritten (C : Addr) (A : XA) : Sp := fun vs H Q E => ∃ (b t : Addr) (rows : List Row) (l : List Str), vs = [.ref b, .ref t] ∧ BedAt C H b rows ∧ ROk 8 rows ∧ Tq H t (l.map V.str) ∧ l.length ≤ 6000 ∧ Shrt l ∧ Way A E H (due rows true l) (∀ H' z, Same H H' → Q (.str z) H')
theorem last_at {ms : List Int} {x : Int} : ixN ((ms ++ [x]).map V.int).length (-1) = some ms.length := by
  unfold ixN
  rw [List.length_map, List.length_append, List.length_singleton, if_neg (by omega), if_pos (by omega)]
  congr 1
  omega
theorem last_get {ms : List Int} {x : Int} : atI ((ms ++ [x]).map V.int) (-1) = some (.int x) := by
  unfold atI
  rw [last_at]
  show ((ms ++ [x]).map V.int)[ms.length]? = _
  rw [List.getElem?_map, List.getElem?_concat_length]
  rfl
theorem last_set {ms : List Int} {x y : Int} : ((ms ++ [x]).map V.int).set ms.length (V.int y) = (ms ++ [y]).map V.int := by
  rw [List.map_append, List.map_append, List.set_append_right _ _ (by rw [List.length_map]; exact Nat.le_refl _), List.length_map, Nat.sub_self]
  rfl
theorem sum_le : ∀ {ps : List Str}, Shrt ps → (ps.map (·.length)).sum ≤ 100 * ps.length
  | [], _ => Nat.zero_le _
  | z :: r, h => by
    have ih := sum_le (ps := r) fun y hy => h y (List.mem_cons_of_mem _ hy)
    have hz := h z List.mem_cons_self
    rw [List.map_cons, List.sum_cons, List.length_cons]
    omega
theorem Shrt.snoc {ps : List Str} {z : Str} (h : Shrt ps) (hz : z.length ≤ 100) : Shrt (ps ++ [z]) := fun y hy => by
  rcases List.mem_append.mp hy with q | q
  · exact h y q
  · rw [List.mem_singleton.mp q]
    exact hz
section
variable {P : Program} {w : World} {K : PySem.W.Frag} {mg : Str → Option Value} {base : Heap} {C : Addr} {A : XA}
end
end Sh
end
section
set_option Elab.async false
set_option linter.all false
set_option maxRecDepth 100000
set_option maxHeartbeats 2000000
set_option autoImplicit false
namespace Mth
variable {α : Type} (w : α → Nat)
/-- what stands so far: n branches are still wanted -/
def Pre (l : List α) (n : Nat) : Prop := ∀ r, forest w r n = true → forest w (l ++ r) 1 = true
theorem Pre.nil : Pre w ([] : List α) 1 := fun _ h => h
theorem Pre.snoc {l : List α} {n : Nat} {k : α} (h : Pre w l (n + 1)) : Pre w (l ++ [k]) (w k + n) := fun r hr => by
  rw [List.append_assoc]
  exact h (k :: r) hr
theorem Pre.done {l : List α} (h : Pre w l 0) : forest w l 1 = true := by
  have q := h [] rfl
  rw [List.append_nil] at q
  exact q
theorem rep1 {a : α} (ha : w a = 1) (r : List α) (n : Nat) : ∀ k, forest w (List.replicate k a ++ r) (n + 1) = forest w r (n + 1)
  | 0 => rfl
  | k + 1 => by
    show forest w (List.replicate k a ++ r) (w a + n) = _
    rw [ha, Nat.add_comm 1 n]
    exact rep1 ha r n k
theorem rep2 {a b : α} (ha : w a = 2) (hb : w b = 0) (r : List α) (n : Nat) : ∀ k, forest w ((List.replicate k [a, b]).flatten ++ r) (n + 1) = forest w r (n + 1)
  | 0 => rfl
  | k + 1 => by
    rw [List.replicate_succ, List.flatten_cons, List.append_assoc]
    show forest w (b :: ((List.replicate k [a, b]).flatten ++ r)) (w a + n) = _
    rw [ha, show 2 + n = (n + 1) + 1 by omega]
    show forest w ((List.replicate k [a, b]).flatten ++ r) (w b + (n + 1)) = _
    rw [hb, Nat.zero_add]
    exact rep2 ha hb r n k
theorem rep3 {a : α} (ha : w a = 2) (r : List α) : ∀ (k n : Nat), forest w (List.replicate k a ++ r) (n + 1) = forest w r (n + 1 + k)
  | 0, n => rfl
  | k + 1, n => by
    show forest w (List.replicate k a ++ r) (w a + n) = _
    rw [ha, show 2 + n = (n + 1) + 1 by omega, rep3 ha r k (n + 1)]
    congr 1
    omega
theorem rep4 {b : α} (hb : w b = 0) : ∀ k, forest w (List.replicate k b) k = true
  | 0 => rfl
  | k + 1 => by
    show forest w (List.replicate k b) (w b + k) = true
    rw [hb, Nat.zero_add]
    exact rep4 hb k
end Mth
namespace Sh
open PySem PySem.Spec PyProof.Rows L2
open C8 (pss_cut tCut)
open Evl (ixN_nat)
theorem row_mem {rows : List Row} {m : Int} (R : ROk m rows) {q : Row} (h : q ∈ rows) : ((wR rows q.1 : Nat) : Int) = q.2 := by
  obtain ⟨i, hi, e⟩ := List.mem_iff_getElem.mp h
  rw [← e]
  exact row_at R hi
def menuOf (rows : List Row) (hole : Bool) : List Row := rows ++ if hole = true then [(("*" : Str), (0 : Int))] else []
theorem menu_facts {rows : List Row} (R : ROk 8 rows) (hole : Bool) : (∀ q ∈ menuOf rows hole, ((wR rows q.1 : Nat) : Int) = q.2) ∧ (∀ z, (∃ q ∈ menuOf rows hole, q.1 = z) → (hole = true ∧ z = "*") ∨ ∃ q ∈ rows, q.1 = z) ∧ (∃ q ∈ menuOf rows hole, q.2 = 0) ∧ (menuOf rows hole).length ≤ 9 := by
  have h8 := R.len
  have split : ∀ q ∈ menuOf rows hole, q ∈ rows ∨ (hole = true ∧ q = ((("*" : Str), (0 : Int)) : Row)) := fun q hq => by
    rcases List.mem_append.mp hq with h | h
    · exact .inl h
    · cases hole
      · exact nomatch h
      · exact .inr ⟨rfl, List.mem_singleton.mp h⟩
  refine ⟨fun q hq => ?_, fun z ⟨q, hq, e⟩ => ?_, ?_, ?_⟩
  · rcases split q hq with h | ⟨_, h⟩
    · exact row_mem R h
    · rw [h]
      show ((wR rows ("*" : Str) : Nat) : Int) = 0
      rw [w_star R]
      rfl
  · rcases split q hq with h | ⟨h0, h⟩
    · exact .inr ⟨q, h, e⟩
    · exact .inl ⟨h0, by rw [← e, h]⟩
  · obtain ⟨q, hq, e⟩ := R.leaf
    exact ⟨q, List.mem_append_left _ hq, e⟩
  · unfold menuOf
    rw [List.length_append]
    cases hole
    · show rows.length + 0 ≤ 9
      omega
    · show rows.length + 1 ≤ 9
      omega
def spLawPlant : Sp := fun vs H Q _ => ∃ (a r : Addr) (rows : List Row) (m : Nat) (hole : Bool), vs = [.ref a, .ref r, .int ((m : Nat) : Int), .bl hole] ∧ BagAt H a ∧ r ≠ a ∧ RowsAt H r rows ∧ ROk 8 rows ∧ 1 ≤ m ∧ m ≤ 100 ∧
  ∀ H' t l, Kp a H H' → BagAt H' a → Tz H' t (l.map V.str) → Mth.forest (wR rows) l 1 = true → (∀ z ∈ l, (hole = true ∧ z = "*") ∨ ∃ q ∈ rows, q.1 = z) → l.length ≤ m → Q (.ref t) H'
theorem take_filter {α : Type} (p : α → Bool) {l : List α} {i : Nat} {x : α} (h : l[i]? = some x) : (l.take (i + 1)).filter p = (l.take i).filter p ++ if p x = true then [x] else [] := by
  rw [← take_snoc h, List.filter_append, List.filter_cons, List.filter_nil]
theorem TupsAt.nil {H : Hp} : TupsAt H [] [] := ⟨rfl, fun i t q a => by simp at a⟩
theorem Kp.free {a p : Addr} {H H1 : Hp} (x : Kp a H H1) (b : BagAt H a) (h : H1 p = none) (b1 : BagAt H1 a) : H p = none := x.free_of h (Kp.bag_ne b1 h)
structure LF (a mu pl : Addr) (H H' : Hp) (ts : List Addr) (rows : List Row) (l : List Str) : Prop where
  k : Kp a H H'
  b : BagAt H' a
  m : H' mu = some (.lst (ts.map V.ref))
  t : TupsAt H' ts rows
  p : H' pl = some (.lst (l.map V.str))
theorem LF.new {a mu pl p : Addr} {H H' : Hp} {ts : List Addr} {rows : List Row} {l : List Str} {o : HO} (x : LF a mu pl H H' ts rows l) (h : H' p = none) : LF a mu pl H (upd H' p o) ts rows l :=
  ⟨x.k.upd_new h, x.b.upd_ne (Kp.bag_ne x.b h), by rw [upd_ne (ne_of_none x.m h)]; exact x.m, x.t.keep (TK.new h), by rw [upd_ne (ne_of_none x.p h)]; exact x.p⟩
theorem LF.own {a mu pl p : Addr} {H H' : Hp} {ts : List Addr} {rows : List Row} {l : List Str} {o : HO} {ys : List V} (x : LF a mu pl H H' ts rows l) (h : H p = none) (n1 : p ≠ a) (n2 : p ≠ mu) (n3 : p ≠ pl) (hp : H' p = some (.lst ys)) : LF a mu pl H (upd H' p o) ts rows l :=
  ⟨x.k.upd_own h, x.b.upd_ne n1, by rw [upd_ne n2.symm]; exact x.m, x.t.keep (TK.lst hp), by rw [upd_ne n3.symm]; exact x.p⟩
theorem LF.kp {a mu pl : Addr} {H H' H2 : Hp} {ts : List Addr} {rows : List Row} {l : List Str} (x : LF a mu pl H H' ts rows l) (k : Kp a H' H2) (b : BagAt H2 a) (n2 : mu ≠ a) (n3 : pl ≠ a) : LF a mu pl H H2 ts rows l :=
  ⟨x.k.trans k, b, k _ _ x.m n2, x.t.keep (k.tk x.b), k _ _ x.p n3⟩
abbrev s_law_plant : Stmt := top 51
abbrev N_law_plant : List Str := ["bag", "rows", "most", "with_holes", "menu", "least", "plant", "need", "k", "room", "let", "wide", "chosen", "row"]
theorem sc_law_plant : FnScope N_law_plant ["bag", "rows", "most", "with_holes"] (defScope s_law_plant) := ⟨rfl, rfl, rfl, by decide +kernel, rfl, by decide +kernel, by decide +kernel⟩
section
variable {P : Program} {w : World} {K : PySem.W.Frag} {mg : Str → Option Value} {base : Heap} {C CT : Addr}
theorem ok_law_plant (T : Bk mg) (c_law_draw : DefOk P w K mg base CX0 1 "_law_draw" spDraw) (D : Def0 K mg "_law_plant" s_law_plant) : DefOk P w K mg base CX0 2 "_law_plant" spLawPlant := by
  refine D.ok sc_law_plant (fun vs H Q E h => ?_) (fun _ _ _ _ _ _ us hl => match us, hl with | [_, _, _, _], _ => rfl) (fun f cdv A outer s H vs Q E hr h => ?_)
  · obtain ⟨a, r, rows, m, hole, rfl, _⟩ := h
    rfl
  · obtain ⟨a, r, rows, m, hole, rfl, bA, nra, ⟨ts, hR, hT⟩, R, m1, m2, k⟩ := h
    have R8 : rows.length ≤ 8 := by have := R.len; omega
    refine ⟨_, (pss_cons (ps_set (i := 4) sc_law_plant.nd rfl (Or.inl rfl) (pe_callTy call_list_of (by rfl) T.b_list (by decide +kernel) (pa_cons (pv 1) pa_nil)))
      (pss_cut (ps_if (pt_val (pv 3))
        (pss_one (ps_expr (pe_bm PySem.F.plainAttrs_list PySem.F.slot_list_append PySem.F.type_list_append mt_append (pv 4) (pa_cons (pe_tup (pa_cons pe_str (pa_cons pe_int pa_nil))) pa_nil))))
        pss_nil)
      (pss_cons (ps_set (i := 5) sc_law_plant.nd rfl (Or.inl rfl) (pe_d c_law_draw (hr.mono (by decide)) pass0 (pa_cons (pv 0) (pa_cons (pe_op op_add (pv 2) pe_int) pa_nil))))
      (pss_cons (ps_set (i := 6) sc_law_plant.nd rfl (Or.inl rfl) (pe_lst pa_nil))
      (pss_cons (ps_set (i := 7) sc_law_plant.nd rfl (Or.inl rfl) pe_int)
      (pss_cons (ps_for PassesOwn.never rfl (pi_range1 (by rfl) T.b_range (pa_cons (pv 2) pa_nil)) (pg_name (i := 8) sc_law_plant.nd rfl (Or.inl rfl))
        (pss_one (ps_if (pt_cmpR op_gt (pv 7) pe_int (nomark _))
          (pss_cons (ps_set (i := 9) sc_law_plant.nd rfl (Or.inr rfl) (pe_op op_sub (pe_op op_sub (pv 2) (pe_callB call_len_seq (by rfl) T.b_len boot_len (pa_cons (pv 6) pa_nil))) (pv 7)))
          (pss_cons (ps_setLc (i := 10) (own := [("row", 13)]) (g := (gName 13)) rfl sc_law_plant.nd rfl rfl (sw_true rfl rfl rfl (by decide +kernel)) (pi_list (pv 4)) (blkOk_by (N := N_law_plant) (sc := defScope s_law_plant) (by decide +kernel)) (fun _ _ _ _ _ => (pg_name (i := 13) sc_law_plant.nd rfl (Or.inl rfl))) (fun _ _ _ _ _ => (pts_one (pt_cmpR op_le (pe_ix (show IxR _ (rIxT K) from ix_tup) (pv 13) pe_int (fun _ _ => rfl)) (pv 9) (nomark _)))) (fun _ _ _ _ _ => (pv 13)))
          (pss_cons (ps_setLc (i := 11) (own := [("row", 13)]) (g := (gName 13)) rfl sc_law_plant.nd rfl rfl (sw_true rfl rfl rfl (by decide +kernel)) (pi_list (pv 10)) (blkOk_by (N := N_law_plant) (sc := defScope s_law_plant) (by decide +kernel)) (fun _ _ _ _ _ => (pg_name (i := 13) sc_law_plant.nd rfl (Or.inl rfl))) (fun _ _ _ _ _ => (pts_one (pt_cmpR op_gt (pe_ix (show IxR _ (rIxT K) from ix_tup) (pv 13) pe_int (fun _ _ => rfl)) pe_int (nomark _)))) (fun _ _ _ _ _ => (pv 13)))
          (pss_cut (ps_if (PW.pt (pw_and (pt_truth (pv 11) (by intro _; rfl)) (pw_and (pt_cmpR op_eq (pv 7) pe_int (nomark _)) (pw_and1 (pt_cmpR op_lt (pe_op op_add (pe_callB call_len_seq (by rfl) T.b_len boot_len (pa_cons (pv 6) pa_nil)) pe_int) (pv 5) (nomark _))))))
            (pss_one (ps_set (i := 10) sc_law_plant.nd rfl (Or.inl rfl) (pv 11)))
            pss_nil)
          (pss_cons (ps_set (i := 12) sc_law_plant.nd rfl (Or.inl rfl) (pe_ix ix_list (pv 10) (pe_d c_law_draw (hr.mono (by decide)) pass0 (pa_cons (pv 0) (pa_cons (pe_callB call_len_seq (by rfl) T.b_len boot_len (pa_cons (pv 10) pa_nil)) pa_nil))) (fun _ _ => rfl)))
          (pss_cons (ps_expr (pe_bm PySem.F.plainAttrs_list PySem.F.slot_list_append PySem.F.type_list_append mt_append (pv 6) (pa_cons (pe_ix ix_tup (pv 12) pe_int (fun _ _ => rfl)) pa_nil)))
          (pss_one (ps_set (i := 7) sc_law_plant.nd rfl (Or.inl rfl) (pe_op op_sub (pe_op op_add (pv 7) (pe_ix ix_tup (pv 12) pe_int (fun _ _ => rfl))) pe_int)))))))))
          pss_nil)))
      (pss_one (ps_ret (pe_callTy call_tupleF (by rfl) T.b_tuple (by decide +kernel) (pa_cons (pv 6) pa_nil)))))))))), ?_⟩
    refine ⟨_, rfl, r, _, rfl, .inl (SqL.of hR), fun mu hmu => ?_⟩
    have nmu : mu ≠ a := Kp.bag_ne bA hmu
    have k1 := (Kp.refl a H).upd_new (o := .lst (ts.map V.ref)) hmu
    have b1 := bA.upd_ne (o := .lst (ts.map V.ref)) nmu
    have hTk : TK H (upd H mu (.lst (ts.map V.ref))) := TK.new hmu
    have q0 : (upd H mu (.lst (ts.map V.ref))) mu = some (.lst (ts.map V.ref)) := upd_same
    have hT0 := hT.keep hTk
    refine ⟨fun σ' H' => σ' = (L2.start N_law_plant [.ref a, .ref r, .int ((m : Nat) : Int), .bl hole]).set 4 (some (.ref mu)) ∧ Kp a H H' ∧ BagAt H' a ∧ ∃ ts' : List Addr, H' mu = some (.lst (ts'.map V.ref)) ∧ TupsAt H' ts' (menuOf rows hole), ?_, ?_⟩
    · refine ⟨_, rfl, _, rfl, ite2 (fun h => ?_) (fun h => ?_)⟩
      · refine ⟨_, rfl, .inl ⟨rfl, _, SqL.of q0⟩, le_line (show 2 ≤ 100000 by decide), fun tp htp => ?_⟩
        have q1 : (upd (upd H mu (.lst (ts.map V.ref))) tp (.tup [.str "*", .int 0])) mu = some (.lst (ts.map V.ref)) := by rw [upd_ne (ne_of_none q0 htp)]; exact q0
        refine ⟨mu, _, _, rfl, rfl, q1, lt_line (by rw [List.length_map, hT.1]; omega), ?_⟩
        have ntp : tp ≠ a := Kp.bag_ne b1 htp
        refine ⟨rfl, (k1.upd_new htp).upd_own hmu, (b1.upd_ne ntp).upd_ne nmu, ts ++ [tp], by rw [upd_same, List.map_append]; rfl, ?_⟩
        have hh : hole = true := h
        rw [hh]
        exact ((hT0.keep (TK.new htp)).keep (TK.lst q1)).snoc (TK.lst q1 _ _ upd_same)
      · have hh : hole = false := by cases hole; rfl; exact absurd rfl h
        rw [hh]
        refine ⟨rfl, k1, b1, ts, q0, ?_⟩
        show TupsAt _ ts (rows ++ [])
        rw [List.append_nil]
        exact hT0
    rintro _ H1 ⟨rfl, k1, b1, ts, q1, hT1⟩
    obtain ⟨M1, M2, M3, M4⟩ := menu_facts R hole
    generalize menuOf rows hole = mn at hT1 M1 M2 M3 M4
    have hT := hT1
    refine ⟨_, rfl, _, rfl, _, _, rfl, rfl, a, _, rfl, b1, by omega, by omega, fun H2 le k2 b2 l0 l1 => ?_⟩
    refine ⟨le_line (by decide), fun pl hpl => ?_⟩
    have nmu2 := k2 _ _ q1 nmu
    have L0 : LF a mu pl H (upd H2 pl (.lst [])) ts mn [] := ⟨(k1.trans k2).upd_new hpl, b2.upd_ne (Kp.bag_ne b2 hpl), by rw [upd_ne (ne_of_none nmu2 hpl)]; exact nmu2, (hT1.keep (k2.tk b1)).keep (TK.new hpl), upd_same⟩
    have npl : pl ≠ a := Kp.bag_ne b2 hpl
    have hplN : H pl = none := (k1.trans k2).free_of hpl npl
    have nmp : mu ≠ pl := ne_of_none nmu2 hpl
    refine ⟨_, rfl, _, rfl, by omega, by omega, ?_⟩
    rw [Int.toNat_natCast]
    refine for_range (fun i σ H' => ∃ (x8 x9 x10 x11 x12 x13 : Option V) (l : List Str) (n : Nat), σ = [some (.ref a), some (.ref r), some (.int ((m : Nat) : Int)), some (.bl hole), some (.ref mu), some (.int le), some (.ref pl), some (.int ((n : Nat) : Int)), x8, x9, x10, x11, x12, x13] ∧
      LF a mu pl H H' ts mn l ∧ Mth.Pre (wR rows) l n ∧ (∀ z ∈ l, ∃ q ∈ mn, q.1 = z) ∧ l.length + n ≤ m ∧ (0 < n → l.length = i)) ?_ ?_ ?_
    · exact ⟨none, none, none, none, none, none, [], 1, rfl, L0, Mth.Pre.nil _, fun z h => by simp at h, by rw [List.length_nil]; omega, fun _ => rfl⟩
    · rintro i σ H3 hi ⟨x8, x9, x10, x11, x12, x13, l, n, rfl, L, Pr, hk, hln, hl⟩
      refine ⟨_, rfl, _, _, rfl, rfl, _, rfl, ?_⟩
      refine ite2 (fun h => ?_) (fun h => ?_)
      · have hn : 0 < n := by have := of_decide_eq_true h; omega
        have hle : l.length ≤ 100 := by omega
        refine ⟨_, rfl, _, rfl, pl, _, rfl, .inl (SqL.of L.p), _, _, rfl, rfl, _, rfl, _, _, rfl, rfl, ?_⟩
        dsimp only
        have hroomE : ((m : Nat) : Int) - (((l.map V.str).length : Nat) : Int) - ((n : Nat) : Int) = ((m : Nat) : Int) - ((l.length : Nat) : Int) - ((n : Nat) : Int) := by rw [List.length_map]
        generalize ((m : Nat) : Int) - (((l.map V.str).length : Nat) : Int) - ((n : Nat) : Int) = room at hroomE
        have hroom0 : 0 ≤ room := by omega
        refine ⟨_, rfl, mu, rfl, ⟨_, SqL.of L.m⟩, fun D hD => lc_it (walk_list (xs := ts.map V.ref)) (fun i H' => LF a mu pl H H' ts mn l ∧ ∃ ts', H' D = some (.lst (ts'.map V.ref)) ∧ TupsAt H' ts' ((mn.take i).filter fun q => decide (q.2 ≤ room))) ⟨L.new hD, [], upd_same, TupsAt.nil⟩ (fun i H' _ ⟨q, _⟩ => SqL.of q.m) ?_ ?_⟩
        · rintro j v H4 H5 hj ⟨L4, t1, d1, u1⟩ ⟨rfl, hv⟩
          have hjr : j < mn.length := by rw [List.length_map, hT.1] at hj; exact hj
          obtain ⟨t, w1, w2, w3⟩ := L4.t.at hjr
          rw [w2] at hv
          cases hv
          have nDa : D ≠ a := Kp.bag_ne L.b hD
          refine ⟨rfl, _, rfl, t, _, _, _, rfl, rfl, SqT.of w3, atI_nat (j := 1) rfl, _, rfl, _, _, rfl, rfl, _, rfl, ?_⟩
          refine ite2 (fun h2 => ?_) (fun h2 => ?_)
          · refine ⟨_, rfl, _, d1, ?_, L4.own (L.k.free_of hD nDa) nDa (ne_of_none L.m hD).symm (ne_of_none L.p hD).symm d1, t1 ++ [t], by rw [upd_same, List.map_append]; rfl, ?_⟩
            · rw [List.length_map, u1.1]
              exact lt_line (Nat.le_trans (List.length_filter_le _ _) (by rw [List.length_take]; omega))
            · rw [take_filter _ (List.getElem?_eq_getElem hjr), if_pos h2]
              exact (u1.keep (TK.lst d1)).snoc (TK.lst d1 _ _ w3)
          · refine ⟨L4, t1, d1, ?_⟩
            rw [take_filter _ (List.getElem?_eq_getElem hjr), if_neg h2, List.append_nil]
            exact u1
        · rintro H4 ⟨L4, t1, d1, u1⟩
          rw [List.length_map, hT.1, List.take_length] at u1
          have nDa : D ≠ a := Kp.bag_ne L.b hD
          have hDN : H D = none := L.k.free_of hD nDa
          have nDm := (ne_of_none L.m hD).symm
          have nDp := (ne_of_none L.p hD).symm
          generalize hls : (mn.filter fun q => decide (q.2 ≤ room)) = lr at u1
          have hl8 : lr.length ≤ 9 := by rw [← hls]; exact Nat.le_trans (List.length_filter_le _ _) M4
          refine ⟨_, rfl, D, rfl, ⟨_, SqL.of d1⟩, fun G hG => lc_it (walk_list (xs := t1.map V.ref)) (fun i H' => (LF a mu pl H H' ts mn l ∧ H' D = some (.lst (t1.map V.ref)) ∧ TupsAt H' t1 lr) ∧ ∃ t2, H' G = some (.lst (t2.map V.ref)) ∧ TupsAt H' t2 ((lr.take i).filter fun q => decide (0 < q.2))) ⟨⟨L4.new hG, by rw [upd_ne (ne_of_none d1 hG)]; exact d1, u1.keep (TK.new hG)⟩, [], upd_same, TupsAt.nil⟩ (fun i H' _ ⟨⟨_, q, _⟩, _⟩ => SqL.of q) ?_ ?_⟩
          · rintro j v H5 H6 hj ⟨⟨L5, d5, u5⟩, t2, g1, v1⟩ ⟨rfl, hv⟩
            have hjr : j < lr.length := by rw [List.length_map, u1.1] at hj; exact hj
            obtain ⟨t, w1, w2, w3⟩ := u5.at hjr
            rw [w2] at hv
            cases hv
            have nGa : G ≠ a := Kp.bag_ne L4.b hG
            have nGD : G ≠ D := (ne_of_none d1 hG).symm
            refine ⟨rfl, _, rfl, t, _, _, _, rfl, rfl, SqT.of w3, atI_nat (j := 1) rfl, _, _, rfl, rfl, _, rfl, ?_⟩
            refine ite2 (fun h2 => ?_) (fun h2 => ?_)
            · refine ⟨_, rfl, _, g1, ?_, ⟨L5.own (L4.k.free_of hG nGa) nGa (ne_of_none L4.m hG).symm (ne_of_none L4.p hG).symm g1, by rw [upd_ne nGD.symm]; exact d5, u5.keep (TK.lst g1)⟩, t2 ++ [t], by rw [upd_same, List.map_append]; rfl, ?_⟩
              · rw [List.length_map, v1.1]
                exact lt_line (Nat.le_trans (List.length_filter_le _ _) (by rw [List.length_take]; omega))
              · rw [take_filter _ (List.getElem?_eq_getElem hjr), if_pos h2]
                exact (v1.keep (TK.lst g1)).snoc (TK.lst g1 _ _ w3)
            · refine ⟨⟨L5, d5, u5⟩, t2, g1, ?_⟩
              rw [take_filter _ (List.getElem?_eq_getElem hjr), if_neg h2, List.append_nil]
              exact v1
          · rintro H5 ⟨⟨L5, d5, u5⟩, t2, g1, v1⟩
            rw [List.length_map, u1.1, List.take_length] at v1
            refine ⟨fun σ' H' => ∃ (D' : Addr) (t3 : List Addr) (sub : List Row), σ' = [some (.ref a), some (.ref r), some (.int ((m : Nat) : Int)), some (.bl hole), some (.ref mu), some (.int le), some (.ref pl), some (.int ((n : Nat) : Int)), some (.int (0 + ((i : Nat) : Int))), some (.int room), some (.ref D'), some (.ref G), x12, x13] ∧ H' = H5 ∧ H5 D' = some (.lst (t3.map V.ref)) ∧ TupsAt H5 t3 sub ∧ sub ≠ [] ∧ (∀ q ∈ sub, q ∈ mn ∧ q.2 ≤ room) ∧ D' ≠ a ∧ sub.length ≤ 9, ?_, ?_⟩
            · have hne : lr ≠ [] := fun e => by
                obtain ⟨q, hq, e0⟩ := M3
                have : q ∈ mn.filter fun q => decide (q.2 ≤ room) := List.mem_filter.mpr ⟨hq, decide_eq_true (by omega)⟩
                rw [hls, e] at this
                cases this
              have hin : ∀ q ∈ lr, q ∈ mn ∧ q.2 ≤ room := fun q hq => by
                rw [← hls] at hq
                obtain ⟨y1, y2⟩ := List.mem_filter.mp hq
                exact ⟨y1, of_decide_eq_true y2⟩
              have keep : ∃ (D' : Addr) (t3 : List Addr) (sub : List Row), [some (.ref a), some (.ref r), some (.int ((m : Nat) : Int)), some (.bl hole), some (.ref mu), some (.int le), some (.ref pl), some (.int ((n : Nat) : Int)), some (.int (0 + ((i : Nat) : Int))), some (.int room), some (.ref D), some (.ref G), x12, x13] = [some (.ref a), some (.ref r), some (.int ((m : Nat) : Int)), some (.bl hole), some (.ref mu), some (.int le), some (.ref pl), some (.int ((n : Nat) : Int)), some (.int (0 + ((i : Nat) : Int))), some (.int room), some (.ref D'), some (.ref G), x12, x13] ∧ H5 = H5 ∧ H5 D' = some (.lst (t3.map V.ref)) ∧ TupsAt H5 t3 sub ∧ sub ≠ [] ∧ (∀ q ∈ sub, q ∈ mn ∧ q.2 ≤ room) ∧ D' ≠ a ∧ sub.length ≤ 9 := ⟨D, t1, lr, rfl, rfl, d5, u5, hne, hin, nDa, hl8⟩
              refine ⟨_, rfl, _, .inl ⟨_, SqL.of g1, rfl⟩, ?_⟩
              refine ite2 (fun he => ?_) (fun _ => keep)
              refine ⟨_, rfl, rfl, _, rfl, ?_⟩
              refine ite2 (fun _ => ?_) (fun _ => keep)
              refine ⟨_, rfl, pl, _, rfl, .inl (SqL.of L5.p), _, _, rfl, rfl, _, rfl, _, _, rfl, rfl, _, rfl, ?_⟩
              refine ite2 (fun _ => ?_) (fun _ => keep)
              refine ⟨_, rfl, G, t2, _, rfl, rfl, g1, v1, fun e => ?_, fun q hq => hin q (List.mem_filter.mp hq).1, Kp.bag_ne L4.b hG, Nat.le_trans (List.length_filter_le _ _) hl8⟩
              have z := v1.1
              rw [e] at z
              rw [List.eq_nil_of_length_eq_zero z] at he
              cases he
            · rintro _ _ ⟨D', t3, sub, rfl, rfl, d3, u3, ne3, hs3, nDa', h8⟩
              have hsp : 0 < sub.length := List.length_pos_iff.mpr ne3
              refine ⟨_, rfl, _, rfl, _, rfl, D', _, rfl, .inl (SqL.of d3), a, ((sub.length : Nat) : Int), by rw [List.length_map, u3.1], L5.b, by omega, by omega, fun H6 j k6 b6 j0 j1 => ?_⟩
              have d6 := k6 _ _ d3 nDa'
              have hj : j.toNat < sub.length := by omega
              obtain ⟨t, w1, w2, w3⟩ := (u3.keep (k6.tk L5.b)).at hj
              refine ⟨D', _, _, _, rfl, rfl, SqL.of d6, at_ofG (j := j.toNat) (by omega) w2, ?_⟩
              have L6 := L5.kp k6 b6 nmu npl
              refine ⟨_, rfl, .inl ⟨rfl, _, SqL.of L6.p⟩, _, rfl, t, _, _, _, rfl, rfl, SqT.of w3, atI_nat (j := 0) rfl, pl, _, _, rfl, rfl, L6.p, lt_line (by rw [List.length_map]; omega), ?_⟩
              have w3' := TK.lst (o := .lst (l.map V.str ++ [V.str (sub[j.toNat]).1])) L6.p _ _ w3
              refine ⟨_, rfl, _, rfl, t, _, _, _, rfl, rfl, SqT.of w3', atI_nat (j := 1) rfl, _, _, rfl, rfl, _, _, rfl, rfl, ?_⟩
              obtain ⟨hq1, hq2⟩ := hs3 _ (List.getElem_mem hj)
              have hrm := M1 _ hq1
              obtain ⟨n', rfl⟩ : ∃ n', n = n' + 1 := ⟨n - 1, by omega⟩
              have en : (((n' + 1 : Nat) : Int)) + (sub[j.toNat]).2 - 1 = ((wR rows (sub[j.toNat]).1 + n' : Nat) : Int) := by omega
              have hl1 := hl hn
              refine ⟨_, _, _, _, _, _, l ++ [(sub[j.toNat]).1], wR rows (sub[j.toNat]).1 + n', by rw [← en]; rfl, ⟨L6.k.upd_own hplN, L6.b.upd_ne npl, by rw [upd_ne nmp]; exact L6.m, L6.t.keep (TK.lst L6.p), by rw [upd_same, List.map_append]; rfl⟩, Pr.snoc _, fun z hz => ?_, ?_, fun _ => ?_⟩
              · rcases List.mem_append.mp hz with h3 | h3
                · exact hk z h3
                · rw [List.mem_singleton.mp h3]
                  exact ⟨_, hq1, rfl⟩
              · rw [List.length_append, List.length_singleton]
                omega
              · rw [List.length_append, List.length_singleton]
                omega
      · have hn : n = 0 := by
          have q : ¬ (0 : Int) < ((n : Nat) : Int) := fun q => h (decide_eq_true q)
          omega
        exact ⟨_, _, _, _, _, _, l, n, rfl, L, Pr, hk, hln, fun q => absurd q (by omega)⟩
    · rintro σ H3 ⟨x8, x9, x10, x11, x12, x13, l, n, rfl, L, Pr, hk, hln, hl⟩
      have hn : n = 0 := by
        rcases Nat.eq_zero_or_pos n with h | h
        · exact h
        · have := hl h
          omega
      subst hn
      refine ⟨_, rfl, pl, _, rfl, SqL.of L.p, fun t o ht ho => ?_⟩
      exact k _ t l (L.k.upd_new ht) (L.b.upd_ne (Kp.bag_ne L.b ht)) ⟨o, upd_same, ho⟩ (Pr.done _) (fun z hz => M2 z (hk z hz)) (by omega)
end
end Sh
end
section
set_option Elab.async false
set_option linter.all false
set_option maxRecDepth 100000
set_option maxHeartbeats 2000000
set_option autoImplicit false
namespace Sh
open PySem PySem.Spec PyProof.Rows L2
open C8 (pss_cut tCut)
open Evl (ixN_nat)
/-- the names of the rows with a number -/
def nmsOf (rows : List Row) (c : Int) : List Str := (rows.filter fun q => decide (V.int q.2 = V.int c)).map (·.1)
theorem nmsOf_mem {rows : List Row} {m c : Int} (R : ROk m rows) {z : Str} (h : z ∈ nmsOf rows c) : (∃ q ∈ rows, q.1 = z) ∧ ((wR rows z : Nat) : Int) = c := by
  obtain ⟨q, hq, rfl⟩ := List.mem_map.mp h
  obtain ⟨h1, h2⟩ := List.mem_filter.mp hq
  exact ⟨⟨q, h1, rfl⟩, (row_mem R h1).trans (V.int.inj (of_decide_eq_true h2))⟩
theorem nmsOf_len (rows : List Row) (c : Int) : (nmsOf rows c).length ≤ rows.length := by
  unfold nmsOf
  rw [List.length_map]
  exact List.length_filter_le _ _
theorem bag_same {H H' : Hp} {a : Addr} (x : BagAt H a) (s : Same H H') : BagAt H' a := by
  obtain ⟨z0, z1, z2, z3, cs, x1, x2⟩ := x
  exact ⟨z0, z1, z2, z3, cs, s _ _ x1, x2⟩
/-- a tuple of short texts -/
def TzS (H : Hp) (t : Addr) (n : Nat) : Prop := ∃ l : List Str, Tz H t (l.map V.str) ∧ l.length ≤ n ∧ Shrt l
theorem TzS.same {H H' : Hp} {t : Addr} {n : Nat} (h : TzS H t n) (s : Same H H') : TzS H' t n := by
  obtain ⟨l, a, b, c⟩ := h
  exact ⟨l, a.same s, b, c⟩
theorem TzS.mono {H : Hp} {t : Addr} {n m : Nat} (h : TzS H t n) (s : n ≤ m) : TzS H t m := by
  obtain ⟨l, a, b, c⟩ := h
  exact ⟨l, a, by omega, c⟩
theorem Shrt.app {l m : List Str} (h : Shrt l) (g : Shrt m) : Shrt (l ++ m) := fun z hz => by
  rcases List.mem_append.mp hz with q | q
  · exact h z q
  · exact g z q
theorem Kp.ne_tup {a t : Addr} {H : Hp} {xs : List V} (b : BagAt H a) (h : Tz H t xs) : t ≠ a := fun e => by
  obtain ⟨o, x, _⟩ := h
  obtain ⟨z0, z1, z2, z3, cs, y, _⟩ := b
  rw [e] at x
  rw [x] at y
  cases y
theorem TzS.kp {a t : Addr} {H H' : Hp} {n : Nat} (h : TzS H t n) (b : BagAt H a) (k : Kp a H H') : TzS H' t n := by
  obtain ⟨l, x, y, z⟩ := h
  obtain ⟨o, x1, x2⟩ := id x
  exact ⟨l, ⟨o, k _ _ x1 (Kp.ne_tup b x), x2⟩, y, z⟩
theorem catS {K : PySem.W.Frag} {H : Hp} {a b : Addr} {n m : Nat} {Q : VK} (ha : TzS H a n) (hb : TzS H b m) (hl : n + m ≤ 100000) (k : ∀ r H', Same H H' → TzS H' r (n + m) → Q (.ref r) H') : rCatG K (.ref a) (.ref b) H Q := by
  obtain ⟨l, a1, a2, a3⟩ := ha
  obtain ⟨l2, b1, b2, b3⟩ := hb
  have hz : (l ++ l2).length ≤ n + m := by rw [List.length_append]; omega
  refine ⟨a, b, _, _, rfl, rfl, a1.q.sq, b1.q.sq, le_line (by rw [List.length_map, List.length_map]; omega), fun e => k b H (Same.refl H) ⟨l2, b1, by omega, b3⟩, fun _ e => k a H (Same.refl H) ⟨l, a1, by omega, a3⟩, fun _ _ p o hp ho => k p _ ((Same.refl H).upd_new hp) ⟨l ++ l2, ⟨o, ?_, ho⟩, hz, a3.app b3⟩⟩
  rw [upd_same, List.map_append]
theorem slS {K : PySem.W.Frag} {H : Hp} {a : Addr} {n : Nat} {lo hi : Option Int} {Q : VK} (ha : TzS H a n) (k : ∀ r H', Same H H' → TzS H' r n → Q (.ref r) H') : rSlG K (.ref a) lo hi H Q := by
  obtain ⟨l, a1, a2, a3⟩ := ha
  refine ⟨a, _, rfl, a1.q.sq, fun _ => k a H (Same.refl H) ⟨l, a1, a2, a3⟩, fun _ p o hp ho => ?_⟩
  have e : cutV (l.map V.str) lo hi = ((l.drop (HT.sIx (l.map V.str).length 0 lo)).take (HT.sIx (l.map V.str).length (l.map V.str).length hi - HT.sIx (l.map V.str).length 0 lo)).map V.str := by
    unfold cutV
    rw [List.map_take, List.map_drop]
  refine k p _ ((Same.refl H).upd_new hp) ⟨_, ⟨o, by rw [upd_same, e], ho⟩, ?_, fun z hz => a3 z (List.mem_of_mem_drop (List.mem_of_mem_take hz))⟩
  rw [List.length_take, List.length_drop]
  omega
theorem repS {K : PySem.W.Frag} {H : Hp} {a : Addr} {m k : Nat} {ws : List Str} {Q : VK} (ha : Tz H a (ws.map V.str)) (hw : Shrt ws) (hne : ws ≠ []) (hk : k ≤ 4000) (hm : ws.length ≤ m) (hm2 : m ≤ 100) (kk : ∀ r H', Same H H' → TzS H' r (k * m) → Q (.ref r) H') : rRepX K (.ref a) (.int (k : Nat)) H Q := by
  have hf : Shrt (List.replicate k ws).flatten := fun z hz => by
    obtain ⟨l, h1, h2⟩ := List.mem_flatten.mp hz
    rw [List.eq_of_mem_replicate h1] at h2
    exact hw z h2
  have hlen : (List.replicate k ws).flatten.length ≤ k * m := by
    rw [List.length_flatten, List.map_replicate, List.sum_replicate_nat]
    exact Nat.mul_le_mul_left k hm
  refine ⟨a, _, _, rfl, rfl, ha.q.sq, (by cases ws; exact absurd rfl hne; exact fun e => nomatch e), by omega, by omega, by rw [List.length_map]; omega, fun e => kk a H (Same.refl H) ⟨ws, ha, ?_, hw⟩, fun _ p o hp ho => kk p _ ((Same.refl H).upd_new hp) ⟨(List.replicate k ws).flatten, ⟨o, ?_, ho⟩, hlen, hf⟩⟩
  · have : k = 1 := by omega
    rw [this]
    omega
  · rw [upd_same, Int.toNat_natCast, List.map_flatten, List.map_replicate]
theorem oneS {H : Hp} {p : Addr} {o : Obj} {z : Str} (ho : o.dict = none) (hz : z.length ≤ 100) : TzS (upd H p (.frz o (.tup [.str z]))) p 1 := ⟨[z], ⟨o, upd_same, ho⟩, Nat.le_refl _, fun y hy => by rw [List.mem_singleton.mp hy]; exact hz⟩
def spEntry : Sp := fun vs H Q _ => ∃ (a r : Addr) (rows : List Row), vs = [.ref a, .ref r] ∧ BagAt H a ∧ r ≠ a ∧ RowsAt H r rows ∧ ROk 8 rows ∧ ∀ H' z, Kp a H H' → BagAt H' a → Kin z → Q (.str z) H'
def spRow (n : Nat) : Sp := fun vs H Q _ => ∃ (a r : Addr) (rows : List Row), vs = [.ref a, .ref r] ∧ BagAt H a ∧ r ≠ a ∧ RowsAt H r rows ∧ ROk 8 rows ∧ ∀ H' t, Kp a H H' → BagAt H' a → TzS H' t n → Q (.ref t) H'
theorem RowsAt.kp {a r : Addr} {H H' : Hp} {rows : List Row} (x : RowsAt H r rows) (b : BagAt H a) (n : r ≠ a) (k : Kp a H H') : RowsAt H' r rows := by
  obtain ⟨ts, h1, h2⟩ := x
  exact ⟨ts, k _ _ h1 n, h2.keep (k.tk b)⟩
theorem cut_le (z : Str) (lo hi : Option Int) : (cutS z lo hi).length ≤ z.length := by
  unfold cutS
  show (List.toArray _).size ≤ _
  rw [List.size_toArray, List.length_take, List.length_drop, Array.length_toList]
  show min _ (z.cps.size - _) ≤ z.cps.size
  omega
theorem app_len (x y : Str) : (x ++ y).length = x.length + y.length := by
  show (x ++ y).cps.size = x.cps.size + y.cps.size
  rw [← Array.length_toList]
  show (TL.tl (x ++ y)).length = _
  rw [TL.tl_append, List.length_append]
  show x.cps.toList.length + y.cps.toList.length = _
  rw [Array.length_toList, Array.length_toList]
theorem app_lt {x y : Str} (hx : ∀ c ∈ x.cps.toList, c < 128) (hy : ∀ c ∈ y.cps.toList, c < 128) : ∀ c ∈ (x ++ y).cps.toList, c < 16 ^ 8 := fun c hc => by
  have e : (x ++ y).cps.toList = x.cps.toList ++ y.cps.toList := TL.tl_append x y
  rw [e] at hc
  refine Nat.lt_of_lt_of_le ?_ (show 128 ≤ 16 ^ 8 by decide)
  rcases List.mem_append.mp hc with h | h
  · exact hx c h
  · exact hy c h
theorem cut_mem {z : Str} {lo hi : Option Int} {c : Nat} (h : c ∈ (cutS z lo hi).cps.toList) : c ∈ z.cps.toList := by
  unfold cutS at h
  exact List.mem_of_mem_drop (List.mem_of_mem_take h)
theorem upper_lt {z : Str} (h : ∀ c ∈ z.cps.toList, c < 128) : ∀ c ∈ (Txt.upper z).cps.toList, c < 16 ^ 8 := fun c hc => by
  rw [PyProof.Rows.upper_ascii (x := z) h] at hc
  have hc2 : c ∈ (z.cps.map PyProof.Rows.up1).toList := hc
  rw [Array.toList_map] at hc2
  obtain ⟨d, h1, rfl⟩ := List.mem_map.mp hc2
  have h2 := h d h1
  refine Nat.lt_of_lt_of_le ?_ (show 128 ≤ 16 ^ 8 by decide)
  unfold PyProof.Rows.up1
  split <;> omega
section
variable {P : Program} {w : World} {K : PySem.W.Frag} {mg : Str → Option Value} {base : Heap} {C CT : Addr}
end
end Sh
end
section
set_option Elab.async false
set_option linter.all false
set_option maxRecDepth 100000
set_option maxHeartbeats 2000000
set_option autoImplicit false
namespace Sh
open PySem PySem.Spec PyProof.Rows L2
open C8 (pss_cut tCut)
open Evl (ixN_nat)
def Ex.tup : Ex → List V
  | .many => [.str "many", .str "knots", .int 2000]
  | .plant i => [.str "plant", .int (i : Nat)]
  | .stump i => [.str "stump", .int (i : Nat)]
  | .path a => [.str "path", .ref a]
  | .kind z => [.str "kind", .str z]
  | .wrong i j => [.str "wrong", .int (i : Nat), .int (j : Nat)]
def DueV (H : Hp) (v : V) (o : Option Ex) : Prop := match o with
  | none => v = .non
  | some x => ∃ r, v = .ref r ∧ Tq H r x.tup
theorem DueV.same {H H' : Hp} {v : V} {o : Option Ex} (h : DueV H v o) (s : Same H H') : DueV H' v o := by
  cases o with
  | none => exact h
  | some x => obtain ⟨r, a, b⟩ := h; exact ⟨r, a, b.same s⟩
def ansI : Option Nat → Int
  | none => -1
  | some i => (i : Nat)
def spLawEnds : Sp := fun vs H Q _ => ∃ (r t : Addr) (rows : List Row) (l : List Str), vs = [.ref r, .ref t] ∧ RowsAt H r rows ∧ ROk 8 rows ∧ Tq H t (l.map V.str) ∧ WfOk rows l ∧ ∀ H' p, Same H H' → H p = none → EndsAt H' p rows l → Q (.ref p) H'
def spLawFault : Sp := fun vs H Q _ => ∃ (r t : Addr) (rows : List Row) (l : List Str) (hole : Bool), vs = [.ref r, .ref t, .bl hole] ∧ RowsAt H r rows ∧ ROk 8 rows ∧ Tq H t (l.map V.str) ∧ l.length ≤ 6000 ∧ Q (.int (ansI (fault rows hole l))) H
def spLawDue : Sp := fun vs H Q _ => ∃ (r t : Addr) (rows : List Row) (l : List Str) (hole : Bool), vs = [.ref r, .ref t, .bl hole] ∧ RowsAt H r rows ∧ ROk 8 rows ∧ Tq H t (l.map V.str) ∧ l.length ≤ 6000 ∧ ∀ H' v, Same H H' → DueV H' v (due rows hole l) → Q v H'
def spLawPath : Sp := fun vs H Q _ => ∃ (a r t : Addr) (rows : List Row) (l : List Str), vs = [.ref a, .ref r, .ref t] ∧ BagAt H a ∧ r ≠ a ∧ t ≠ a ∧ RowsAt H r rows ∧ ROk 8 rows ∧ Tq H t (l.map V.str) ∧ l.length ≤ 6000 ∧ ∀ H' p zs, Kp a H H' → BagAt H' a → Tq H' p (iV zs) → zs.length ≤ 20 → Q (.ref p) H'
def spLawPlace : Sp := fun vs H Q _ => ∃ (r t p : Addr) (rows : List Row) (l : List Str) (zs : List Int), vs = [.ref r, .ref t, .ref p] ∧ RowsAt H r rows ∧ ROk 8 rows ∧ Tq H t (l.map V.str) ∧ PlantOk rows l ∧ Tq H p (iV zs) ∧ ∀ H', Same H H' → Q (.int (ansI (Mth.walkI (wR rows) l 0 zs))) H'
theorem Tq.kp {a t : Addr} {H H' : Hp} {xs : List V} (h : Tq H t xs) (n : t ≠ a) (k : Kp a H H') : Tq H' t xs := by
  rcases h with h | ⟨o, h⟩
  · exact .inl (k _ _ h n)
  · exact .inr ⟨o, k _ _ h n⟩
abbrev s_law_ends : Stmt := top 52
abbrev N_law_ends : List Str := ["rows", "plant", "ends", "k", "place", "behind", "turn"]
theorem sc_law_ends : FnScope N_law_ends ["rows", "plant"] (defScope s_law_ends) := ⟨rfl, rfl, rfl, by decide +kernel, rfl, by decide +kernel, by decide +kernel⟩
abbrev s_law_fault : Stmt := top 53
abbrev N_law_fault : List Str := ["rows", "plant", "with_holes", "need", "place", "many"]
theorem sc_law_fault : FnScope N_law_fault ["rows", "plant", "with_holes"] (defScope s_law_fault) := ⟨rfl, rfl, rfl, by decide +kernel, rfl, by decide +kernel, by decide +kernel⟩
section
variable {P : Program} {w : World} {K : PySem.W.Frag} {mg : Str → Option Value} {base : Heap} {C CT : Addr}
theorem ok_law_ends (T : Bk mg) (c_law_number : DefOk P w K mg base CX0 1 "_law_number" spNumber) (D : Def0 K mg "_law_ends" s_law_ends) : DefOk P w K mg base CX0 2 "_law_ends" spLawEnds := by
  refine D.ok sc_law_ends (fun vs H Q E h => ?_) (fun _ _ _ _ _ _ us hl => match us, hl with | [_, _], _ => rfl) (fun f cdv A outer s H vs Q E hr h => ?_)
  · obtain ⟨r, t, rows, l, rfl, _⟩ := h
    rfl
  · obtain ⟨r, t, rows, l, rfl, hR, R, ht, O, k⟩ := h
    have hsz := O.sz
    refine ⟨_, (pss_cons (ps_set (i := 2) sc_law_ends.nd rfl (Or.inl rfl) (pe_op op_rep (pe_lst (pa_cons pe_int pa_nil)) (pe_callB call_len_seq (by rfl) T.b_len boot_len (pa_cons (pv 1) pa_nil))))
      (pss_cons (ps_for PassesOwn.never rfl (pi_range1 (by rfl) T.b_range (pa_cons (pe_callB call_len_seq (by rfl) T.b_len boot_len (pa_cons (pv 1) pa_nil)) pa_nil)) (pg_name (i := 3) sc_law_ends.nd rfl (Or.inl rfl))
        (pss_cons (ps_set (i := 4) sc_law_ends.nd rfl (Or.inl rfl) (pe_op op_sub (pe_op op_sub (pe_callB call_len_seq (by rfl) T.b_len boot_len (pa_cons (pv 1) pa_nil)) pe_int) (pv 3)))
        (pss_cons (ps_set (i := 5) sc_law_ends.nd rfl (Or.inl rfl) (pe_op op_add (pv 4) pe_int))
        (pss_cons (ps_for PassesOwn.never rfl (pi_range1 (by rfl) T.b_range (pa_cons (pe_d c_law_number (hr.mono (by decide)) pass0 (pa_cons (pv 0) (pa_cons (pe_ix ix_tup (pv 1) (pv 4) (fun _ _ => rfl)) pa_nil))) pa_nil)) (pg_name (i := 6) sc_law_ends.nd rfl (Or.inl rfl))
          (pss_one (ps_set (i := 5) sc_law_ends.nd rfl (Or.inl rfl) (pe_ix ix_list (pv 2) (pv 5) (fun _ _ => rfl)))))
        (pss_one (ps_asg (pv 5) (pg_sub (pv 2) (pv 4) set_list)))))))
      (pss_one (ps_ret (pv 2))))), ?_⟩
    refine ⟨le_line (show 1 ≤ 100000 by decide), fun L hL => ?_⟩
    have s1 := (Same.refl H).upd_new (o := .lst [.int 0]) hL
    refine ⟨_, rfl, t, _, rfl, .inr ((ht.same s1).sq), _, _, _, rfl, rfl, upd_same, ?_, ?_, ?_, fun D hD => ?_⟩
    · omega
    · rw [List.length_map]
      omega
    · rw [List.length_map, Int.toNat_natCast]
      exact le_line (show 1 * l.length ≤ 100000 by omega)
    · have hLn : H L = none := hL
      have hDn : H D = none := by
        cases z : H D with
        | none => rfl
        | some o => rw [s1 _ _ z] at hD; cases hD
      have s2 := s1.upd_new (o := .lst (List.replicate (((l.map V.str).length : Nat) : Int).toNat [V.int 0]).flatten) hD
      have e0 : (List.replicate (((l.map V.str).length : Nat) : Int).toNat [V.int 0]).flatten = (List.replicate l.length (0 : Int)).map V.int := by
        rw [List.length_map, Int.toNat_natCast, List.map_replicate, List.flatten_replicate_singleton]
      refine ⟨_, rfl, t, _, rfl, .inr (ht.same s2).sq, _, rfl, by rw [List.length_map]; omega, by rw [List.length_map]; omega, ?_⟩
      rw [show (((l.map V.str).length : Nat) : Int).toNat = l.length by rw [List.length_map, Int.toNat_natCast]]
      rw [show (((l.map V.str).length : Nat) : Int).toNat = l.length by rw [List.length_map, Int.toNat_natCast]] at e0 s2
      refine for_range (fun i σ H' => ∃ (x y z u : Option V) (es : List Int), σ = [some (.ref r), some (.ref t), some (.ref D), x, y, z, u] ∧ Same H H' ∧ H' D = some (.lst (es.map V.int)) ∧ es.length = l.length ∧ ∀ j, l.length - i ≤ j → j < l.length → es[j]? = some ((Mth.nxs (wR rows) l j 1 : Nat) : Int)) ?_ ?_ ?_
      · exact ⟨none, none, none, none, _, rfl, s2, by rw [upd_same, e0], List.length_replicate, fun j h1 h2 => absurd h1 (by omega)⟩
      · rintro i σ H2 hi ⟨x, y, z, u, es, rfl, s3, p2, el, eh⟩
        generalize hp : l.length - 1 - i = p
        have hpl : p < l.length := by omega
        have epl : (((l.map V.str).length : Nat) : Int) - 1 - (0 + ((i : Nat) : Int)) = ((p : Nat) : Int) := by rw [List.length_map]; omega
        have hk : l[p]? = some l[p] := List.getElem?_eq_getElem hpl
        refine ⟨_, rfl, t, _, rfl, .inr (ht.same s3).sq, _, _, rfl, rfl, _, rfl, _, _, rfl, rfl, ?_⟩
        dsimp only
        rw [epl]
        refine ⟨_, rfl, _, _, rfl, rfl, ?_⟩
        have hw3 := wR_le R l[p]
        have hnn := nm_nat R l[p]
        have hlo : -1 ≤ nmO rows l[p] ∧ nmO rows l[p] ≤ 3 := by rcases nm_case R l[p] with q | q <;> omega
        refine ⟨_, rfl, _, rfl, _, rfl, t, _, _, _, rfl, rfl, (ht.same s3).sq, str_at hpl rfl, r, rows, l[p], rfl, hR.same s3, R, _, rfl, (show -(2 ^ 62) ≤ nmO rows l[p] by omega), (show nmO rows l[p] < 2 ^ 62 by omega), ?_⟩
        rw [hnn]
        refine for_range (fun i2 σ H' => ∃ (z : Option V), σ = [some (.ref r), some (.ref t), some (.ref D), some (.int (0 + ((i : Nat) : Int))), some (.int ((p : Nat) : Int)), some (.int ((Mth.nxs (wR rows) l (p + 1) i2 : Nat) : Int)), z] ∧ H' = H2) ?_ ?_ ?_
        · refine ⟨u, ?_, rfl⟩
          rw [Mth.nxs_zero _ hpl]
          rfl
        · rintro i2 σ H3 hi2 ⟨z, rfl, rfl⟩
          obtain ⟨m1, m2, m3⟩ := Mth.end_step (wR rows) O.f hk hi2
          refine ⟨_, rfl, _, rfl, D, _, _, _, rfl, rfl, SqL.of p2, int_at (eh _ (by omega) m1) rfl, ?_⟩
          rw [m3]
          exact ⟨_, rfl, rfl⟩
        · rintro σ H3 ⟨z, rfl, rfl⟩
          rw [Mth.end_last _ hk]
          refine ⟨_, rfl, _, rfl, _, rfl, D, _, _, p, rfl, rfl, p2, ixz (by rw [List.length_map, el]; exact hpl) rfl, ?_⟩
          refine ⟨_, _, _, _, es.set p ((Mth.nxs (wR rows) l p 1 : Nat) : Int), rfl, s3.upd_own hDn, by rw [upd_same, List.map_set], by rw [List.length_set]; exact el, fun j h1 h2 => ?_⟩
          by_cases e : j = p
          · subst e
            rw [List.getElem?_set_self (by omega)]
          · rw [List.getElem?_set_ne (Ne.symm e)]
            exact eh j (by omega) h2
      · rintro σ H2 ⟨x, y, z, u, es, rfl, s3, p2, el, eh⟩
        refine ⟨_, rfl, ?_⟩
        refine k _ _ s3 hDn ?_
        unfold EndsAt
        rw [← Mth.ends_of_get (wR rows) el (fun j hj => eh j (by omega) hj)]
        exact p2
theorem ok_law_fault (T : Bk mg) (c_law_number : DefOk P w K mg base CX0 1 "_law_number" spNumber) (D : Def0 K mg "_law_fault" s_law_fault) : DefOk P w K mg base CX0 2 "_law_fault" spLawFault := by
  refine D.ok sc_law_fault (fun vs H Q E h => ?_) (fun _ _ _ _ _ _ us hl => match us, hl with | [_, _, _], _ => rfl) (fun f cdv A outer s H vs Q E hr h => ?_)
  · obtain ⟨r, t, rows, l, hole, rfl, _⟩ := h
    rfl
  · obtain ⟨r, t, rows, l, hole, rfl, hR, R, ht, hsz, k⟩ := h
    refine ⟨_, (pss_cons (ps_set (i := 3) sc_law_fault.nd rfl (Or.inl rfl) pe_int)
      (pss_cons (ps_for PassesOwn.never rfl (pi_range1 (by rfl) T.b_range (pa_cons (pe_callB call_len_seq (by rfl) T.b_len boot_len (pa_cons (pv 1) pa_nil)) pa_nil)) (pg_name (i := 4) sc_law_fault.nd rfl (Or.inl rfl))
        (pss_cons (ps_set (i := 5) sc_law_fault.nd rfl (Or.inl rfl) (pe_d c_law_number (hr.mono (by decide)) pass0 (pa_cons (pv 0) (pa_cons (pe_ix ix_tup (pv 1) (pv 4) (fun _ _ => rfl)) pa_nil))))
        (pss_cut (ps_if (PW.pt (pw_and (pt_val (pv 2)) (pw_and1 (pt_cmpR op_eq (pe_ix ix_tup (pv 1) (pv 4) (fun _ _ => rfl)) pe_str (nomark _)))))
          (pss_one (ps_set (i := 5) sc_law_fault.nd rfl (Or.inl rfl) pe_int))
          pss_nil)
        (pss_cons (ps_if (PW.pt (pw_or (pt_cmpR op_eq (pv 3) pe_int (nomark _)) (pw_or1 (pt_cmpR op_lt (pv 5) pe_int (nomark _)))))
          (pss_one (ps_ret (pv 4)))
          pss_nil)
        (pss_one (ps_set (i := 3) sc_law_fault.nd rfl (Or.inl rfl) (pe_op op_sub (pe_op op_add (pv 3) (pv 5)) pe_int)))))))
      (pss_cons (ps_if (pt_cmpR op_gt (pv 3) pe_int (nomark _))
        (pss_one (ps_ret (pe_callB call_len_seq (by rfl) T.b_len boot_len (pa_cons (pv 1) pa_nil))))
        pss_nil)
      (pss_one (ps_ret (pe_un un_neg pe_int)))))), ?_⟩
    refine ⟨_, rfl, t, _, rfl, .inr ht.sq, _, rfl, by rw [List.length_map]; omega, by rw [List.length_map]; omega, ?_⟩
    rw [List.length_map, Int.toNat_natCast]
    refine for_range (fun i σ H' => ∃ (x y : Option V) (n : Nat), σ = [some (.ref r), some (.ref t), some (.bl hole), some (.int (n : Nat)), x, y] ∧ H' = H ∧ fl (wO rows hole) (l.drop i) n i = fault rows hole l) ⟨none, none, 1, rfl, rfl, rfl⟩ ?_ ?_
    · rintro i σ H1 hil ⟨x, y, n, rfl, rfl, hf⟩
      rw [List.drop_eq_getElem_cons hil] at hf
      refine ⟨_, rfl, _, rfl, _, rfl, t, _, _, _, rfl, rfl, ht.sq, str_at hil (by omega), r, rows, l[i], rfl, hR, R, ?_⟩
      refine ⟨fun σ' H' => ∃ mv : Int, σ' = [some (.ref r), some (.ref t), some (.bl hole), some (.int (n : Nat)), some (.int (0 + ((i : Nat) : Int))), some (.int mv)] ∧ H' = H1 ∧ ((wO rows hole l[i] = none ∧ mv < 0) ∨ ∃ k : Nat, wO rows hole l[i] = some k ∧ mv = (k : Nat)), ?_, ?_⟩
      · have other : ¬ (hole = true ∧ l[i] = "*") → ∃ mv : Int, [some (V.ref r), some (.ref t), some (.bl hole), some (.int (n : Nat)), some (.int (0 + ((i : Nat) : Int))), some (.int (nmO rows l[i]))] = [some (.ref r), some (.ref t), some (.bl hole), some (.int (n : Nat)), some (.int (0 + ((i : Nat) : Int))), some (.int mv)] ∧ H1 = H1 ∧ ((wO rows hole l[i] = none ∧ mv < 0) ∨ ∃ k : Nat, wO rows hole l[i] = some k ∧ mv = (k : Nat)) := fun hn => by
          refine ⟨_, rfl, rfl, ?_⟩
          unfold wO
          rw [if_neg hn]
          rcases nm_case R l[i] with q | q
          · exact .inl ⟨by rw [if_pos (by omega)], by omega⟩
          · exact .inr ⟨_, by rw [if_neg (by omega)], q.1⟩
        refine ⟨_, rfl, _, rfl, ite2 (fun h => ?_) (fun h => ?_)⟩
        · have hh : hole = true := h
          refine ⟨_, rfl, _, rfl, t, _, _, _, rfl, rfl, ht.sq, str_at hil (by omega), rfl, _, rfl, ite2 (fun c => ?_) (fun c => ?_)⟩
          · have c2 := V.str.inj (of_decide_eq_true c)
            refine ⟨0, rfl, rfl, .inr ⟨0, ?_, rfl⟩⟩
            unfold wO
            rw [if_pos ⟨hh, c2⟩]
          · exact other fun q => c (decide_eq_true (congrArg V.str q.2))
        · exact other fun q => h q.1
      · rintro σ' H2 ⟨mv, rfl, rfl, hm⟩
        have hf2 : ∀ m, n = m + 1 → (match wO rows hole l[i] with | none => some i | some k => fl (wO rows hole) (l.drop (i + 1)) (m + k) (i + 1)) = fault rows hole l := fun m e => by
          subst e
          exact hf
        refine ⟨_, rfl, rfl, _, rfl, ite2 (fun c => ?_) (fun c => ?_)⟩
        · have z := V.int.inj (of_decide_eq_true c)
          have z2 : n = 0 := by omega
          subst z2
          have q : some i = fault rows hole l := hf
          rw [← q] at k
          refine ifp rfl ⟨_, rfl, ?_⟩
          rw [show (0 : Int) + ((i : Nat) : Int) = ((i : Nat) : Int) by omega]
          exact k
        · have hn0 : n ≠ 0 := fun e => c (by rw [e]; exact decide_eq_true rfl)
          obtain ⟨m, rfl⟩ : ∃ m, n = m + 1 := ⟨n - 1, by omega⟩
          have hf3 := hf2 m rfl
          refine ⟨_, rfl, _, _, rfl, rfl, _, rfl, ite2 (fun d => ?_) (fun d => ?_)⟩
          · have d2 : mv < 0 := of_decide_eq_true d
            rcases hm with ⟨e1, _⟩ | ⟨kk, _, e2⟩
            · rw [e1] at hf3
              have q : some i = fault rows hole l := hf3
              rw [← q] at k
              refine ⟨_, rfl, ?_⟩
              rw [show (0 : Int) + ((i : Nat) : Int) = ((i : Nat) : Int) by omega]
              exact k
            · omega
          · have d2 : ¬ mv < 0 := fun q => d (decide_eq_true q)
            rcases hm with ⟨_, e2⟩ | ⟨kk, e1, e2⟩
            · omega
            · rw [e1] at hf3
              refine ⟨_, rfl, _, rfl, _, _, rfl, rfl, _, _, rfl, rfl, some (.int (0 + ((i : Nat) : Int))), some (.int mv), m + kk, ?_, rfl, hf3⟩
              rw [show ((m + kk : Nat) : Int) = ((m + 1 : Nat) : Int) + mv - 1 by omega]
              rfl
    · rintro σ H1 ⟨x, y, n, rfl, rfl, hf⟩
      rw [List.drop_length] at hf
      refine ⟨_, rfl, _, _, rfl, rfl, _, rfl, ite2 (fun c => ?_) (fun c => ?_)⟩
      · have c2 : (0 : Int) < ((n : Nat) : Int) := of_decide_eq_true c
        obtain ⟨m, rfl⟩ : ∃ m, n = m + 1 := ⟨n - 1, by omega⟩
        have q : some l.length = fault rows hole l := hf
        rw [← q] at k
        refine ⟨_, rfl, t, _, rfl, .inr ht.sq, ?_⟩
        rw [List.length_map]
        exact k
      · have c2 : ¬ (0 : Int) < ((n : Nat) : Int) := fun q => c (decide_eq_true q)
        have z2 : n = 0 := by omega
        subst z2
        have q : none = fault rows hole l := hf
        rw [← q] at k
        exact ⟨_, rfl, k⟩
end
end Sh
end
section
set_option Elab.async false
set_option linter.all false
set_option maxRecDepth 100000
set_option maxHeartbeats 2000000
set_option autoImplicit false
namespace Sh
open PySem PySem.Spec PyProof.Rows L2
open C8 (pss_cut tCut)
open Evl (ixN_nat)
/-- two values that _law_same takes as the same, of at most n layers -/
def Eqs : Nat → Hp → V → V → Prop
  | 0, _, _, _ => False
  | n + 1, H, v, u => (∃ i, v = .int i ∧ u = .int i) ∨ (∃ z : Str, v = .str z ∧ u = .str z) ∨
    (∃ (a b : Addr) (xs ys : List V), v = .ref a ∧ u = .ref b ∧ Tq H a xs ∧ Tq H b ys ∧ xs.length = ys.length ∧ xs.length ≤ 100000 ∧ ∀ (i : Nat) (x y : V), xs[i]? = some x → ys[i]? = some y → Eqs n H x y) ∨ (v = .non ∧ u = .non) ∨ (∃ q, v = .bl q ∧ u = .bl q)
theorem Eqs.same : ∀ {n : Nat} {H H' : Hp} {v u : V}, Eqs n H v u → Same H H' → Eqs n H' v u
  | 0, _, _, _, _, h, _ => h
  | n + 1, H, H', v, u, h, s => by
    rcases h with h | h | ⟨a, b, xs, ys, e1, e2, h1, h2, h3, h4, h5⟩ | h
    · exact .inl h
    · exact .inr (.inl h)
    · exact .inr (.inr (.inl ⟨a, b, xs, ys, e1, e2, h1.same s, h2.same s, h3, h4, fun i x y p q => (h5 i x y p q).same s⟩))
    · exact .inr (.inr (.inr h))
def NotS (H : Hp) (v u : V) : Prop := ∃ (a b : Addr) (xs ys : List V), v = .ref a ∧ u = .ref b ∧ Tq H a xs ∧ Tq H b ys ∧ xs.length ≠ ys.length
def spSame (n : Nat) : Sp := fun vs H Q _ => ∃ v u, vs = [v, u] ∧ ((Eqs n H v u ∧ ∀ H', Same H H' → Q (.bl true) H') ∨ (0 < n ∧ NotS H v u ∧ ∀ H', Same H H' → Q (.bl false) H'))
theorem tyx_tup {K : PySem.W.Frag} {H : Hp} {a : Addr} {xs : List V} (h : Tq H a xs) : TyX K H (.ref a) (.type "tuple") := by
  rcases h with h | ⟨o, h⟩
  · exact .base (.tup h)
  · exact .fTuple h
theorem Eqs.succ : ∀ {n : Nat} {H : Hp} {v u : V}, Eqs n H v u → Eqs (n + 1) H v u
  | 0, _, _, _, h => h.elim
  | n + 1, H, v, u, h => by
    rcases h with h | h | ⟨a, b, xs, ys, e1, e2, h1, h2, h3, h4, h5⟩ | h
    · exact .inl h
    · exact .inr (.inl h)
    · exact .inr (.inr (.inl ⟨a, b, xs, ys, e1, e2, h1, h2, h3, h4, fun i x y p q => (h5 i x y p q).succ⟩))
    · exact .inr (.inr (.inr h))
theorem Eqs.int {n : Nat} {H : Hp} (i : Int) : Eqs (n + 1) H (.int i) (.int i) := .inl ⟨i, rfl, rfl⟩
theorem Eqs.str {n : Nat} {H : Hp} (z : Str) : Eqs (n + 1) H (.str z) (.str z) := .inr (.inl ⟨z, rfl, rfl⟩)
theorem Eqs.tup {n : Nat} {H : Hp} {a b : Addr} {xs ys : List V} (ha : Tq H a xs) (hb : Tq H b ys) (hl : xs.length = ys.length) (hz : xs.length ≤ 100000) (h : ∀ (i : Nat) (x y : V), xs[i]? = some x → ys[i]? = some y → Eqs n H x y) : Eqs (n + 1) H (.ref a) (.ref b) :=
  .inr (.inr (.inl ⟨a, b, xs, ys, rfl, rfl, ha, hb, hl, hz, h⟩))
theorem Eqs.non {n : Nat} {H : Hp} : Eqs (n + 1) H .non .non := .inr (.inr (.inr (.inl ⟨rfl, rfl⟩)))
theorem Eqs.bl {n : Nat} {H : Hp} (q : Bool) : Eqs (n + 1) H (.bl q) (.bl q) := .inr (.inr (.inr (.inr ⟨q, rfl, rfl⟩)))
theorem Eqs.strs {H : Hp} {a b : Addr} {l : List Str} (ha : Tq H a (sV l)) (hb : Tq H b (sV l)) (hz : l.length ≤ 100000) : Eqs 2 H (.ref a) (.ref b) :=
  .tup ha hb rfl (by unfold sV; rw [List.length_map]; exact hz) fun i x y p q => by
    rw [p] at q
    cases q
    obtain ⟨z, _, rfl⟩ := get_map p
    exact .str z
theorem Eqs.ints {H : Hp} {a b : Addr} {l : List Int} (ha : Tq H a (l.map V.int)) (hb : Tq H b (l.map V.int)) (hz : l.length ≤ 100000) : Eqs 2 H (.ref a) (.ref b) :=
  .tup ha hb rfl (by rw [List.length_map]; exact hz) fun i x y p q => by
    rw [p] at q
    cases q
    obtain ⟨z, _, rfl⟩ := get_map p
    exact .int z
theorem Eqs.pair {n : Nat} {H : Hp} {a b : Addr} {z : Str} {x y : V} (ha : Tq H a [.str z, x]) (hb : Tq H b [.str z, y]) (h : Eqs (n + 1) H x y) : Eqs (n + 2) H (.ref a) (.ref b) :=
  .tup ha hb rfl (show 2 ≤ 100000 by decide) fun i u v p q => by
    match i, p, q with
    | 0, p, q => cases p; cases q; exact .str z
    | 1, p, q => cases p; cases q; exact h
    | i + 2, p, _ => simp at p
abbrev s_law_same : Stmt := top 54
abbrev N_law_same : List Str := ["told", "due", "k"]
theorem sc_law_same : FnScope N_law_same ["told", "due"] (defScope s_law_same) := ⟨rfl, rfl, rfl, by decide +kernel, rfl, by decide +kernel, by decide +kernel⟩
section
variable {P : Program} {w : World} {K : PySem.W.Frag} {mg : Str → Option Value} {base : Heap} {C CT : Addr}
theorem ok_law_same (T : Bk mg) (D : Def0 K mg "_law_same" s_law_same) : ∀ n, DefOk P w K mg base CX0 n "_law_same" (spSame n)
  | 0 => by
    obtain ⟨f, fd, hm, F⟩ := D
    exact ⟨f, hm, F.kp, fun A outer s H us vs Q E hr e0 r hs => by obtain ⟨v, u, _, h | h⟩ := hs; exact h.1.elim; exact absurd h.1 (Nat.lt_irrefl 0)⟩
  | n + 1 => by
    have c_law_same := ok_law_same T D n
    refine D.ok sc_law_same (fun vs H Q E h => ?_) (fun _ _ _ _ _ _ us hl => match us, hl with | [_, _], _ => rfl) (fun f cdv A outer s H vs Q E hr h => ?_)
    · obtain ⟨v, u, rfl, _⟩ := h
      rfl
    · obtain ⟨v, u, rfl, hEk⟩ := h
      refine ⟨_, (pss_cons (ps_if (pt_cmpR op_isN (pv 1) pe_non (nomark _))
          (pss_one (ps_ret (pe_cmpR op_isN (pv 0) pe_non (nomark _))))
          pss_nil)
        (pss_cons (ps_if (pt_val (pe_callB call_isi (by rfl) T.b_isinstance (by decide +kernel) (pa_cons (pv 1) (pa_cons (pe_bltn (v := .ty "tuple") (by rfl) T.b_tuple boot_tuple rfl) pa_nil))))
          (pss_cons (ps_if (PW.pt (pw_or (pt_not (pt_val (pe_callB call_isi (by rfl) T.b_isinstance (by decide +kernel) (pa_cons (pv 0) (pa_cons (pe_bltn (v := .ty "tuple") (by rfl) T.b_tuple boot_tuple rfl) pa_nil))))) (pw_or1 (pt_cmpR op_ne (pe_callB call_len_seq (by rfl) T.b_len boot_len (pa_cons (pv 0) pa_nil)) (pe_callB call_len_seq (by rfl) T.b_len boot_len (pa_cons (pv 1) pa_nil)) (nomark _)))))
            (pss_one (ps_ret pe_bl))
            pss_nil)
          (pss_cons (ps_for PassesOwn.never rfl (pi_range1 (by rfl) T.b_range (pa_cons (pe_callB call_len_seq (by rfl) T.b_len boot_len (pa_cons (pv 1) pa_nil)) pa_nil)) (pg_name (i := 2) sc_law_same.nd rfl (Or.inl rfl))
            (pss_one (ps_if (pt_not (pt_val (pe_d c_law_same hr pass0 (pa_cons (pe_ix ix_tup (pv 0) (pv 2) (fun _ _ => rfl)) (pa_cons (pe_ix ix_tup (pv 1) (pv 2) (fun _ _ => rfl)) pa_nil)))))
              (pss_one (ps_ret pe_bl))
              pss_nil)))
          (pss_one (ps_ret pe_bl))))
          pss_nil)
        (pss_cons (ps_if (pt_val (pe_callB call_isi (by rfl) T.b_isinstance (by decide +kernel) (pa_cons (pv 1) (pa_cons (pe_bltn (v := .ty "bool") (by rfl) T.b_bool boot_bool rfl) pa_nil))))
          (pss_one (ps_ret (pe_and (pe_callB call_isi (by rfl) T.b_isinstance (by decide +kernel) (pa_cons (pv 0) (pa_cons (pe_bltn (v := .ty "bool") (by rfl) T.b_bool boot_bool rfl) pa_nil))) (pe_one (pe_cmpR op_eq (pv 0) (pv 1) (nomark _))))))
          pss_nil)
        (pss_cons (ps_if (pt_val (pe_callB call_isi (by rfl) T.b_isinstance (by decide +kernel) (pa_cons (pv 1) (pa_cons (pe_bltn (v := .ty "int") (by rfl) T.b_int boot_int rfl) pa_nil))))
          (pss_one (ps_ret (pe_and (pe_callB call_isi (by rfl) T.b_isinstance (by decide +kernel) (pa_cons (pv 0) (pa_cons (pe_bltn (v := .ty "int") (by rfl) T.b_int boot_int rfl) pa_nil))) (pe_and (pe_not (pe_callB call_isi (by rfl) T.b_isinstance (by decide +kernel) (pa_cons (pv 0) (pa_cons (pe_bltn (v := .ty "bool") (by rfl) T.b_bool boot_bool rfl) pa_nil)))) (pe_one (pe_cmpR op_eq (pv 0) (pv 1) (nomark _)))))))
          pss_nil)
        (pss_one (ps_ret (pe_and (pe_callB call_isi (by rfl) T.b_isinstance (by decide +kernel) (pa_cons (pv 0) (pa_cons (pe_bltn (v := .ty "str") (by rfl) T.b_str boot_str rfl) pa_nil))) (pe_one (pe_cmpR op_eq (pv 0) (pv 1) (nomark _)))))))))), ?_⟩
      rcases hEk with ⟨hE, k⟩ | ⟨_, ⟨a, b, xs, ys, rfl, rfl, h1, h2, h3⟩, k⟩
      rotate_left
      · refine ⟨_, rfl, rfl, _, rfl, ?_⟩
        refine ifn (fun e => by cases of_decide_eq_true e) ?_
        refine ⟨_, rfl, _, _, _, _, true, rfl, .ty _, tyx_tup h2, rfl, _, rfl, ?_⟩
        refine ifp rfl ?_
        refine ⟨_, rfl, _, _, _, _, true, rfl, .ty _, tyx_tup h1, rfl, _, rfl, ?_⟩
        refine ifn (by decide) ?_
        refine ⟨_, rfl, a, _, rfl, .inr h1.sq, _, rfl, b, _, rfl, .inr h2.sq, rfl, _, rfl, ?_⟩
        refine ifp (by simp; omega) ?_
        exact k _ (Same.refl H)
      rcases hE with ⟨i, rfl, rfl⟩ | ⟨z, rfl, rfl⟩ | ⟨a, b, xs, ys, rfl, rfl, h1, h2, h3, h4, h5⟩ | ⟨rfl, rfl⟩ | ⟨q, rfl, rfl⟩
      · refine ⟨_, rfl, rfl, _, rfl, ?_⟩
        refine ifn (fun e => by cases of_decide_eq_true e) ?_
        refine ⟨_, rfl, _, _, _, _, false, rfl, .ty _, .base (.int _), rfl, _, rfl, ?_⟩
        refine ifn (by decide) ?_
        refine ⟨_, rfl, _, _, _, _, false, rfl, .ty _, .base (.int _), rfl, _, rfl, ?_⟩
        refine ifn (by decide) ?_
        refine ⟨_, rfl, _, _, _, _, true, rfl, .ty _, .base (.int _), rfl, _, rfl, ?_⟩
        refine ifp rfl ?_
        refine ⟨_, rfl, _, _, _, _, true, rfl, .ty _, .base (.int _), rfl, _, rfl, ?_⟩
        refine ifp rfl ?_
        refine ⟨_, rfl, _, _, _, _, false, rfl, .ty _, .base (.int _), rfl, _, rfl, _, rfl, ?_⟩
        refine ifp rfl ?_
        refine ⟨_, rfl, _, rfl, rfl, ?_⟩
        rw [decide_eq_true rfl]
        exact k _ (Same.refl H)
      · refine ⟨_, rfl, rfl, _, rfl, ?_⟩
        refine ifn (fun e => by cases of_decide_eq_true e) ?_
        refine ⟨_, rfl, _, _, _, _, false, rfl, .ty _, .base (.str _), rfl, _, rfl, ?_⟩
        refine ifn (by decide) ?_
        refine ⟨_, rfl, _, _, _, _, false, rfl, .ty _, .base (.str _), rfl, _, rfl, ?_⟩
        refine ifn (by decide) ?_
        refine ⟨_, rfl, _, _, _, _, false, rfl, .ty _, .base (.str _), rfl, _, rfl, ?_⟩
        refine ifn (by decide) ?_
        refine ⟨_, rfl, _, _, _, _, true, rfl, .ty _, .base (.str _), rfl, _, rfl, ?_⟩
        refine ifp rfl ?_
        refine ⟨_, rfl, _, rfl, rfl, ?_⟩
        rw [decide_eq_true rfl]
        exact k _ (Same.refl H)
      · refine ⟨_, rfl, rfl, _, rfl, ?_⟩
        refine ifn (fun e => by cases of_decide_eq_true e) ?_
        refine ⟨_, rfl, _, _, _, _, true, rfl, .ty _, tyx_tup h2, rfl, _, rfl, ?_⟩
        refine ifp rfl ?_
        refine ⟨_, rfl, _, _, _, _, true, rfl, .ty _, tyx_tup h1, rfl, _, rfl, ?_⟩
        refine ifn (by decide) ?_
        refine ⟨_, rfl, a, _, rfl, .inr h1.sq, _, rfl, b, _, rfl, .inr h2.sq, rfl, _, rfl, ?_⟩
        rw [h3, decide_eq_true rfl]
        refine ifn (by decide) ?_
        refine ⟨_, rfl, b, _, rfl, .inr h2.sq, _, rfl, by omega, by omega, ?_⟩
        rw [Int.toNat_natCast]
        refine for_range (fun i σ H' => ∃ x : Option V, σ = [some (.ref a), some (.ref b), x] ∧ Same H H') ⟨none, rfl, Same.refl H⟩ ?_ ?_
        · rintro i σ H1 hi ⟨x, rfl, s1⟩
          have hx : i < xs.length := by omega
          refine ⟨_, rfl, _, rfl, a, _, _, _, rfl, rfl, (h1.same s1).sq, at_ofG (j := i) (by omega) (List.getElem?_eq_getElem hx), _, rfl, _, rfl, b, _, _, _, rfl, rfl, (h2.same s1).sq, at_ofG (j := i) (by omega) (List.getElem?_eq_getElem hi), ?_⟩
          refine ⟨_, _, rfl, .inl ⟨(h5 i _ _ (List.getElem?_eq_getElem hx) (List.getElem?_eq_getElem hi)).same s1, fun H2 s2 => ?_⟩⟩
          refine ⟨_, rfl, ifn (by decide) ?_⟩
          exact ⟨_, rfl, s1.trans s2⟩
        · rintro σ H1 ⟨x, rfl, s1⟩
          exact k _ s1
      · refine ⟨_, rfl, rfl, _, rfl, ?_⟩
        refine ifp rfl ?_
        exact ⟨_, rfl, rfl, k _ (Same.refl H)⟩
      · refine ⟨_, rfl, rfl, _, rfl, ?_⟩
        refine ifn (fun e => by cases of_decide_eq_true e) ?_
        refine ⟨_, rfl, _, _, _, _, false, rfl, .ty _, .base (.bl _), rfl, _, rfl, ?_⟩
        refine ifn (by decide) ?_
        refine ⟨_, rfl, _, _, _, _, true, rfl, .ty _, .base (.bl _), rfl, _, rfl, ?_⟩
        refine ifp rfl ?_
        refine ⟨_, rfl, _, _, _, _, true, rfl, .ty _, .base (.bl _), rfl, _, rfl, ?_⟩
        refine ifp rfl ?_
        refine ⟨_, rfl, _, rfl, rfl, ?_⟩
        rw [decide_eq_true rfl]
        exact k _ (Same.refl H)
end
end Sh
end
section
set_option Elab.async false
set_option linter.all false
set_option maxHeartbeats 2000000
set_option autoImplicit false
/-! Stumps laid beside each other: paths and what stands there. -/
namespace Mth
variable {w : PySem.Str → Nat}
abbrev S := PySem.Str
theorem headD_cons {p : List Nat} {st : List (List Nat)} : (p :: st).headD [] = p := rfl
theorem kids_zero (p : List Nat) : kids p 0 = [] := rfl
/-- the stack ahead of a place, and the place's letter, give the next stack -/
theorem stk_next {l : List S} (h : forest w l 1 = true) {i : Nat} {z : S} {r : List S} (e : l.drop i = z :: r) : i < l.length ∧ l[i]? = some z ∧ l.drop (i + 1) = r ∧ ∃ st, stk w l i = pth w l i :: st ∧ stk w l (i + 1) = kids (pth w l i) (w z) ++ st := by
  have hi : i < l.length := by
    have := congrArg List.length e
    rw [List.length_drop, List.length_cons] at this
    omega
  rw [List.drop_eq_getElem_cons hi] at e
  injection e with e1 e2
  obtain ⟨st, a, b⟩ := stk_step w h hi
  exact ⟨hi, by rw [List.getElem?_eq_getElem hi, e1], e2, st, a, by rw [b, e1]⟩
theorem stk_skip {l : List S} (h : forest w l 1 = true) : ∀ (t r : List S) (i n : Nat), l.drop i = t ++ r → forest w t n = true → stk w l (i + t.length) = (stk w l i).drop n ∧ l.drop (i + t.length) = r
  | [], r, i, n, e, hf => by
    rw [forest_nil w hf]
    exact ⟨rfl, e⟩
  | z :: t, r, i, n, e, hf => by
    obtain ⟨hi, _, e2, st, a, b⟩ := stk_next h e
    cases n with
    | zero => exact absurd (forest_zero w hf) (by simp)
    | succ n =>
      have hf2 : forest w t (w z + n) = true := hf
      obtain ⟨q1, q2⟩ := stk_skip h t r (i + 1) (w z + n) e2 hf2
      rw [List.length_cons, show i + (t.length + 1) = i + 1 + t.length by omega]
      refine ⟨?_, q2⟩
      rw [q1, a, b, List.drop_append, kids_len, List.drop_eq_nil_of_le (by rw [kids_len]; omega), List.nil_append, show w z + n - w z = n by omega]
      rfl
theorem stk_along {l u : List S} {i k : Nat} (es : stk w l i = stk w u k) : ∀ (t r r' : List S), l.drop i = t ++ r → u.drop k = t ++ r' → ∀ j, j ≤ t.length → stk w l (i + j) = stk w u (k + j)
  | t, r, r', e, e', 0, _ => es
  | t, r, r', e, e', j + 1, hj => by
    have ih := stk_along es t r r' e e' j (by omega)
    have a1 : l[i + j]? = t[j]? := by
      have := congrArg (fun x => x[j]?) e
      simp only [List.getElem?_drop] at this
      rw [this, List.getElem?_append_left (by omega)]
    have a2 : u[k + j]? = t[j]? := by
      have := congrArg (fun x => x[j]?) e'
      simp only [List.getElem?_drop] at this
      rw [this, List.getElem?_append_left (by omega)]
    exact stk_succ w ih (a1.trans a2.symm)
/-- the entry z stands at the path -/
def InE (w : S → Nat) (l : List S) (p : List Nat) (z : S) : Prop := ∃ i, l[i]? = some z ∧ pth w l i = p
theorem InE.inj {l : List S} (h : forest w l 1 = true) {i j : Nat} (hi : i < l.length) (hj : j < l.length) (e : pth w l i = pth w l j) : i = j := by
  have a := pth_walk w h hi
  have b := pth_walk w h hj
  rw [e, b] at a
  exact (Option.some.inj a).symm
theorem InE.fun {l : List S} (h : forest w l 1 = true) {p : List Nat} {z z' : S} (a : InE w l p z) (b : InE w l p z') : z = z' := by
  obtain ⟨i, a1, a2⟩ := a
  obtain ⟨j, b1, b2⟩ := b
  have := InE.inj h (List.getElem?_eq_some_iff.mp a1).1 (List.getElem?_eq_some_iff.mp b1).1 (a2.trans b2.symm)
  subst this
  rw [a1] at b1
  exact Option.some.inj b1
/-- two stumps laid beside each other -/
inductive Al (w : S → Nat) : List S → List S → List (List S × List S) → Prop
  | nil : Al w [] [] []
  | same (a : S) (l m : List S) (ps : List (List S × List S)) : Al w l m ps → Al w (a :: l) (a :: m) (([a], [a]) :: ps)
  | diff (x y : S) (a b l m : List S) (ps : List (List S × List S)) : x ≠ y → forest w (x :: a) 1 = true → forest w (y :: b) 1 = true → Al w l m ps → Al w ((x :: a) ++ l) ((y :: b) ++ m) ((x :: a, y :: b) :: ps)
theorem first_plant {l : List S} {n : Nat} {x : S} (h : forest w (x :: l) (n + 1) = true) : ∃ a r, x :: l = (x :: a) ++ r ∧ forest w (x :: a) 1 = true ∧ forest w r n = true := by
  have q := forest_take w (x :: l) 1 n (by rw [Nat.add_comm]; exact h)
  have q2 := forest_skip w (x :: l) 1 n (by rw [Nat.add_comm]; exact h)
  have hl := skip_lt w (x :: l) 0 (by simp)
  obtain ⟨j, hj, ej⟩ := skip_suffix w (x :: l) 1
  have e1 : (skip w (x :: l) 1).length = (x :: l).length - j := by rw [ej, List.length_drop]
  have e2 : (x :: l).length - (skip w (x :: l) 1).length = j := by rw [e1]; omega
  have hj0 : 0 < j := by
    have : (skip w (x :: l) (0 + 1)).length < (x :: l).length := hl
    rw [Nat.zero_add, e1] at this
    omega
  obtain ⟨j', rfl⟩ : ∃ j', j = j' + 1 := ⟨j - 1, by omega⟩
  rw [e2] at q
  refine ⟨l.take j', skip w (x :: l) 1, ?_, q, q2⟩
  rw [ej]
  show x :: l = x :: (l.take j' ++ (x :: l).drop (j' + 1))
  rw [List.drop_succ_cons, List.take_append_drop]
theorem Al.ex : ∀ (N : Nat) (l m : List S) (n : Nat), l.length ≤ N → forest w l n = true → forest w m n = true → ∃ ps, Al w l m ps
  | N, [], m, n, _, h1, h2 => by
    have e := forest_nil w h1
    rw [e] at h2
    rw [forest_zero w h2]
    exact ⟨[], .nil⟩
  | 0, x :: l, _, _, h, _, _ => by simp at h
  | N + 1, x :: l, m, 0, _, h1, _ => absurd (forest_zero w h1) (by simp)
  | N + 1, x :: l, [], n + 1, _, _, h2 => by have := forest_nil w h2; omega
  | N + 1, x :: l, y :: m, n + 1, h, h1, h2 => by
    rw [List.length_cons] at h
    by_cases e : x = y
    · subst e
      obtain ⟨ps, q⟩ := Al.ex N l m (w x + n) (by omega) h1 h2
      exact ⟨_, .same _ _ _ _ q⟩
    · obtain ⟨a, r, e1, f1, g1⟩ := first_plant h1
      obtain ⟨b, r', e2, f2, g2⟩ := first_plant h2
      have hr : r.length ≤ N := by
        have := congrArg List.length e1
        simp only [List.length_append, List.length_cons] at this
        omega
      obtain ⟨ps, q⟩ := Al.ex N r r' n hr g1 g2
      rw [e1, e2]
      exact ⟨_, .diff _ _ _ _ _ _ _ e f1 f2 q⟩
theorem Al.eq {l m : List S} {ps : List (List S × List S)} (h : Al w l m ps) (hs : ∀ q ∈ ps, q.1 = q.2) : l = m := by
  induction h with
  | nil => rfl
  | same a l m ps h ih => rw [ih fun q hq => hs q (List.mem_cons_of_mem _ hq)]
  | diff x y a b l m ps hxy _ _ h ih =>
    have := hs _ List.mem_cons_self
    injection this with e _
    exact absurd e hxy
theorem tail_of {st : List (List Nat)} {p : List Nat} : (p :: st).drop 1 = st := rfl
/-- one more pair, in both -/
theorem step_same {L M : List S} (hL : forest w L 1 = true) (hM : forest w M 1 = true) {i p : Nat} {a : S} {l m : List S} (e1 : L.drop i = a :: l) (e2 : M.drop p = a :: m) (es : stk w L i = stk w M p) : L[i]? = some a ∧ M[p]? = some a ∧ pth w L i = pth w M p ∧ L.drop (i + 1) = l ∧ M.drop (p + 1) = m ∧ stk w L (i + 1) = stk w M (p + 1) := by
  obtain ⟨_, a1, a2, st, a3, a4⟩ := stk_next hL e1
  obtain ⟨_, b1, b2, st', b3, b4⟩ := stk_next hM e2
  rw [a3, b3] at es
  injection es with q1 q2
  exact ⟨a1, b1, q1, a2, b2, by rw [a4, b4, q1, q2]⟩
theorem step_diff {L M : List S} (hL : forest w L 1 = true) (hM : forest w M 1 = true) {i p : Nat} {x y : S} {a b l m : List S} (e1 : L.drop i = (x :: a) ++ l) (e2 : M.drop p = (y :: b) ++ m) (es : stk w L i = stk w M p) (f1 : forest w (x :: a) 1 = true) (f2 : forest w (y :: b) 1 = true) :
    L[i]? = some x ∧ M[p]? = some y ∧ pth w L i = pth w M p ∧ L.drop (i + (x :: a).length) = l ∧ M.drop (p + (y :: b).length) = m ∧ stk w L (i + (x :: a).length) = stk w M (p + (y :: b).length) := by
  obtain ⟨_, a1, _, st, a3, _⟩ := stk_next hL e1
  obtain ⟨_, b1, _, st', b3, _⟩ := stk_next hM e2
  obtain ⟨c1, c2⟩ := stk_skip hL _ _ _ _ e1 f1
  obtain ⟨d1, d2⟩ := stk_skip hM _ _ _ _ e2 f2
  refine ⟨a1, b1, ?_, c2, d2, by rw [c1, d1, es]⟩
  rw [a3, b3] at es
  injection es
theorem Al.occ {L M : List S} (hL : forest w L 1 = true) (hM : forest w M 1 = true) {l m : List S} {ps : List (List S × List S)} (h : Al w l m ps) : ∀ i p, L.drop i = l → M.drop p = m → stk w L i = stk w M p →
    ∀ q ∈ ps, q.1 ≠ q.2 → ∃ t x y, InE w L t x ∧ InE w M t y ∧ x ≠ y ∧ q.1.head? = some x ∧ q.2.head? = some y := by
  induction h with
  | nil => intro _ _ _ _ _ q hq; cases hq
  | same a l m ps h ih =>
    intro i p e1 e2 es q hq hne
    obtain ⟨_, _, _, b1, b2, b3⟩ := step_same hL hM e1 e2 es
    rcases List.mem_cons.mp hq with e | hq
    · subst e; exact absurd rfl hne
    · exact ih _ _ b1 b2 b3 q hq hne
  | diff x y a b l m ps hxy f1 f2 h ih =>
    intro i p e1 e2 es q hq hne
    obtain ⟨a1, a2, a3, b1, b2, b3⟩ := step_diff hL hM e1 e2 es f1 f2
    rcases List.mem_cons.mp hq with e | hq
    · subst e
      exact ⟨_, x, y, ⟨i, a1, rfl⟩, ⟨p, a2, a3.symm⟩, hxy, rfl, rfl⟩
    · exact ih _ _ b1 b2 b3 q hq hne
section
variable {hole : S} (w0 : w hole = 0)
include w0
theorem hole_one {a : List S} (h : forest w (hole :: a) 1 = true) : a = [] := by
  have h2 : forest w a (w hole + 0) = true := h
  rw [w0] at h2
  exact forest_zero w h2
theorem Al.beg {L M : List S} (hL : forest w L 1 = true) (hM : forest w M 1 = true) {l m : List S} {ps : List (List S × List S)} (h : Al w l m ps) : (∀ q ∈ ps, q.1 = q.2 ∨ q.1.head? = some hole) → ∀ i p, L.drop i = l → M.drop p = m → stk w L i = stk w M p →
    ∀ j z, i ≤ j → L[j]? = some z → z ≠ hole → InE w M (pth w L j) z := by
  induction h with
  | nil =>
    intro _ i p e1 _ _ j z hij hz _
    have hj := (List.getElem?_eq_some_iff.mp hz).1
    have := congrArg List.length e1
    rw [List.length_drop, List.length_nil] at this
    omega
  | same a l m ps h ih =>
    intro ok i p e1 e2 es j z hij hz hn
    obtain ⟨a1, a2, a3, b1, b2, b3⟩ := step_same hL hM e1 e2 es
    by_cases e : j = i
    · subst e
      rw [a1] at hz
      cases hz
      exact ⟨p, a2, a3.symm⟩
    · exact ih (fun q hq => ok q (List.mem_cons_of_mem _ hq)) _ _ b1 b2 b3 j z (by omega) hz hn
  | diff x y a b l m ps hxy f1 f2 h ih =>
    intro ok i p e1 e2 es j z hij hz hn
    obtain ⟨a1, a2, a3, b1, b2, b3⟩ := step_diff hL hM e1 e2 es f1 f2
    have ex : x = hole := by
      rcases ok _ List.mem_cons_self with q | q
      · injection q with q _; exact absurd q hxy
      · exact Option.some.inj q
    subst ex
    have ea := hole_one w0 f1
    subst ea
    by_cases e : j = i
    · subst e
      rw [a1] at hz
      cases hz
      exact absurd rfl hn
    · exact ih (fun q hq => ok q (List.mem_cons_of_mem _ hq)) _ _ b1 b2 b3 j z (by simp only [List.length_cons, List.length_nil]; omega) hz hn
end
end Mth
end
section
set_option Elab.async false
set_option linter.all false
set_option maxHeartbeats 2000000
set_option autoImplicit false
/-! Stumps laid beside each other: parts, what is filled, what is common, what is united. -/
namespace Mth
open Sh (shr Un)
variable {w : S → Nat}
theorem stk_in {l : List S} (h : forest w l 1 = true) {i : Nat} {z : S} (hz : l[i]? = some z) : ∃ st, stk w l i = pth w l i :: st := by
  obtain ⟨st, a, _⟩ := stk_step w h (List.getElem?_eq_some_iff.mp hz).1
  exact ⟨st, a⟩
theorem pth_stk {l m : List S} {i p : Nat} (e : stk w l i = stk w m p) : pth w l i = pth w m p := by unfold pth; rw [e]
section
variable (w0 : w "*" = 0)
include w0
theorem star_one : forest w [("*" : S)] 1 = true := by
  unfold forest
  rw [w0]
  rfl
/-- what is common of two begins both, and at its holes they differ -/
theorem Al.com {L M C : List S} (hL : forest w L 1 = true) (hM : forest w M 1 = true) (hC : forest w C 1 = true) {l m : List S} {ps : List (List S × List S)} (h : Al w l m ps) : ∀ i p k, L.drop i = l → M.drop p = m → C.drop k = shr ps → stk w L i = stk w M p → stk w C k = stk w L i →
    ∀ j z, k ≤ j → C[j]? = some z → (z ≠ "*" → InE w L (pth w C j) z ∧ InE w M (pth w C j) z) ∧ (z = "*" → ∃ x y, InE w L (pth w C j) x ∧ InE w M (pth w C j) y ∧ (x = y → x = "*")) := by
  induction h with
  | nil =>
    intro i p k _ _ e _ _ j z hkj hz
    have hj := (List.getElem?_eq_some_iff.mp hz).1
    have := congrArg List.length e
    rw [List.length_drop] at this
    have z0 : (shr ([] : List (List S × List S))).length = 0 := rfl
    omega
  | same a l m ps h ih =>
    intro i p k e1 e2 e3 es ec j z hkj hz
    obtain ⟨a1, a2, a3, b1, b2, b3⟩ := step_same hL hM e1 e2 es
    have e3' : C.drop k = a :: shr ps := by
      rw [e3]
      show (if [a] = [a] then [a] else [("*" : S)]) ++ shr ps = _
      rw [if_pos rfl]
      rfl
    obtain ⟨c1, c2, c3, st, c4, c5⟩ := stk_next hC e3'
    obtain ⟨d1, d2, d3, st', d4, d5⟩ := stk_next hL e1
    have ep := pth_stk ec
    have eC : stk w C (k + 1) = stk w L (i + 1) := stk_succ w ec (c2.trans a1.symm)
    by_cases e : j = k
    · subst e
      rw [c2] at hz
      cases hz
      rw [ep]
      exact ⟨fun _ => ⟨⟨i, a1, rfl⟩, ⟨p, a2, a3.symm⟩⟩, fun hs => ⟨a, a, ⟨i, a1, rfl⟩, ⟨p, a2, a3.symm⟩, fun _ => hs⟩⟩
    · exact ih _ _ _ b1 b2 c3 b3 eC j z (by omega) hz
  | diff x y a b l m ps hxy f1 f2 h ih =>
    intro i p k e1 e2 e3 es ec j z hkj hz
    obtain ⟨a1, a2, a3, b1, b2, b3⟩ := step_diff hL hM e1 e2 es f1 f2
    have ne : x :: a ≠ y :: b := fun q => by injection q with q _; exact hxy q
    have e3' : C.drop k = ("*" : S) :: shr ps := by
      rw [e3]
      show (if x :: a = y :: b then x :: a else [("*" : S)]) ++ shr ps = _
      rw [if_neg ne]
      rfl
    obtain ⟨c1, c2, c3, st, c4, c5⟩ := stk_next hC e3'
    obtain ⟨q1, q2⟩ := stk_skip hL _ _ _ _ e1 f1
    have ep := pth_stk ec
    have eC : stk w C (k + 1) = stk w L (i + (x :: a).length) := by
      rw [q1, ← ec, c4, c5, w0]
      rfl
    by_cases e : j = k
    · subst e
      rw [c2] at hz
      cases hz
      rw [ep]
      exact ⟨fun hn => absurd rfl hn, fun _ => ⟨x, y, ⟨i, a1, rfl⟩, ⟨p, a2, a3.symm⟩, fun q => absurd q hxy⟩⟩
    · exact ih _ _ _ b1 b2 c3 b3 eC j z (by omega) hz
/-- the parts, where the first begins the second -/
theorem Al.prt {L M : List S} (hL : forest w L 1 = true) (hM : forest w M 1 = true) {l m : List S} {ps : List (List S × List S)} (h : Al w l m ps) : (∀ q ∈ ps, q.1 = q.2 ∨ q.1.head? = some ("*" : S)) → ∀ i p acc, L.drop i = l → M.drop p = m → stk w L i = stk w M p →
    ∃ qs : List Nat, Mth.prt w ("*" : S) M l p acc = some (acc ++ qs.map (cut w M)) ∧ (∀ q ∈ qs, q < M.length) ∧ qs.map (pth w M) = ((List.range' i (L.length - i)).filter fun j => decide (L[j]? = some ("*" : S))).map (pth w L) := by
  induction h with
  | nil =>
    intro _ i p acc e1 e2 es
    have := congrArg List.length e1
    rw [List.length_drop, List.length_nil] at this
    refine ⟨[], by rw [List.map_nil, List.append_nil]; rfl, (fun _ h => nomatch h), ?_⟩
    rw [this]
    rfl
  | same a l m ps h ih =>
    intro ok i p acc e1 e2 es
    obtain ⟨a1, a2, a3, b1, b2, b3⟩ := step_same hL hM e1 e2 es
    have hi := (List.getElem?_eq_some_iff.mp a1).1
    have hp := (List.getElem?_eq_some_iff.mp a2).1
    have er : L.length - i = (L.length - (i + 1)) + 1 := by omega
    by_cases e : a = "*"
    · subst e
      have en : nxs w M p 1 = p + 1 := by
        have q := nxs_in (m := 0) w a2 0
        rw [w0, Nat.zero_add, nxs_zero w (by omega)] at q
        exact q
      obtain ⟨qs, q1, q2, q3⟩ := ih (fun q hq => ok q (List.mem_cons_of_mem _ hq)) (i + 1) (p + 1) (acc ++ [cut w M p]) b1 b2 b3
      refine ⟨p :: qs, ?_, ?_, ?_⟩
      · unfold Mth.prt
        rw [if_pos rfl, en, q1, List.append_assoc]
        rfl
      · intro q hq
        rcases List.mem_cons.mp hq with x | x
        · rw [x]; exact hp
        · exact q2 q x
      · rw [er, List.range'_succ, List.filter_cons, if_pos (by rw [a1]; rfl), List.map_cons, List.map_cons, q3, a3]
    · obtain ⟨qs, q1, q2, q3⟩ := ih (fun q hq => ok q (List.mem_cons_of_mem _ hq)) (i + 1) (p + 1) acc b1 b2 b3
      refine ⟨qs, ?_, q2, ?_⟩
      · unfold Mth.prt
        rw [if_neg e, if_pos a2, q1]
      · rw [er, List.range'_succ, List.filter_cons, if_neg (by rw [a1]; simp [e]), q3]
  | diff x y a b l m ps hxy f1 f2 h ih =>
    intro ok i p acc e1 e2 es
    obtain ⟨a1, a2, a3, b1, b2, b3⟩ := step_diff hL hM e1 e2 es f1 f2
    have ex : x = "*" := by
      rcases ok _ List.mem_cons_self with q | q
      · injection q with q _; exact absurd q hxy
      · exact Option.some.inj q
    subst ex
    have ea := hole_one w0 f1
    subst ea
    have hi := (List.getElem?_eq_some_iff.mp a1).1
    have hp := (List.getElem?_eq_some_iff.mp a2).1
    have er : L.length - i = (L.length - (i + 1)) + 1 := by omega
    have es' : skip w (M.drop p) 1 = m := by rw [e2]; exact skip_app w _ _ 1 f2
    have en : nxs w M p 1 = p + (y :: b).length := by
      unfold nxs
      rw [es']
      have := congrArg List.length e2
      rw [List.length_drop, List.length_append] at this
      omega
    obtain ⟨qs, q1, q2, q3⟩ := ih (fun q hq => ok q (List.mem_cons_of_mem _ hq)) (i + 1) (p + (y :: b).length) (acc ++ [cut w M p]) b1 b2 b3
    refine ⟨p :: qs, ?_, ?_, ?_⟩
    · show Mth.prt w ("*" : S) M ("*" :: l) p acc = _
      unfold Mth.prt
      rw [if_pos rfl, en, q1, List.append_assoc]
      rfl
    · intro q hq
      rcases List.mem_cons.mp hq with x | x
      · rw [x]; exact hp
      · exact q2 q x
    · rw [er, List.range'_succ, List.filter_cons, if_pos (by rw [a1]; rfl), List.map_cons, List.map_cons, q3, a3]
/-- .. and where it does not -/
theorem Al.prt_none {M : List S} {l m : List S} {ps : List (List S × List S)} (h : Al w l m ps) : (∃ q ∈ ps, q.1 ≠ q.2 ∧ q.1.head? ≠ some ("*" : S)) → ∀ p acc, p ≤ M.length → M.drop p = m → Mth.prt w ("*" : S) M l p acc = none := by
  induction h with
  | nil => rintro ⟨q, hq, _⟩; cases hq
  | same a l m ps h ih =>
    rintro ⟨q, hq, h1, h2⟩ p acc hp e2
    have hq' : ∃ q ∈ ps, q.1 ≠ q.2 ∧ q.1.head? ≠ some ("*" : S) := by
      rcases List.mem_cons.mp hq with e | hq
      · subst e; exact absurd rfl h1
      · exact ⟨q, hq, h1, h2⟩
    have hpl : p < M.length := by
      have := congrArg List.length e2
      rw [List.length_drop, List.length_cons] at this
      omega
    rw [List.drop_eq_getElem_cons hpl] at e2
    injection e2 with e3 e4
    have a2 : M[p]? = some a := by rw [List.getElem?_eq_getElem hpl, e3]
    unfold Mth.prt
    by_cases e : a = "*"
    · subst e
      have en : nxs w M p 1 = p + 1 := by
        have q := nxs_in (m := 0) w a2 0
        rw [w0, Nat.zero_add, nxs_zero w (by omega)] at q
        exact q
      rw [if_pos rfl, en]
      exact ih hq' _ _ hpl e4
    · rw [if_neg e, if_pos a2]
      exact ih hq' _ _ hpl e4
  | diff x y a b l m ps hxy f1 f2 h ih =>
    rintro ⟨q, hq, h1, h2⟩ p acc hp e2
    have hpl : p < M.length := by
      have := congrArg List.length e2
      rw [List.length_drop, List.length_append, List.length_cons] at this
      omega
    have a2 : M[p]? = some y := by
      have := congrArg (fun z => z[0]?) e2
      rw [List.getElem?_drop, Nat.add_zero] at this
      exact this
    show Mth.prt w ("*" : S) M (x :: (a ++ l)) p acc = none
    unfold Mth.prt
    by_cases ex : x = "*"
    · subst ex
      have ea := hole_one w0 f1
      subst ea
      have es' : skip w (M.drop p) 1 = m := by rw [e2]; exact skip_app w _ _ 1 f2
      have hq' : ∃ q ∈ ps, q.1 ≠ q.2 ∧ q.1.head? ≠ some ("*" : S) := by
        rcases List.mem_cons.mp hq with e | hq
        · subst e; exact absurd rfl h2
        · exact ⟨q, hq, h1, h2⟩
      rw [if_pos rfl]
      refine ih hq' _ _ (nxs_le w _ _ _) ?_
      rw [drop_nxs, es']
    · rw [if_neg ex, if_neg (by rw [a2]; exact fun q => hxy (Option.some.inj q).symm)]
end
/-- a stump's holes filled from the left -/
def flr : List S → List (List S) → List S
  | [], _ => []
  | z :: r, ls => if z = "*" then ls.headD [] ++ flr r ls.tail else z :: flr r ls
theorem flr_cons (z : S) (r : List S) (ls : List (List S)) : flr (z :: r) ls = if z = "*" then ls.headD [] ++ flr r ls.tail else z :: flr r ls := rfl
theorem flr_app : ∀ (a b : List S) (ls : List (List S)), flr (a ++ b) ls = flr a ls ++ flr b (ls.drop (a.count ("*" : S)))
  | [], b, ls => rfl
  | z :: a, b, ls => by
    rw [List.cons_append, flr_cons, flr_cons, List.count_cons]
    by_cases e : z = "*"
    · rw [if_pos e, if_pos e, if_pos (beq_iff_eq.mpr e), flr_app a b, List.append_assoc]
      cases ls with
      | nil => rw [List.tail_nil, List.drop_nil, List.drop_nil]
      | cons x ls => rw [List.tail_cons, List.drop_succ_cons]
    · rw [if_neg e, if_neg e, if_neg (fun q => e (beq_iff_eq.mp q)), flr_app a b, Nat.add_zero]
      rfl
theorem fil_flr (ls : List (List S)) (l : List S) : ∀ n, n ≤ l.length → fil ("*" : S) ls l n = flr (l.take n) ls
  | 0, _ => rfl
  | n + 1, h => by
    have hi : n < l.length := h
    unfold fil
    rw [fil_flr ls l n (by omega), List.take_add_one, List.getElem?_eq_getElem hi, flr_app]
    congr 1
    show (if l[n] = "*" then ls.getD ((l.take n).count ("*" : S)) [] else [l[n]]) = flr [l[n]] (ls.drop ((l.take n).count ("*" : S)))
    unfold flr
    by_cases e : l[n] = "*"
    · rw [if_pos e, if_pos e, List.headD_eq_head?_getD, List.head?_drop]
      simp [List.getD, flr]
    · rw [if_neg e, if_neg e]
      rfl
theorem fil_all (ls : List (List S)) (l : List S) : fil ("*" : S) ls l l.length = flr l ls := by rw [fil_flr ls l _ (Nat.le_refl _), List.take_length]
section
variable (w0 : w "*" = 0)
include w0
theorem flr_forest : ∀ (l : List S) (ls : List (List S)) (n : Nat), forest w l n = true → (∀ t ∈ ls, forest w t 1 = true) → l.count ("*" : S) ≤ ls.length → forest w (flr l ls) n = true
  | [], ls, n, h, _, _ => h
  | z :: r, ls, 0, h, _, _ => absurd (forest_zero w h) (by simp)
  | z :: r, ls, n + 1, h, hf, hc => by
    have h2 : forest w r (w z + n) = true := h
    rw [List.count_cons] at hc
    unfold flr
    by_cases e : z = "*"
    · rw [if_pos (beq_iff_eq.mpr e)] at hc
      rw [if_pos e]
      rw [e, w0, Nat.zero_add] at h2
      cases ls with
      | nil => rw [List.length_nil] at hc; omega
      | cons t ls =>
        show forest w (t ++ flr r ls) (n + 1) = true
        rw [Nat.add_comm]
        refine forest_app w _ _ 1 n (hf t List.mem_cons_self) (flr_forest r ls n h2 (fun x hx => hf x (List.mem_cons_of_mem _ hx)) ?_)
        rw [List.length_cons] at hc
        omega
    · rw [if_neg (fun q => e (beq_iff_eq.mp q))] at hc
      rw [if_neg e]
      exact flr_forest r ls _ h2 hf hc
/-- the parts of what was filled -/
theorem prt_flr {M : List S} : ∀ (l : List S) (ls : List (List S)) (p : Nat) (acc : List (List S)), p ≤ M.length → M.drop p = flr l ls → (∀ t ∈ ls, forest w t 1 = true) → l.count ("*" : S) = ls.length → prt w ("*" : S) M l p acc = some (acc ++ ls)
  | [], ls, p, acc, _, _, _, hc => by
    have : ls = [] := List.length_eq_zero_iff.mp hc.symm
    rw [this, List.append_nil]
    rfl
  | z :: r, ls, p, acc, hp, e, hf, hc => by
    rw [List.count_cons] at hc
    unfold prt
    unfold flr at e
    by_cases ez : z = "*"
    · rw [if_pos (beq_iff_eq.mpr ez)] at hc
      rw [if_pos ez] at e
      rw [if_pos ez]
      cases ls with
      | nil => rw [List.length_nil] at hc; omega
      | cons t ls =>
        have e' : M.drop p = t ++ flr r ls := e
        have es : skip w (M.drop p) 1 = flr r ls := by rw [e']; exact skip_app w _ _ 1 (hf t List.mem_cons_self)
        have ec : cut w M p = t := by
          unfold cut nxs
          rw [es]
          have hl := congrArg List.length e'
          rw [List.length_drop, List.length_append] at hl
          rw [show M.length - (flr r ls).length - p = t.length by omega, e', List.take_left]
        rw [List.length_cons] at hc
        rw [prt_flr r ls _ _ (nxs_le w _ _ _) (by rw [drop_nxs, es]) (fun x hx => hf x (List.mem_cons_of_mem _ hx)) (by omega), ec, List.append_assoc]
        rfl
    · rw [if_neg (fun q => ez (beq_iff_eq.mp q))] at hc
      rw [if_neg ez] at e
      have hpl : p < M.length := by
        have := congrArg List.length e
        rw [List.length_drop, List.length_cons] at this
        omega
      rw [List.drop_eq_getElem_cons hpl] at e
      injection e with e3 e4
      rw [if_neg ez, if_pos (by rw [List.getElem?_eq_getElem hpl, e3])]
      exact prt_flr r ls _ _ hpl e4 hf hc
/-- what is filled with the parts -/
theorem flr_prt {M : List S} (hM : forest w M 1 = true) : ∀ (l : List S) (p n : Nat) (acc ls : List (List S)), Fst w M p n → forest w l n = true → prt w ("*" : S) M l p acc = some (acc ++ ls) → flr l ls = M.drop p
  | [], p, n, acc, ls, F, h, e => by
    have e2 : some acc = some (acc ++ ls) := e
    rw [forest_nil w h] at F
    have e3 := Option.some.inj e2
    have : ls = [] := by
      have := congrArg List.length e3
      rw [List.length_append] at this
      exact List.length_eq_zero_iff.mp (by omega)
    rw [this, forest_zero w F.2]
    rfl
  | z :: r, p, 0, acc, ls, F, h, e => absurd (forest_zero w h) (by simp)
  | z :: r, p, n + 1, acc, ls, F, h, e => by
    have h2 : forest w r (w z + n) = true := h
    have hpl := F.lt
    unfold prt at e
    unfold flr
    by_cases ez : z = "*"
    · rw [if_pos ez] at e
      rw [if_pos ez]
      rw [ez, w0, Nat.zero_add] at h2
      have hl := prt_len w "*" e
      rw [List.length_append, List.length_append, List.length_singleton] at hl
      cases ls with
      | nil => rw [List.length_nil] at hl; omega
      | cons t ls =>
        have ht : t = cut w M p ∧ prt w ("*" : S) M r (nxs w M p 1) (acc ++ [cut w M p]) = some ((acc ++ [cut w M p]) ++ ls) := by
          have q : ∃ xs, (acc ++ t :: ls) = (acc ++ [cut w M p]) ++ xs := by
            have : ∀ (l : List S) (p : Nat) (acc res : List (List S)), prt w ("*" : S) M l p acc = some res → ∃ xs, res = acc ++ xs := by
              intro l
              induction l with
              | nil => intro p acc res h; cases h; exact ⟨[], by rw [List.append_nil]⟩
              | cons y l ih =>
                intro p acc res h
                unfold prt at h
                split at h
                · obtain ⟨xs, q⟩ := ih _ _ _ h
                  exact ⟨_, by rw [q, List.append_assoc]⟩
                · split at h
                  · exact ih _ _ _ h
                  · cases h
            exact this _ _ _ _ e
          obtain ⟨xs, q⟩ := q
          rw [List.append_assoc] at q
          have q2 := List.append_cancel_left q
          injection q2 with q3 q4
          refine ⟨q3, ?_⟩
          rw [e, q3, List.append_assoc]
          rfl
        have ih := flr_prt hM r _ n _ ls (Fst.skip w (a := 1) (b := n) (by rw [Nat.add_comm]; exact F)) h2 ht.2
        show t ++ flr r ls = _
        rw [ih, ht.1]
        exact (Sh.drop_cut hpl).symm
    · rw [if_neg ez] at e
      rw [if_neg ez]
      split at e
      · rename_i e4
        have G := F.in w e4
        rw [flr_prt hM r _ _ _ _ G h2 e]
        rw [List.drop_eq_getElem_cons hpl]
        rw [List.getElem?_eq_getElem hpl] at e4
        rw [Option.some.inj e4]
      · cases e
end
end Mth
end
section
set_option Elab.async false
set_option linter.all false
set_option maxHeartbeats 2000000
set_option autoImplicit false
/-! What the entries of stumps say of each other. -/
namespace Mth
open Sh (shr Un)
variable {w : S → Nat}
theorem al_all {l m : List S} (hL : forest w l 1 = true) (hM : forest w m 1 = true) : ∃ ps, Al w l m ps := Al.ex l.length l m 1 (Nat.le_refl _) hL hM
/-- the kinds of the first stand in the second -/
def Beg (w : S → Nat) (c l : List S) : Prop := ∀ p z, z ≠ ("*" : S) → InE w c p z → InE w l p z
theorem Beg.trans {a b c : List S} (x : Beg w a b) (y : Beg w b c) : Beg w a c := fun p z hz h => y p z hz (x p z hz h)
theorem Beg.refl (a : List S) : Beg w a a := fun _ _ _ h => h
theorem Al.ok {l m : List S} (hL : forest w l 1 = true) (hM : forest w m 1 = true) {ps : List (List S × List S)} (h : Al w l m ps) (b : Beg w l m) : ∀ q ∈ ps, q.1 = q.2 ∨ q.1.head? = some ("*" : S) := fun q hq => by
  by_cases e : q.1 = q.2
  · exact .inl e
  · obtain ⟨t, x, y, h1, h2, h3, h4, h5⟩ := h.occ hL hM 0 0 rfl rfl rfl q hq e
    by_cases ex : x = "*"
    · rw [h4, ex]; exact .inr rfl
    · exact absurd (InE.fun hM (b t x ex h1) h2) h3
section
variable (w0 : w "*" = 0)
include w0
theorem Al.of_ok {l m : List S} (hL : forest w l 1 = true) (hM : forest w m 1 = true) {ps : List (List S × List S)} (h : Al w l m ps) (ok : ∀ q ∈ ps, q.1 = q.2 ∨ q.1.head? = some ("*" : S)) : Beg w l m := by
  rintro p z hz ⟨i, hi, rfl⟩
  exact h.beg w0 hL hM ok 0 0 rfl rfl rfl i z (Nat.zero_le _) hi hz
/-- also the holes have their place there -/
theorem Al.place {L M : List S} (hL : forest w L 1 = true) (hM : forest w M 1 = true) {l m : List S} {ps : List (List S × List S)} (h : Al w l m ps) : (∀ q ∈ ps, q.1 = q.2 ∨ q.1.head? = some ("*" : S)) → ∀ i p, L.drop i = l → M.drop p = m → stk w L i = stk w M p →
    ∀ j z, i ≤ j → L[j]? = some z → ∃ z', InE w M (pth w L j) z' := by
  induction h with
  | nil =>
    intro _ i p e1 _ _ j z hij hz
    have hj := (List.getElem?_eq_some_iff.mp hz).1
    have := congrArg List.length e1
    rw [List.length_drop, List.length_nil] at this
    omega
  | same a l m ps h ih =>
    intro ok i p e1 e2 es j z hij hz
    obtain ⟨a1, a2, a3, b1, b2, b3⟩ := step_same hL hM e1 e2 es
    by_cases e : j = i
    · subst e
      exact ⟨a, p, a2, a3.symm⟩
    · exact ih (fun q hq => ok q (List.mem_cons_of_mem _ hq)) _ _ b1 b2 b3 j z (by omega) hz
  | diff x y a b l m ps hxy f1 f2 h ih =>
    intro ok i p e1 e2 es j z hij hz
    obtain ⟨a1, a2, a3, b1, b2, b3⟩ := step_diff hL hM e1 e2 es f1 f2
    have ex : x = "*" := by
      rcases ok _ List.mem_cons_self with q | q
      · injection q with q _; exact absurd q hxy
      · exact Option.some.inj q
    subst ex
    have ea := hole_one w0 f1
    subst ea
    by_cases e : j = i
    · subst e
      exact ⟨y, p, a2, a3.symm⟩
    · exact ih (fun q hq => ok q (List.mem_cons_of_mem _ hq)) _ _ b1 b2 b3 j z (by simp only [List.length_cons, List.length_nil]; omega) hz
theorem Beg.place {l m : List S} (hL : forest w l 1 = true) (hM : forest w m 1 = true) (b : Beg w l m) {p : List Nat} {z : S} (h : InE w l p z) : ∃ z', InE w m p z' := by
  obtain ⟨ps, a⟩ := al_all hL hM
  obtain ⟨i, hi, rfl⟩ := h
  exact a.place w0 hL hM (a.ok hL hM b) 0 0 rfl rfl rfl i z (Nat.zero_le _) hi
theorem Beg.eq {l m : List S} (hL : forest w l 1 = true) (hM : forest w m 1 = true) (a : Beg w l m) (b : Beg w m l) : l = m := by
  obtain ⟨ps, h⟩ := al_all hL hM
  refine h.eq fun q hq => Classical.byContradiction fun e => ?_
  obtain ⟨t, x, y, h1, h2, h3, _⟩ := h.occ hL hM 0 0 rfl rfl rfl q hq e
  by_cases ex : x = "*"
  · by_cases ey : y = "*"
    · exact h3 (ex.trans ey.symm)
    · exact h3 (InE.fun hL h1 (b t y ey h2))
  · exact h3 (InE.fun hM (a t x ex h1) h2)
/-- what parts says -/
theorem prt_some {l m : List S} (hL : forest w l 1 = true) (hM : forest w m 1 = true) (b : Beg w l m) : ∃ qs : List Nat, prt w ("*" : S) m l 0 [] = some (qs.map (cut w m)) ∧ (∀ q ∈ qs, q < m.length) ∧ qs.map (pth w m) = (hps ("*" : S) l).map (pth w l) ∧ flr l (qs.map (cut w m)) = m := by
  obtain ⟨ps, h⟩ := al_all hL hM
  obtain ⟨qs, q1, q2, q3⟩ := h.prt w0 hL hM (h.ok hL hM b) 0 0 [] rfl rfl rfl
  refine ⟨qs, q1, q2, ?_, ?_⟩
  · rw [q3]
    unfold hps
    rw [List.range_eq_range', Nat.sub_zero]
  · exact flr_prt w0 hM l 0 1 [] _ ⟨Nat.zero_le _, hM⟩ hL q1
theorem prt_none {l m : List S} (hL : forest w l 1 = true) (hM : forest w m 1 = true) (b : ¬ Beg w l m) : prt w ("*" : S) m l 0 [] = none := by
  obtain ⟨ps, h⟩ := al_all hL hM
  refine h.prt_none w0 ?_ 0 [] (Nat.zero_le _) rfl
  refine Classical.byContradiction fun n => b (h.of_ok w0 hL hM fun q hq => ?_)
  by_cases e : q.1 = q.2
  · exact .inl e
  · exact .inr (Classical.byContradiction fun e2 => n ⟨q, hq, e, e2⟩)
end
/-- the common stump of all these -/
def Com (w : S → Nat) (ls : List (List S)) (c : List S) : Prop := forest w c 1 = true ∧ (∀ l ∈ ls, Beg w c l) ∧ ∀ p, InE w c p "*" → ¬ ∃ z, z ≠ ("*" : S) ∧ ∀ l ∈ ls, InE w l p z
section
variable (w0 : w "*" = 0)
include w0
theorem Com.le {ls ls' : List (List S)} {c c' : List S} (hl : ∀ l ∈ ls', l ∈ ls) (hf : ∀ l ∈ ls', forest w l 1 = true) (ne : ls' ≠ []) (a : Com w ls c) (b : Com w ls' c') : Beg w c c' := by
  obtain ⟨ps, h⟩ := al_all a.1 b.1
  refine h.of_ok w0 a.1 b.1 fun q hq => ?_
  by_cases e : q.1 = q.2
  · exact .inl e
  · obtain ⟨t, x, y, h1, h2, h3, h4, _⟩ := h.occ a.1 b.1 0 0 rfl rfl rfl q hq e
    by_cases ex : x = "*"
    · rw [h4, ex]; exact .inr rfl
    · refine absurd ?_ h3
      by_cases ey : y = "*"
      · subst ey
        exact absurd ⟨x, ex, fun l hl' => a.2.1 l (hl l hl') t x ex h1⟩ (b.2.2 t h2)
      · obtain ⟨l, r, rfl⟩ := List.exists_cons_of_ne_nil ne
        exact InE.fun (hf l List.mem_cons_self) (a.2.1 l (hl l List.mem_cons_self) t x ex h1) (b.2.1 l List.mem_cons_self t y ey h2)
theorem Com.uniq {ls ls' : List (List S)} {c c' : List S} (h1 : ∀ l ∈ ls', l ∈ ls) (h2 : ∀ l ∈ ls, l ∈ ls') (hf : ∀ l ∈ ls', forest w l 1 = true) (ne : ls' ≠ []) (a : Com w ls c) (b : Com w ls' c') : c = c' := by
  have ne2 : ls ≠ [] := by
    obtain ⟨l, r, rfl⟩ := List.exists_cons_of_ne_nil ne
    exact List.ne_nil_of_mem (h1 l List.mem_cons_self)
  exact Beg.eq w0 a.1 b.1 (Com.le w0 h1 hf ne a b) (Com.le w0 h2 (fun l hl => hf l (h2 l hl)) ne2 b a)
theorem Com.one {l : List S} (h : forest w l 1 = true) : Com w [l] l :=
  ⟨h, fun x hx => by rw [List.mem_singleton.mp hx]; exact Beg.refl l, fun p hp ⟨z, hz, hz2⟩ => hz (InE.fun h (hz2 l List.mem_cons_self) hp)⟩
/-- one more stump at the front -/
theorem Com.cons {l m : List S} {ms : List (List S)} {c : List S} {ps : List (List S × List S)} (hL : forest w l 1 = true) (hM : forest w m 1 = true) (hC : forest w (shr ps) 1 = true) (h : Al w l m ps) (b : Com w (shr ps :: ms) c) : Com w (l :: m :: ms) c := by
  have pr := h.com w0 hL hM hC 0 0 0 rfl rfl rfl rfl rfl
  have b1 : Beg w (shr ps) l := by
    rintro p z hz ⟨i, hi, rfl⟩
    exact ((pr i z (Nat.zero_le _) hi).1 hz).1
  have b2 : Beg w (shr ps) m := by
    rintro p z hz ⟨i, hi, rfl⟩
    exact ((pr i z (Nat.zero_le _) hi).1 hz).2
  have bc := b.2.1 (shr ps) List.mem_cons_self
  refine ⟨b.1, fun x hx => ?_, fun p hp ⟨z, hz, hz2⟩ => b.2.2 p hp ⟨z, hz, fun x hx => ?_⟩⟩
  · rcases List.mem_cons.mp hx with e | hx
    · rw [e]; exact bc.trans b1
    · rcases List.mem_cons.mp hx with e | hx
      · rw [e]; exact bc.trans b2
      · exact b.2.1 x (List.mem_cons_of_mem _ hx)
  · rcases List.mem_cons.mp hx with e | hx
    · subst e
      obtain ⟨y', hy'⟩ := Beg.place w0 b.1 hC bc hp
      have zl := hz2 l List.mem_cons_self
      have zm := hz2 m (List.mem_cons_of_mem _ List.mem_cons_self)
      by_cases ey : y' = "*"
      · subst ey
        obtain ⟨i, hi, rfl⟩ := hy'
        obtain ⟨x, y, h1, h2, h3⟩ := (pr i _ (Nat.zero_le _) hi).2 rfl
        have e1 := InE.fun hL h1 zl
        have e2 := InE.fun hM h2 zm
        exact absurd (e1.symm.trans (h3 (e1.trans e2.symm))) hz
      · have := InE.fun hL (b1 _ _ ey hy') zl
        rw [← this]
        exact hy'
    · exact hz2 x (List.mem_cons_of_mem _ (List.mem_cons_of_mem _ hx))
theorem un_forest {l m : List S} {o : Option (List S)} (h : Un w l m o) : ∀ u n, o = some u → forest w l n = true → forest w m n = true → forest w u n = true := by
  induction h with
  | nil r => intro u n e _ h2; cases e; exact h2
  | same a l m o h ih =>
    intro u n e h1 h2
    cases o with
    | none => cases e
    | some v =>
      cases e
      cases n with
      | zero => exact absurd (forest_zero w h1) (by simp)
      | succ n => exact ih v (w a + n) rfl h1 h2
  | right t l m o ht h1 h ih =>
    intro u n e g1 g2
    cases o with
    | none => cases e
    | some v =>
      cases e
      cases n with
      | zero => exact absurd (forest_zero w g2) (by simp)
      | succ n =>
        have g2' : forest w m (w "*" + n) = true := g2
        rw [w0, Nat.zero_add] at g2'
        have g1' : forest w l n = true := by
          have := forest_skip w (t ++ l) 1 n (by rw [Nat.add_comm]; exact g1)
          rw [skip_app w t l 1 ht] at this
          exact this
        rw [Nat.add_comm]
        exact forest_app w t v 1 n ht (ih v n rfl g1' g2')
  | left t l m o ht h1 h ih =>
    intro u n e g1 g2
    cases o with
    | none => cases e
    | some v =>
      cases e
      cases n with
      | zero => exact absurd (forest_zero w g1) (by simp)
      | succ n =>
        have g1' : forest w l (w "*" + n) = true := g1
        rw [w0, Nat.zero_add] at g1'
        have g2' : forest w m n = true := by
          have := forest_skip w (t ++ m) 1 n (by rw [Nat.add_comm]; exact g2)
          rw [skip_app w t m 1 ht] at this
          exact this
        rw [Nat.add_comm]
        exact forest_app w t v 1 n ht (ih v n rfl g1' g2')
  | clash a b l m h1 h2 h3 => intro u n e; cases e
theorem un_mem {l m : List S} {o : Option (List S)} (h : Un w l m o) : ∀ u, o = some u → ∀ z ∈ u, z ∈ l ∨ z ∈ m := by
  induction h with
  | nil r => intro u e z hz; cases e; cases hz
  | same a l m o h ih =>
    intro u e z hz
    cases o with
    | none => cases e
    | some v =>
      cases e
      rcases List.mem_append.mp hz with x | x
      · rw [List.mem_singleton.mp x]; exact .inl List.mem_cons_self
      · rcases ih v rfl z x with y | y
        · exact .inl (List.mem_cons_of_mem _ y)
        · exact .inr (List.mem_cons_of_mem _ y)
  | right t l m o ht h1 h ih =>
    intro u e z hz
    cases o with
    | none => cases e
    | some v =>
      cases e
      rcases List.mem_append.mp hz with x | x
      · exact .inl (List.mem_append_left _ x)
      · rcases ih v rfl z x with y | y
        · exact .inl (List.mem_append_right _ y)
        · exact .inr (List.mem_cons_of_mem _ y)
  | left t l m o ht h1 h ih =>
    intro u e z hz
    cases o with
    | none => cases e
    | some v =>
      cases e
      rcases List.mem_append.mp hz with x | x
      · exact .inr (List.mem_append_left _ x)
      · rcases ih v rfl z x with y | y
        · exact .inl (List.mem_cons_of_mem _ y)
        · exact .inr (List.mem_append_right _ y)
  | clash a b l m h1 h2 h3 => intro u e; cases e
omit w0 in
/-- a row that stands in two stumps, from the same stack on -/
theorem along {L U : List S} {i k : Nat} (es : stk w L i = stk w U k) {t r r' : List S} (e : L.drop i = t ++ r) (e' : U.drop k = t ++ r') {j : Nat} (hj : j < t.length) : L[i + j]? = some t[j] ∧ U[k + j]? = some t[j] ∧ pth w L (i + j) = pth w U (k + j) := by
  have a1 : L[i + j]? = t[j]? := by
    have := congrArg (fun x => x[j]?) e
    simp only [List.getElem?_drop] at this
    rw [this, List.getElem?_append_left hj]
  have a2 : U[k + j]? = t[j]? := by
    have := congrArg (fun x => x[j]?) e'
    simp only [List.getElem?_drop] at this
    rw [this, List.getElem?_append_left hj]
  rw [List.getElem?_eq_getElem hj] at a1 a2
  exact ⟨a1, a2, pth_stk (stk_along es t r r' e e' j (Nat.le_of_lt hj))⟩
theorem un_pos {L M U : List S} (hL : forest w L 1 = true) (hM : forest w M 1 = true) (hU : forest w U 1 = true) {l m : List S} {o : Option (List S)} (h : Un w l m o) : ∀ u i p k, o = some u → L.drop i = l → M.drop p = m → U.drop k = u → i ≤ L.length → p ≤ M.length → stk w L i = stk w M p → stk w U k = stk w L i →
    (∀ j z, k ≤ j → U[j]? = some z → InE w L (pth w U j) z ∨ InE w M (pth w U j) z) ∧ (∀ j z, i ≤ j → L[j]? = some z → z ≠ "*" → InE w U (pth w L j) z) ∧ (∀ j z, p ≤ j → M[j]? = some z → z ≠ "*" → InE w U (pth w M j) z) := by
  induction h with
  | nil r =>
    intro u i p k e e1 e2 e3 hi hp es ec
    cases e
    have l2 := congrArg List.length e2
    have l3 := congrArg List.length e3
    rw [List.length_drop, List.length_nil] at l2 l3
    have hpe : p = M.length := by omega
    have st0 : (stk w M p).length = 0 := by
      have F := stk_len w hM p hp
      rw [hpe] at F ⊢
      have := F.2
      rw [List.drop_length] at this
      exact forest_nil w this
    have hie : L.length ≤ i := by
      refine Nat.le_of_not_lt fun hlt => ?_
      obtain ⟨st, a, _⟩ := stk_step w hL hlt
      rw [es] at a
      rw [a, List.length_cons] at st0
      omega
    refine ⟨fun j z hj hz => ?_, fun j z hj hz _ => ?_, fun j z hj hz _ => ?_⟩ <;> (have := (List.getElem?_eq_some_iff.mp hz).1; omega)
  | same a l m o h ih =>
    intro u i p k e e1 e2 e3 hi hp es ec
    cases o with
    | none => cases e
    | some v =>
      cases e
      obtain ⟨a1, a2, a3, b1, b2, b3⟩ := step_same hL hM e1 e2 es
      obtain ⟨_, c2, c3, c4, c5, c6⟩ := step_same hU hL (a := a) (l := v) e3 e1 ec
      have hi' := (List.getElem?_eq_some_iff.mp a1).1
      have hp' := (List.getElem?_eq_some_iff.mp a2).1
      obtain ⟨q1, q2, q3⟩ := ih v (i + 1) (p + 1) (k + 1) rfl b1 b2 c4 hi' hp' b3 c6
      have cU : U[k]? = some a := (stk_next hU (z := a) (r := v) e3).2.1
      refine ⟨fun j z hj hz => ?_, fun j z hj hz hn => ?_, fun j z hj hz hn => ?_⟩
      · by_cases ej : j = k
        · subst ej
          rw [cU] at hz
          cases hz
          exact .inl ⟨i, a1, c3.symm⟩
        · exact q1 j z (by omega) hz
      · by_cases ej : j = i
        · subst ej
          rw [a1] at hz
          cases hz
          exact ⟨k, cU, c3⟩
        · exact q2 j z (by omega) hz hn
      · by_cases ej : j = p
        · subst ej
          rw [a2] at hz
          cases hz
          exact ⟨k, cU, c3.trans a3⟩
        · exact q3 j z (by omega) hz hn
  | right t l m o ht h1 h ih =>
    intro u i p k e e1 e2 e3 hi hp es ec
    cases o with
    | none => cases e
    | some v =>
      cases e
      have e3' : U.drop k = t ++ v := e3
      obtain ⟨x1, x2⟩ := stk_skip hL _ _ _ _ e1 ht
      obtain ⟨y1, y2⟩ := stk_skip hU _ _ _ _ e3' ht
      obtain ⟨hp', m2, m3, st, m4, m5⟩ := stk_next hM e2
      have eM : stk w M (p + 1) = (stk w M p).drop 1 := by rw [m5, m4, w0]; rfl
      have lt : i + t.length ≤ L.length := by
        have := congrArg List.length e1
        rw [List.length_drop, List.length_append] at this
        omega
      obtain ⟨q1, q2, q3⟩ := ih v (i + t.length) (p + 1) (k + t.length) rfl x2 m3 y2 lt hp' (by rw [x1, eM, es]) (by rw [x1, y1, ec])
      refine ⟨fun j z hj hz => ?_, fun j z hj hz hn => ?_, fun j z hj hz hn => ?_⟩
      · by_cases ej : j < k + t.length
        · obtain ⟨d, rfl⟩ : ∃ d, j = k + d := ⟨j - k, by omega⟩
          obtain ⟨g1, g2, g3⟩ := along ec.symm e1 e3' (j := d) (by omega)
          rw [g2] at hz
          cases hz
          exact .inl ⟨i + d, g1, g3⟩
        · exact q1 j z (by omega) hz
      · by_cases ej : j < i + t.length
        · obtain ⟨d, rfl⟩ : ∃ d, j = i + d := ⟨j - i, by omega⟩
          obtain ⟨g1, g2, g3⟩ := along ec.symm e1 e3' (j := d) (by omega)
          rw [g1] at hz
          cases hz
          exact ⟨k + d, g2, g3.symm⟩
        · exact q2 j z (by omega) hz hn
      · by_cases ej : j = p
        · subst ej
          rw [m2] at hz
          cases hz
          exact absurd rfl hn
        · exact q3 j z (by omega) hz hn
  | left t l m o ht h1 h ih =>
    intro u i p k e e1 e2 e3 hi hp es ec
    cases o with
    | none => cases e
    | some v =>
      cases e
      have e3' : U.drop k = t ++ v := e3
      have ec2 : stk w U k = stk w M p := ec.trans es
      obtain ⟨x1, x2⟩ := stk_skip hM _ _ _ _ e2 ht
      obtain ⟨y1, y2⟩ := stk_skip hU _ _ _ _ e3' ht
      obtain ⟨hi', m2, m3, st, m4, m5⟩ := stk_next hL e1
      have eL : stk w L (i + 1) = (stk w L i).drop 1 := by rw [m5, m4, w0]; rfl
      have lt : p + t.length ≤ M.length := by
        have := congrArg List.length e2
        rw [List.length_drop, List.length_append] at this
        omega
      obtain ⟨q1, q2, q3⟩ := ih v (i + 1) (p + t.length) (k + t.length) rfl m3 x2 y2 hi' lt (by rw [x1, eL, es]) (by rw [y1, eL, ec])
      refine ⟨fun j z hj hz => ?_, fun j z hj hz hn => ?_, fun j z hj hz hn => ?_⟩
      · by_cases ej : j < k + t.length
        · obtain ⟨d, rfl⟩ : ∃ d, j = k + d := ⟨j - k, by omega⟩
          obtain ⟨g1, g2, g3⟩ := along ec2.symm e2 e3' (j := d) (by omega)
          rw [g2] at hz
          cases hz
          exact .inr ⟨p + d, g1, g3⟩
        · exact q1 j z (by omega) hz
      · by_cases ej : j = i
        · subst ej
          rw [m2] at hz
          cases hz
          exact absurd rfl hn
        · exact q2 j z (by omega) hz hn
      · by_cases ej : j < p + t.length
        · obtain ⟨d, rfl⟩ : ∃ d, j = p + d := ⟨j - p, by omega⟩
          obtain ⟨g1, g2, g3⟩ := along ec2.symm e2 e3' (j := d) (by omega)
          rw [g1] at hz
          cases hz
          exact ⟨k + d, g2, g3.symm⟩
        · exact q3 j z (by omega) hz hn
  | clash a b l m h1 h2 h3 => intro u i p k e; cases e
theorem un_clash {L M : List S} (hL : forest w L 1 = true) (hM : forest w M 1 = true) {l m : List S} {o : Option (List S)} (h : Un w l m o) : o = none → ∀ i p, L.drop i = l → M.drop p = m → stk w L i = stk w M p → ∃ (t : List Nat) (x y : S), x ≠ y ∧ x ≠ ("*" : S) ∧ y ≠ ("*" : S) ∧ InE w L t x ∧ InE w M t y := by
  induction h with
  | nil r => intro e; cases e
  | same a l m o h ih =>
    intro e i p e1 e2 es
    obtain ⟨_, _, _, b1, b2, b3⟩ := step_same hL hM e1 e2 es
    cases o with
    | none => exact ih rfl _ _ b1 b2 b3
    | some v => cases e
  | right t l m o ht h1 h ih =>
    intro e i p e1 e2 es
    cases o with
    | none =>
      obtain ⟨x1, x2⟩ := stk_skip hL _ _ _ _ e1 ht
      obtain ⟨_, m2, m3, st, m4, m5⟩ := stk_next hM e2
      have eM : stk w M (p + 1) = (stk w M p).drop 1 := by rw [m5, m4, w0]; rfl
      exact ih rfl _ _ x2 m3 (by rw [x1, eM, es])
    | some v => cases e
  | left t l m o ht h1 h ih =>
    intro e i p e1 e2 es
    cases o with
    | none =>
      obtain ⟨x1, x2⟩ := stk_skip hM _ _ _ _ e2 ht
      obtain ⟨_, m2, m3, st, m4, m5⟩ := stk_next hL e1
      have eL : stk w L (i + 1) = (stk w L i).drop 1 := by rw [m5, m4, w0]; rfl
      exact ih rfl _ _ m3 x2 (by rw [x1, eL, es])
    | some v => cases e
  | clash a b l m h1 h2 h3 =>
    intro _ i p e1 e2 es
    obtain ⟨_, a1, _, _, _, _⟩ := stk_next hL e1
    obtain ⟨_, b1, _, _, _, _⟩ := stk_next hM e2
    exact ⟨_, a, b, h1, h2, h3, ⟨i, a1, rfl⟩, ⟨p, b1, (pth_stk es).symm⟩⟩
/-- what a union is -/
structure Uni (w : S → Nat) (l m u : List S) : Prop where
  f : forest w u 1 = true
  b1 : Beg w l u
  b2 : Beg w m u
  k : ∀ p z, InE w u p z → InE w l p z ∨ InE w m p z
theorem un_some {l m u : List S} (hL : forest w l 1 = true) (hM : forest w m 1 = true) (h : Un w l m (some u)) : Uni w l m u := by
  have hU := un_forest w0 h u 1 rfl hL hM
  obtain ⟨q1, q2, q3⟩ := un_pos w0 hL hM hU h u 0 0 0 rfl rfl rfl rfl (Nat.zero_le _) (Nat.zero_le _) rfl rfl
  refine ⟨hU, ?_, ?_, ?_⟩
  · rintro p z hz ⟨i, hi, rfl⟩; exact q2 i z (Nat.zero_le _) hi hz
  · rintro p z hz ⟨i, hi, rfl⟩; exact q3 i z (Nat.zero_le _) hi hz
  · rintro p z ⟨i, hi, rfl⟩; exact q1 i z (Nat.zero_le _) hi
def Clash (w : S → Nat) (l m : List S) : Prop := ∃ (t : List Nat) (x y : S), x ≠ y ∧ x ≠ ("*" : S) ∧ y ≠ ("*" : S) ∧ InE w l t x ∧ InE w m t y
theorem un_none {l m : List S} (hL : forest w l 1 = true) (hM : forest w m 1 = true) (h : Un w l m none) : Clash w l m := un_clash w0 hL hM h rfl 0 0 rfl rfl rfl
omit w0 in
theorem Uni.noclash {l m u : List S} (h : Uni w l m u) : ¬ Clash w l m := fun ⟨t, x, y, h1, h2, h3, h4, h5⟩ => h1 (InE.fun h.f (h.b1 t x h2 h4) (h.b2 t y h3 h5))
omit w0 in
theorem Uni.le {l m u u' : List S} (h : Uni w l m u) (h' : Uni w l m u') : Beg w u u' := fun p z hz hi => by
  rcases h.k p z hi with x | x
  · exact h'.b1 p z hz x
  · exact h'.b2 p z hz x
omit w0 in
theorem Uni.swap {l m u : List S} (h : Uni w l m u) : Uni w m l u := ⟨h.f, h.b2, h.b1, fun p z hi => (h.k p z hi).symm⟩
omit w0 in
theorem Clash.swap {l m : List S} (h : Clash w l m) : Clash w m l := by
  obtain ⟨t, x, y, h1, h2, h3, h4, h5⟩ := h
  exact ⟨t, y, x, Ne.symm h1, h3, h2, h5, h4⟩
/-- in either order the same -/
theorem un_comm {l m : List S} {o o' : Option (List S)} (hL : forest w l 1 = true) (hM : forest w m 1 = true) (h : Un w l m o) (h' : Un w m l o') : o = o' := by
  cases o with
  | none =>
    cases o' with
    | none => rfl
    | some u' => exact absurd (un_none w0 hL hM h).swap (Uni.noclash (un_some w0 hM hL h'))
  | some u =>
    cases o' with
    | none => exact absurd (un_none w0 hM hL h') (Uni.noclash (un_some w0 hL hM h).swap)
    | some u' =>
      have a := un_some w0 hL hM h
      have b := (un_some w0 hM hL h').swap
      rw [Beg.eq w0 a.f b.f (Uni.le a b) (Uni.le b a)]
end
end Mth
end
section
set_option Elab.async false
set_option linter.all false
set_option maxRecDepth 100000
set_option maxHeartbeats 2000000
set_option autoImplicit false
namespace Mth
theorem nxs_inj {α : Type} (w : α → Nat) {l : List α} {i m a b : Nat} (h : Fst w l i m) (ha : a ≤ m) (hb : b ≤ m) (e : nxs w l i a = nxs w l i b) : a = b := by
  rcases Nat.lt_trichotomy a b with q | q | q
  · have := nxs_mono w h q hb
    omega
  · exact q
  · have := nxs_mono w h q ha
    omega
end Mth
namespace Sh
open PySem PySem.Spec PyProof.Rows L2
open C8 (pss_cut tCut)
open Evl (ixN_nat)
theorem units65 {k : Nat} {A : Around} (r : Room k A) : A.units + 65 < cLine := by have := r.un; omega
/-- a tuple of its own, followed -/
def Tp (H : Hp) (t : Addr) (xs : List V) : Prop := H t = some (.tup xs)
theorem Tp.q {H : Hp} {t : Addr} {xs : List V} (h : Tp H t xs) : Tq H t xs := .of h
theorem Tp.same {H H' : Hp} {t : Addr} {xs : List V} (h : Tp H t xs) (s : Same H H') : Tp H' t xs := s _ _ h
/-- such tuples stay -/
def TP (H H' : Hp) : Prop := ∀ t xs, Tp H t xs → Tp H' t xs
theorem TP.refl (H : Hp) : TP H H := fun _ _ h => h
theorem TP.trans {H H1 H2 : Hp} (x : TP H H1) (y : TP H1 H2) : TP H H2 := fun t xs h => y t xs (x t xs h)
theorem TP.of_same {H H' : Hp} (s : Same H H') : TP H H' := fun t xs h => s _ _ h
theorem TP.new {H : Hp} {p : Addr} {o : HO} (h : H p = none) : TP H (upd H p o) := fun t xs q => by
  show upd H p o t = _
  rw [upd_ne (ne_of_none q h)]
  exact q
theorem TP.lst {H : Hp} {p : Addr} {ys : List V} {o : HO} (h : H p = some (.lst ys)) : TP H (upd H p o) := fun t xs q => by
  show upd H p o t = _
  rw [upd_ne (ne_of q h (by intro e; cases e))]
  exact q
theorem TP.dt {H : Hp} {p : Addr} {kvs : List (List Key × V)} {o : HO} (h : H p = some (.dT kvs)) : TP H (upd H p o) := fun t xs q => by
  show upd H p o t = _
  rw [upd_ne (ne_of q h (by intro e; cases e))]
  exact q
theorem catP_of {K : PySem.W.Frag} {H : Hp} {a b : Addr} {xs ys : List V} {Q : VK} (ha : Tp H a xs) (hb : Tp H b ys) (hl : xs.length + ys.length ≤ 100000) (k : ∀ r H', Same H H' → Tp H' r (xs ++ ys) → Q (.ref r) H') : rCatA K (.ref a) (.ref b) H Q := by
  refine ⟨a, b, xs, ys, rfl, rfl, ha.q.sq, hb.q.sq, le_line hl, fun e => k b H (Same.refl H) (by rw [e]; exact hb), fun _ e => k a H (Same.refl H) (by rw [e, List.append_nil]; exact ha), fun _ _ p hp => k p _ ((Same.refl H).upd_new hp) upd_same⟩
/-- the j-th of the found paths -/
def Fnp (H : Hp) (fs : List Addr) (j : Nat) (p : List Nat) : Prop := ∃ t, fs[j]? = some t ∧ Tp H t (pV p)
theorem Fnp.keep {H H' : Hp} {fs : List Addr} {j : Nat} {p : List Nat} (x : Fnp H fs j p) (k : TP H H') : Fnp H' fs j p := by
  obtain ⟨t, a, b⟩ := x
  exact ⟨t, a, k _ _ b⟩
theorem Fnp.ne {H : Hp} {fs : List Addr} {j i : Nat} {c : Addr} {p : List Nat} (x : Fnp H fs j p) (h : i ≠ j) : Fnp H (fs.set i c) j p := by
  obtain ⟨t, a, b⟩ := x
  exact ⟨t, by rw [List.getElem?_set_ne h]; exact a, b⟩
/-- a list of paths -/
def PlAt (H : Hp) (D : Addr) (ps : List (List Nat)) : Prop := ∃ fs : List Addr, H D = some (.lst (fs.map V.ref)) ∧ fs.length = ps.length ∧ ∀ j (h : j < ps.length), Fnp H fs j ps[j]
theorem PlAt.same {H H' : Hp} {D : Addr} {ps : List (List Nat)} (x : PlAt H D ps) (s : Same H H') : PlAt H' D ps := by
  obtain ⟨fs, a, b, c⟩ := x
  exact ⟨fs, s _ _ a, b, fun j h => (c j h).keep (TP.of_same s)⟩
abbrev paths (rows : List Row) (l : List Str) : List (List Nat) := (List.range l.length).map (Mth.pth (wR rows) l)
def spLawStump : Sp := fun vs H Q _ => ∃ (t r : Addr) (rows : List Row) (l : List Str), vs = [.ref t, .ref r] ∧ RowsAt H r rows ∧ ROk 8 rows ∧ Tq H t (l.map V.str) ∧ StumpOk rows l ∧ Q (.bl true) H
def spLawPathsS : Sp := fun vs H Q _ => ∃ (r t : Addr) (rows : List Row) (l : List Str), vs = [.ref r, .ref t] ∧ RowsAt H r rows ∧ ROk 8 rows ∧ Tq H t (l.map V.str) ∧ WfOk rows l ∧ ∀ H' q, Same H H' → H q = none → PlAt H' q (paths rows l) → Q (.ref q) H'
theorem fl_none {f : Str → Option Nat} {w : Str → Nat} : ∀ (l : List Str) (n i : Nat), (∀ z ∈ l, f z = some (w z)) → Mth.forest w l n = true → fl f l n i = none
  | [], n, i, _, h => by rw [Mth.forest_nil w h]; rfl
  | z :: r, 0, i, _, h => absurd (Mth.forest_zero w h) (by simp)
  | z :: r, n + 1, i, hf, h => by
    have h2 : Mth.forest w r (w z + n) = true := h
    unfold fl
    rw [hf z List.mem_cons_self]
    show fl f r (n + w z) (i + 1) = none
    rw [Nat.add_comm n]
    exact fl_none r _ _ (fun y hy => hf y (List.mem_cons_of_mem _ hy)) h2
theorem okfault {rows : List Row} {l : List Str} (R : ROk 8 rows) (O : StumpOk rows l) : fault rows true l = none := by
  refine fl_none l 1 0 (fun z hz => ?_) O.f
  unfold wO
  by_cases e : z = "*"
  · rw [if_pos ⟨rfl, e⟩, e, w_star R]
  · rw [if_neg (fun q => e q.2)]
    rcases O.k z hz with q | q
    · exact absurd q e
    · have h2 := nm_of R q
      rw [if_neg (by omega)]
theorem okdue {rows : List Row} {l : List Str} (R : ROk 8 rows) (O : StumpOk rows l) : due rows true l = none := by
  unfold due
  rw [if_neg (by have := O.sz; omega), okfault R O]
  rfl
abbrev s_law_stump : Stmt := top 55
abbrev N_law_stump : List Str := ["told", "rows", "word"]
theorem sc_law_stump : FnScope N_law_stump ["told", "rows"] (defScope s_law_stump) := ⟨rfl, rfl, rfl, by decide +kernel, rfl, by decide +kernel, by decide +kernel⟩
abbrev s_law_paths : Stmt := top 56
abbrev N_law_paths : List Str := ["rows", "stump", "ends", "found", "place", "at", "k"]
theorem sc_law_paths : FnScope N_law_paths ["rows", "stump"] (defScope s_law_paths) := ⟨rfl, rfl, rfl, by decide +kernel, rfl, by decide +kernel, by decide +kernel⟩
section
variable {P : Program} {w : World} {K : PySem.W.Frag} {mg : Str → Option Value} {base : Heap} {C CT : Addr}
theorem ok_law_stump (T : Bk mg) (c_law_fault : DefOk P w K mg base CX0 2 "_law_fault" spLawFault) (D : Def0 K mg "_law_stump" s_law_stump) : DefOk P w K mg base CX0 3 "_law_stump" spLawStump := by
  refine D.ok sc_law_stump (fun vs H Q E h => ?_) (fun _ _ _ _ _ _ us hl => match us, hl with | [_, _], _ => rfl) (fun f cdv A outer s H vs Q E hr h => ?_)
  · obtain ⟨t, r, rows, l, rfl, _⟩ := h
    rfl
  · obtain ⟨t, r, rows, l, rfl, hR, R, ht, O, k⟩ := h
    have hsz := O.sz
    refine ⟨_, (pss_cons (ps_if (pt_not (pt_val (pe_callB call_isi (by rfl) T.b_isinstance (by decide +kernel) (pa_cons (pv 0) (pa_cons (pe_bltn (v := .ty "tuple") (by rfl) T.b_tuple boot_tuple rfl) pa_nil)))))
        (pss_one (ps_ret pe_bl))
        pss_nil)
      (pss_cons (ps_for PassesOwn.never rfl (pi_tup (pv 0)) (pg_name (i := 2) sc_law_stump.nd rfl (Or.inl rfl))
        (pss_one (ps_if (pt_not (pt_val (pe_callB call_isi (by rfl) T.b_isinstance (by decide +kernel) (pa_cons (pv 2) (pa_cons (pe_bltn (v := .ty "str") (by rfl) T.b_str boot_str rfl) pa_nil)))))
          (pss_one (ps_ret pe_bl))
          pss_nil)))
      (pss_one (ps_ret (pe_cmpR op_lt (pe_d c_law_fault (hr.mono (by decide)) pass0 (pa_cons (pv 1) (pa_cons (pv 0) (pa_cons pe_bl pa_nil)))) pe_int (nomark _)))))), ?_⟩
    refine ⟨_, rfl, _, _, _, _, true, rfl, .ty _, tyx_tup ht, rfl, _, rfl, ?_⟩
    refine ifn (by decide) ?_
    refine ⟨_, rfl, t, rfl, ⟨_, ht.sq⟩, for_it (walk_tup (xs := l.map V.str)) (fun i σ H' => ∃ (x : Option V), σ = [some (.ref t), some (.ref r), x] ∧ H' = H) ⟨none, rfl, rfl⟩ (fun i σ H' _ ⟨_, _, q⟩ => by rw [q]; exact ht.sq) ?_ ?_⟩
    · rintro i v σ H1 H2 hi ⟨x, rfl, rfl⟩ ⟨rfl, hv⟩
      obtain ⟨z, _, rfl⟩ := get_map hv
      refine ⟨_, rfl, _, _, _, _, true, rfl, .ty _, .base (.str _), rfl, _, rfl, ?_⟩
      refine ifn (by decide) ?_
      exact ⟨_, rfl, rfl⟩
    · rintro σ H1 ⟨x, rfl, rfl⟩
      refine ⟨_, rfl, _, rfl, r, t, rows, l, true, rfl, hR, R, ht, by omega, _, _, rfl, rfl, ?_⟩
      rw [okfault R O]
      exact k
theorem ok_law_paths (T : Bk mg) (c_law_number : DefOk P w K mg base CX0 1 "_law_number" spNumber) (c_law_ends : DefOk P w K mg base CX0 2 "_law_ends" spLawEnds) (D : Def0 K mg "_law_paths" s_law_paths) : DefOk P w K mg base CX0 3 "_law_paths" spLawPathsS := by
  refine D.ok sc_law_paths (fun vs H Q E h => ?_) (fun _ _ _ _ _ _ us hl => match us, hl with | [_, _], _ => rfl) (fun f cdv A outer s H vs Q E hr h => ?_)
  · obtain ⟨r, t, rows, l, rfl, _⟩ := h
    rfl
  · obtain ⟨r, t, rows, l, rfl, hR, R, ht, O, k⟩ := h
    have hsz := O.sz
    have hpos : 0 < l.length := List.length_pos_iff.mpr (Mth.forest_pos _ O.f)
    refine ⟨_, (pss_cons (ps_set (i := 2) sc_law_paths.nd rfl (Or.inl rfl) (pe_d c_law_ends (hr.mono (by decide)) pass0 (pa_cons (pv 0) (pa_cons (pv 1) pa_nil))))
      (pss_cons (ps_set (i := 3) sc_law_paths.nd rfl (Or.inl rfl) (pe_op op_rep (pe_lst (pa_cons (pe_tup pa_nil) pa_nil)) (pe_callB call_len_seq (by rfl) T.b_len boot_len (pa_cons (pv 1) pa_nil))))
      (pss_cons (ps_for PassesOwn.never rfl (pi_range1 (by rfl) T.b_range (pa_cons (pe_callB call_len_seq (by rfl) T.b_len boot_len (pa_cons (pv 1) pa_nil)) pa_nil)) (pg_name (i := 4) sc_law_paths.nd rfl (Or.inl rfl))
        (pss_cons (ps_set (i := 5) sc_law_paths.nd rfl (Or.inl rfl) (pe_op op_add (pv 4) pe_int))
        (pss_one (ps_for PassesOwn.never rfl (pi_range1 (by rfl) T.b_range (pa_cons (pe_d c_law_number (hr.mono (by decide)) pass0 (pa_cons (pv 0) (pa_cons (pe_ix ix_tup (pv 1) (pv 4) (fun _ _ => rfl)) pa_nil))) pa_nil)) (pg_name (i := 6) sc_law_paths.nd rfl (Or.inl rfl))
          (pss_cons (ps_asg (pe_op op_catA (pe_ix ix_list (pv 3) (pv 4) (fun _ _ => rfl)) (pe_tup (pa_cons (pv 6) pa_nil))) (pg_sub (pv 3) (pv 5) set_list))
          (pss_one (ps_set (i := 5) sc_law_paths.nd rfl (Or.inl rfl) (pe_ix ix_list (pv 2) (pv 5) (fun _ _ => rfl)))))))))
      (pss_one (ps_ret (pv 3)))))), ?_⟩
    refine ⟨_, rfl, _, rfl, r, t, rows, l, rfl, hR, R, ht, O, fun H0 e s0 _ he => ?_⟩
    refine ⟨le_line (show 0 ≤ 100000 by decide), fun e0 he0 => ?_⟩
    have s1 := s0.upd_new (o := .tup []) he0
    have he1 : EndsAt (upd H0 e0 (.tup [])) e rows l := by
      show upd H0 e0 (.tup []) e = _
      rw [upd_ne (ne_of_none he he0)]
      exact he
    refine ⟨le_line (show 1 ≤ 100000 by decide), fun L hL => ?_⟩
    have s2 := s1.upd_new (o := .lst [.ref e0]) hL
    have he2 : EndsAt (upd (upd H0 e0 (.tup [])) L (.lst [.ref e0])) e rows l := by
      show upd (upd H0 e0 (.tup [])) L (.lst [.ref e0]) e = _
      rw [upd_ne (ne_of_none he1 hL)]
      exact he1
    refine ⟨_, rfl, t, _, rfl, .inr (ht.same s2).sq, _, _, _, rfl, rfl, upd_same, by omega, by rw [List.length_map]; omega, by rw [List.length_map, Int.toNat_natCast]; exact le_line (show 1 * l.length ≤ 100000 by omega), fun D hD => ?_⟩
    have hDn : H D = none := by
      cases z : H D with
      | none => rfl
      | some o => rw [s2 _ _ z] at hD; cases hD
    have hE : Tp (upd (upd H0 e0 (.tup [])) L (.lst [.ref e0])) e0 [] := TP.new hL _ _ (show upd H0 e0 (.tup []) e0 = _ from upd_same)
    have e1 : (List.replicate (((l.map V.str).length : Nat) : Int).toNat [V.ref e0]).flatten = (List.replicate l.length e0).map V.ref := by
      rw [List.length_map, Int.toNat_natCast, List.map_replicate, List.flatten_replicate_singleton]
    rw [e1]
    have s3 := s2.upd_new (o := .lst ((List.replicate l.length e0).map V.ref)) hD
    have hE3 := TP.new (o := .lst ((List.replicate l.length e0).map V.ref)) hD _ _ hE
    have neD : e ≠ D := ne_of_none he2 hD
    have he3 : EndsAt (upd (upd (upd H0 e0 (.tup [])) L (.lst [.ref e0])) D (.lst ((List.replicate l.length e0).map V.ref))) e rows l := by
      show upd _ D _ e = _
      rw [upd_ne neD]
      exact he2
    refine ⟨_, rfl, t, _, rfl, .inr (ht.same s3).sq, _, rfl, by rw [List.length_map]; omega, by rw [List.length_map]; omega, ?_⟩
    rw [show (((l.map V.str).length : Nat) : Int).toNat = l.length by rw [List.length_map, Int.toNat_natCast]]
    refine for_range (fun i σ H' => ∃ (x y z : Option V) (fs : List Addr), σ = [some (.ref r), some (.ref t), some (.ref e), some (.ref D), x, y, z] ∧ Same H H' ∧ H' D = some (.lst (fs.map V.ref)) ∧ EndsAt H' e rows l ∧ fs.length = l.length ∧
      (∀ j, j < i → Fnp H' fs j (Mth.pth (wR rows) l j)) ∧ ∀ c p, (Mth.stk (wR rows) l i)[c]? = some p → Fnp H' fs (Mth.nxs (wR rows) l i c) p) ?_ ?_ ?_
    · refine ⟨none, none, none, _, rfl, s3, upd_same, he3, List.length_replicate, fun j h => absurd h (Nat.not_lt_zero _), fun c p h => ?_⟩
      have hc : c = 0 := by
        have := lt_of_get h
        change c < 1 at this
        omega
      subst hc
      cases h
      rw [Mth.nxs_zero _ (Nat.zero_le _)]
      exact ⟨e0, by rw [List.getElem?_replicate, if_pos hpos], hE3⟩
    · rintro p σ H2 hp ⟨x, y, z, fs, rfl, s4, p2, he4, fl, f1, f2⟩
      have ez : (0 : Int) + ((p : Nat) : Int) = ((p : Nat) : Int) := by omega
      rw [ez]
      obtain ⟨st, st1, st2⟩ := Mth.stk_step (wR rows) O.f hp
      have F := Mth.stk_len (wR rows) O.f (p + 1) hp
      have hk : l[p]? = some l[p] := List.getElem?_eq_getElem hp
      have hw3 := wR_le R l[p]
      have hnn := nm_nat R l[p]
      have hlo : -1 ≤ nmO rows l[p] ∧ nmO rows l[p] ≤ 3 := by rcases nm_case R l[p] with q | q <;> omega
      have hfp : Fnp H2 fs p (Mth.pth (wR rows) l p) := by
        have q := f2 0 _ (by rw [st1]; rfl)
        rw [Mth.nxs_zero _ (Nat.le_of_lt hp)] at q
        exact q
      have hlen : (Mth.stk (wR rows) l (p + 1)).length = wR rows l[p] + st.length := by rw [st2, List.length_append, Mth.kids_len]
      refine ⟨_, rfl, _, _, rfl, rfl, ?_⟩
      refine ⟨_, rfl, _, rfl, _, rfl, t, _, _, _, rfl, rfl, (ht.same s4).sq, str_at hp rfl, r, rows, l[p], rfl, hR.same s4, R, _, rfl, (show -(2 ^ 62) ≤ nmO rows l[p] by omega), (show nmO rows l[p] < 2 ^ 62 by omega), ?_⟩
      rw [hnn]
      refine for_range (fun c σ H' => ∃ (z : Option V) (fs : List Addr), σ = [some (.ref r), some (.ref t), some (.ref e), some (.ref D), some (.int ((p : Nat) : Int)), some (.int ((Mth.nxs (wR rows) l (p + 1) c : Nat) : Int)), z] ∧ Same H H' ∧ H' D = some (.lst (fs.map V.ref)) ∧ EndsAt H' e rows l ∧ fs.length = l.length ∧
        (∀ j, j < p + 1 → Fnp H' fs j (Mth.pth (wR rows) l j)) ∧ ∀ c' q, (Mth.stk (wR rows) l (p + 1))[c']? = some q → (c' < c ∨ wR rows l[p] ≤ c') → Fnp H' fs (Mth.nxs (wR rows) l (p + 1) c') q) ?_ ?_ ?_
      · refine ⟨z, fs, ?_, s4, p2, he4, fl, fun j h => ?_, fun c' q h1 h2 => ?_⟩
        · rw [Mth.nxs_zero _ hp]
          rfl
        · rcases Nat.lt_or_ge j p with h | h
          · exact f1 j h
          · have e : j = p := by omega
            subst e
            exact hfp
        · have h3 : wR rows l[p] ≤ c' := by omega
          rw [st2, List.getElem?_append_right (by rw [Mth.kids_len]; exact h3), Mth.kids_len] at h1
          have q1 := f2 (c' - wR rows l[p] + 1) q (by rw [st1]; exact h1)
          rw [Mth.nxs_in _ (m := 0) hk, show wR rows l[p] + (c' - wR rows l[p]) = c' by omega] at q1
          exact q1
      · rintro c σ H3 hc ⟨z, fs, rfl, s5, p3, he5, fl3, g1, g2⟩
        obtain ⟨m1, m2, m3⟩ := Mth.end_step (wR rows) O.f hk hc
        obtain ⟨u, u1, u2⟩ := g1 p (Nat.lt_succ_self p)
        have hdep := Mth.pth_dep (wR rows) O.f hp
        refine ⟨_, rfl, _, rfl, D, _, _, _, rfl, rfl, SqL.of p3, at_ofG (j := p) rfl (by rw [List.getElem?_map, u1]; rfl), _, rfl, le_line (show 1 ≤ 100000 by decide), fun v hv => ?_⟩
        refine catP_of (TP.new hv _ _ u2) (show upd H3 v _ v = _ from upd_same) (by unfold pV; rw [List.length_map, List.length_singleton]; omega) (fun b H4 s6 hb => ?_)
        have s7 := ((Same.refl H3).upd_new (o := .tup [.int (0 + ((c : Nat) : Int))]) hv).trans s6
        have tk : TP H3 (upd H4 D (.lst ((fs.map V.ref).set (Mth.nxs (wR rows) l (p + 1) c) (.ref b)))) := (TP.of_same s7).trans (TP.lst (s7 _ _ p3))
        refine ⟨_, rfl, _, rfl, D, _, _, _, rfl, rfl, s7 _ _ p3, ixz (by rw [List.length_map, fl3]; exact m1) rfl, ?_⟩
        have s8 : Same H (upd H4 D (.lst ((fs.map V.ref).set (Mth.nxs (wR rows) l (p + 1) c) (.ref b)))) := (s5.trans s7).upd_own hDn
        have he8 : EndsAt (upd H4 D (.lst ((fs.map V.ref).set (Mth.nxs (wR rows) l (p + 1) c) (.ref b)))) e rows l := by
          show upd H4 D _ e = _
          rw [upd_ne neD]
          exact s7 _ _ he5
        refine ⟨_, rfl, _, rfl, e, _, _, _, rfl, rfl, SqL.of he8, int_at (Mth.ends_get (wR rows) m1) rfl, ?_⟩
        rw [m3]
        refine ⟨_, fs.set (Mth.nxs (wR rows) l (p + 1) c) b, rfl, s8, by rw [upd_same, List.map_set], he8, by rw [List.length_set]; exact fl3, fun j h => ?_, fun c' q h1 h2 => ?_⟩
        · exact ((g1 j h).keep tk).ne (by omega)
        · by_cases ec : c' = c
          · subst ec
            rw [st2, List.getElem?_append_left (by rw [Mth.kids_len]; exact hc), Mth.kids_get hc] at h1
            cases h1
            refine ⟨b, List.getElem?_set_self (by omega), TP.lst (s7 _ _ p3) _ _ ?_⟩
            have hb2 := hb
            rw [show (0 : Int) + ((c' : Nat) : Int) = ((c' : Nat) : Int) by omega] at hb2
            unfold pV at hb2 ⊢
            rw [List.map_append]
            exact hb2
          · have hc' := lt_of_get h1
            refine ((g2 c' q h1 (by omega)).keep tk).ne fun e => ec ?_
            exact (Mth.nxs_inj (wR rows) F (by omega) (by omega) e).symm
      · rintro σ H3 ⟨z, fs, rfl, s5, p3, he5, fl3, g1, g2⟩
        refine ⟨_, _, _, fs, rfl, s5, p3, he5, fl3, g1, fun c q h => g2 c q h (by omega)⟩
    · rintro σ H2 ⟨x, y, z, fs, rfl, s4, p2, he4, fl, f1, f2⟩
      refine ⟨_, rfl, k _ D s4 hDn ⟨fs, p2, by rw [fl, List.length_map, List.length_range], fun j hj => ?_⟩⟩
      rw [List.length_map, List.length_range] at hj
      rw [List.getElem_map, List.getElem_range]
      exact f1 j hj
end
end Sh
end
section
set_option Elab.async false
set_option linter.all false
set_option maxRecDepth 100000
set_option maxHeartbeats 2000000
set_option autoImplicit false
namespace Sh
open PySem PySem.Spec PyProof.Rows L2
open C8 (pss_cut tCut)
open Evl (ixN_nat)
def pk (p : List Nat) : List Key := p.map fun n => Sum.inl ((n : Nat) : Int)
theorem pk_kV (p : List Nat) : (pk p).map kV = pV p := by
  unfold pk pV
  rw [List.map_map]
  rfl
theorem pk_inj {p q : List Nat} (h : pk p = pk q) : p = q := by
  unfold pk at h
  refine List.map_inj_right (fun a b e => ?_) |>.mp h
  exact Int.ofNat.inj (Sum.inl.inj e)
theorem upd_back {H : Hp} {d : Addr} {o u : HO} (h : H d = some u) : upd (upd H d o) d u = H := by
  funext b
  by_cases e : b = d
  · rw [e, upd_same, h]
  · rw [upd_ne e, upd_ne e]
/-- the kinds by path, of the first i places -/
def InB (w : Str → Nat) (l : List Str) (i : Nat) (p : List Nat) (z : Str) : Prop := ∃ j, j < i ∧ l[j]? = some z ∧ Mth.pth w l j = p
structure KdB (w : Str → Nat) (l : List Str) (i : Nat) (kvs : List (List Key × V)) : Prop where
  le : kvs.length ≤ i
  v : ∀ p x, valV kvs (pk p) = some x ↔ ∃ z : Str, x = .str z ∧ z ≠ "*" ∧ InB w l i p z
  m : ∀ kv ∈ kvs, ∃ p z, kv = (pk p, V.str z) ∧ z ≠ "*" ∧ InB w l i p z
structure Kd (w : Str → Nat) (l : List Str) (kvs : List (List Key × V)) : Prop where
  le : kvs.length ≤ l.length
  v : ∀ p x, valV kvs (pk p) = some x ↔ ∃ z : Str, x = .str z ∧ z ≠ "*" ∧ Mth.InE w l p z
  m : ∀ kv ∈ kvs, ∃ p z, kv = (pk p, V.str z) ∧ z ≠ "*" ∧ Mth.InE w l p z
theorem InB.all {w : Str → Nat} {l : List Str} {p : List Nat} {z : Str} : InB w l l.length p z ↔ Mth.InE w l p z :=
  ⟨fun ⟨j, _, a, b⟩ => ⟨j, a, b⟩, fun ⟨j, a, b⟩ => ⟨j, (List.getElem?_eq_some_iff.mp a).1, a, b⟩⟩
theorem KdB.all {w : Str → Nat} {l : List Str} {kvs : List (List Key × V)} (h : KdB w l l.length kvs) : Kd w l kvs :=
  ⟨h.le, fun p x => (h.v p x).trans ⟨fun ⟨z, a, b, c⟩ => ⟨z, a, b, InB.all.mp c⟩, fun ⟨z, a, b, c⟩ => ⟨z, a, b, InB.all.mpr c⟩⟩, fun kv hk => by
    obtain ⟨p, z, a, b, c⟩ := h.m kv hk
    exact ⟨p, z, a, b, InB.all.mp c⟩⟩
theorem KdB.skip {w : Str → Nat} {l : List Str} {i : Nat} {kvs : List (List Key × V)} (h : KdB w l i kvs) (e : l[i]? = some ("*" : Str)) : KdB w l (i + 1) kvs := by
  have q : ∀ p z, z ≠ ("*" : Str) → (InB w l (i + 1) p z ↔ InB w l i p z) := fun p z hz => ⟨fun ⟨j, a, b, c⟩ => by
    rcases Nat.lt_succ_iff_lt_or_eq.mp a with x | x
    · exact ⟨j, x, b, c⟩
    · rw [x, e] at b
      exact absurd (Option.some.inj b).symm hz, fun ⟨j, a, b, c⟩ => ⟨j, Nat.lt_succ_of_lt a, b, c⟩⟩
  exact ⟨Nat.le_succ_of_le h.le, fun p x => (h.v p x).trans ⟨fun ⟨z, a, b, c⟩ => ⟨z, a, b, (q p z b).mpr c⟩, fun ⟨z, a, b, c⟩ => ⟨z, a, b, (q p z b).mp c⟩⟩, fun kv hk => by
    obtain ⟨p, z, a, b, c⟩ := h.m kv hk
    exact ⟨p, z, a, b, (q p z b).mpr c⟩⟩
theorem KdB.put {w : Str → Nat} {l : List Str} (f : Mth.forest w l 1 = true) {i : Nat} {z : Str} {kvs : List (List Key × V)} (h : KdB w l i kvs) (e : l[i]? = some z) (hz : z ≠ "*") : KdB w l (i + 1) (putK kvs (pk (Mth.pth w l i)) (.str z)) := by
  have hi := (List.getElem?_eq_some_iff.mp e).1
  have fresh : valV kvs (pk (Mth.pth w l i)) = none := by
    cases hq : valV kvs (pk (Mth.pth w l i)) with
    | none => rfl
    | some x =>
      obtain ⟨y, _, _, j, a, b, c⟩ := (h.v _ _).mp hq
      have := Mth.InE.inj f (List.getElem?_eq_some_iff.mp b).1 hi c
      omega
  refine ⟨?_, fun p x => ?_, fun kv hk => ?_⟩
  · rw [putK_new _ fresh, List.length_append, List.length_singleton]
    have := h.le
    omega
  · rw [valV_put]
    by_cases ep : pk p = pk (Mth.pth w l i)
    · rw [if_pos ep]
      have ep := pk_inj ep
      refine ⟨fun q => ⟨z, (Option.some.inj q).symm, hz, i, Nat.lt_succ_self i, e, ep.symm⟩, fun ⟨y, a, b, j, c, d, g⟩ => ?_⟩
      have := Mth.InE.inj f (List.getElem?_eq_some_iff.mp d).1 hi (g.trans ep)
      subst this
      rw [e] at d
      rw [a, Option.some.inj d]
    · rw [if_neg ep, h.v p x]
      refine ⟨fun ⟨y, a, b, j, c, d, g⟩ => ⟨y, a, b, j, Nat.lt_succ_of_lt c, d, g⟩, fun ⟨y, a, b, j, c, d, g⟩ => ⟨y, a, b, j, ?_, d, g⟩⟩
      rcases Nat.lt_succ_iff_lt_or_eq.mp c with q | q
      · exact q
      · subst q
        exact absurd (congrArg pk g.symm) ep
  · rw [putK_new _ fresh] at hk
    rcases List.mem_append.mp hk with q | q
    · obtain ⟨p, y, a, b, j, c, d, g⟩ := h.m kv q
      exact ⟨p, y, a, b, j, Nat.lt_succ_of_lt c, d, g⟩
    · rw [List.mem_singleton.mp q]
      exact ⟨_, z, rfl, hz, i, Nat.lt_succ_self i, e, rfl⟩
def KdAt (H : Hp) (D : Addr) (rows : List Row) (l : List Str) : Prop := ∃ kvs, H D = some (.dT kvs) ∧ Kd (wR rows) l kvs
theorem KdAt.same {H H' : Hp} {D : Addr} {rows : List Row} {l : List Str} (x : KdAt H D rows l) (s : Same H H') : KdAt H' D rows l := by
  obtain ⟨kvs, a, b⟩ := x
  exact ⟨kvs, s _ _ a, b⟩
def spLawKinds : Sp := fun vs H Q _ => ∃ (r t : Addr) (rows : List Row) (l : List Str), vs = [.ref r, .ref t] ∧ RowsAt H r rows ∧ ROk 8 rows ∧ Tq H t (l.map V.str) ∧ WfOk rows l ∧ ∀ H' q, Same H H' → H q = none → KdAt H' q rows l → Q (.ref q) H'
def spLawBegun : Sp := fun vs H Q _ => ∃ (a b : Addr) (rows : List Row) (l m : List Str), vs = [.ref a, .ref b] ∧ a ≠ b ∧ KdAt H a rows l ∧ KdAt H b rows m ∧ WfOk rows l ∧ WfOk rows m ∧ (Mth.Beg (wR rows) l m → Q (.bl true) H) ∧ (¬ Mth.Beg (wR rows) l m → Q (.bl false) H)
def hpaths (rows : List Row) (l : List Str) : List (List Nat) := (Mth.hps ("*" : Str) l).map (Mth.pth (wR rows) l)
def spLawHoles : Sp := fun vs H Q _ => ∃ (r t : Addr) (rows : List Row) (l : List Str), vs = [.ref r, .ref t] ∧ RowsAt H r rows ∧ ROk 8 rows ∧ Tq H t (l.map V.str) ∧ WfOk rows l ∧ ∀ H' q, Same H H' → H q = none → PlAt H' q (hpaths rows l) → Q (.ref q) H'
abbrev s_law_kinds : Stmt := top 57
abbrev N_law_kinds : List Str := ["rows", "stump", "found", "kinds", "place"]
theorem sc_law_kinds : FnScope N_law_kinds ["rows", "stump"] (defScope s_law_kinds) := ⟨rfl, rfl, rfl, by decide +kernel, rfl, by decide +kernel, by decide +kernel⟩
abbrev s_law_is_begun : Stmt := top 58
abbrev N_law_is_begun : List Str := ["kinds", "kinds2", "path"]
theorem sc_law_is_begun : FnScope N_law_is_begun ["kinds", "kinds2"] (defScope s_law_is_begun) := ⟨rfl, rfl, rfl, by decide +kernel, rfl, by decide +kernel, by decide +kernel⟩
section
variable {P : Program} {w : World} {K : PySem.W.Frag} {mg : Str → Option Value} {base : Heap} {C CT : Addr}
theorem ok_law_kinds (T : Bk mg) (c_law_paths : DefOk P w K mg base CX0 3 "_law_paths" spLawPathsS) (D : Def0 K mg "_law_kinds" s_law_kinds) : DefOk P w K mg base CX0 4 "_law_kinds" spLawKinds := by
  refine D.ok sc_law_kinds (fun vs H Q E h => ?_) (fun _ _ _ _ _ _ us hl => match us, hl with | [_, _], _ => rfl) (fun f cdv A outer s H vs Q E hr h => ?_)
  · obtain ⟨r, t, rows, l, rfl, _⟩ := h
    rfl
  · obtain ⟨r, t, rows, l, rfl, hR, R, ht, O, k⟩ := h
    have hsz := O.sz
    have hu := hu_of hr
    refine ⟨_, (pss_cons (ps_set (i := 2) sc_law_kinds.nd rfl (Or.inl rfl) (pe_d c_law_paths (hr.mono (by decide)) pass0 (pa_cons (pv 0) (pa_cons (pv 1) pa_nil))))
      (pss_cons (ps_set (i := 3) sc_law_kinds.nd rfl (Or.inl rfl) pe_dnewT)
      (pss_cons (ps_for PassesOwn.never rfl (pi_range1 (by rfl) T.b_range (pa_cons (pe_callB call_len_seq (by rfl) T.b_len boot_len (pa_cons (pv 1) pa_nil)) pa_nil)) (pg_name (i := 4) sc_law_kinds.nd rfl (Or.inl rfl))
        (pss_one (ps_if (pt_cmpR op_ne (pe_ix ix_tup (pv 1) (pv 4) (fun _ _ => rfl)) pe_str (nomark _))
          (pss_one (ps_dput hu (pv 3) (pe_ix ix_list (pv 2) (pv 4) (fun _ _ => rfl)) (pe_ix ix_tup (pv 1) (pv 4) (fun _ _ => rfl)) rfl))
          pss_nil)))
      (pss_one (ps_ret (pv 3)))))), ?_⟩
    refine ⟨_, rfl, _, rfl, r, t, rows, l, rfl, hR, R, ht, O, fun H1 D s1 hDN hP => ?_⟩
    intro G hG
    have s2 := s1.upd_new (o := .dT []) hG
    have hGN : H G = none := by
      cases z : H G with
      | none => rfl
      | some o => rw [s1 _ _ z] at hG; cases hG
    obtain ⟨fs, p1, p2, p3⟩ := hP
    have nDG : D ≠ G := ne_of_none p1 hG
    refine ⟨_, rfl, t, _, rfl, .inr (ht.same s2).sq, _, rfl, by rw [List.length_map]; omega, by rw [List.length_map]; omega, ?_⟩
    rw [show (((l.map V.str).length : Nat) : Int).toNat = l.length by rw [List.length_map, Int.toNat_natCast]]
    refine for_range (fun i σ H' => ∃ (x : Option V) (kvs : List (List Key × V)), σ = [some (.ref r), some (.ref t), some (.ref D), some (.ref G), x] ∧ Same H H' ∧ TP H1 H' ∧ H' D = some (.lst (fs.map V.ref)) ∧ H' G = some (.dT kvs) ∧ KdB (wR rows) l i kvs) ?_ ?_ ?_
    · exact ⟨none, [], rfl, s2, TP.new hG, by rw [upd_ne nDG]; exact p1, upd_same, Nat.le_refl _, fun p x => ⟨fun h => (nomatch h), fun ⟨_, _, _, j, h, _⟩ => absurd h (Nat.not_lt_zero j)⟩, fun _ h => nomatch h⟩
    · rintro i σ H2 hi ⟨x, kvs, rfl, s3, tp, d3, g3, hk⟩
      have ez : (0 : Int) + ((i : Nat) : Int) = ((i : Nat) : Int) := by omega
      rw [ez]
      refine ⟨_, rfl, _, rfl, t, _, _, _, rfl, rfl, (ht.same s3).sq, str_at hi rfl, rfl, _, rfl, ?_⟩
      have hk0 : l[i]? = some l[i] := List.getElem?_eq_getElem hi
      by_cases c : l[i] = "*"
      · refine ifn (by simp [c]) ?_
        exact ⟨_, kvs, rfl, s3, tp, d3, g3, hk.skip (by rw [hk0, c])⟩
      · refine ifp (by simp [c]) ?_
        obtain ⟨u, u1, u2⟩ := p3 i (by rw [List.length_map, List.length_range]; exact hi)
        rw [List.getElem_map, List.getElem_range] at u2
        have hb : H2 u = some (.tup ((pk (Mth.pth (wR rows) l i)).map kV)) := by
          rw [pk_kV]
          exact tp _ _ u2
        have hle := hk.le
        refine ⟨_, rfl, _, rfl, t, _, _, _, rfl, rfl, (ht.same s3).sq, str_at hi rfl, _, rfl, _, rfl, _, rfl, D, _, _, _, rfl, rfl, SqL.of d3, at_ofG (j := i) rfl (by rw [List.getElem?_map, u1]; rfl), G, _, rfl, DPut.t g3 hb (lt_line (by omega)), ?_⟩
        exact ⟨_, _, rfl, s3.upd_own hGN, tp.trans (TP.dt g3), by rw [upd_ne nDG]; exact d3, upd_same, hk.put O.f hk0 c⟩
    · rintro σ H2 ⟨x, kvs, rfl, s3, tp, d3, g3, hk⟩
      exact ⟨_, rfl, k _ G s3 hGN ⟨kvs, g3, hk.all⟩⟩
theorem ok_law_is_begun (T : Bk mg) (D : Def0 K mg "_law_is_begun" s_law_is_begun) : DefOk P w K mg base CX0 1 "_law_is_begun" spLawBegun := by
  refine D.ok sc_law_is_begun (fun vs H Q E h => ?_) (fun _ _ _ _ _ _ us hl => match us, hl with | [_, _], _ => rfl) (fun f cdv A outer s H vs Q E hr h => ?_)
  · obtain ⟨a, b, rows, l, m, rfl, _⟩ := h
    rfl
  · obtain ⟨a, b, rows, l, m, rfl, nab, ⟨kvs, ha, hk⟩, ⟨kvs2, hb, hk2⟩, O, O2, k1, k2⟩ := h
    have hu := hu_of hr
    refine ⟨_, (pss_cons (ps_lock (ps_for PassesOwn.never rfl (pi_keys (pv 0)) (pg_name (i := 2) sc_law_is_begun.nd rfl (Or.inl rfl))
        (pss_one (ps_if (pt_cmpR op_ne (pe_dget2 hu (pv 1) (pv 2) pe_str ⟨rfl, rfl, rfl, rfl⟩) (pe_dget hu (pv 0) (pv 2) (fun _ _ => rfl)) (nomark _))
          (pss_one (ps_ret pe_bl))
          pss_nil))))
      (pss_one (ps_ret pe_bl))), ?_⟩
    refine ⟨a, _, ha, trivial, fun od => ?_⟩
    have hb1 : (upd H a (.frz od (.dT kvs))) b = some (.dT kvs2) := by rw [upd_ne (Ne.symm nab)]; exact hb
    refine ⟨_, rfl, a, od, rfl, .inr ⟨kvs, upd_same, for_it walk_keysT (fun i σ H' => ∃ (x : Option V), σ = [some (.ref a), some (.ref b), x] ∧ H' = upd H a (.frz od (.dT kvs)) ∧ ∀ kv ∈ kvs.take i, valV kvs2 kv.1 = some kv.2) ⟨none, rfl, rfl, fun _ h => by simp at h⟩ (fun i σ H' _ ⟨_, _, q, _⟩ => by rw [q]; exact upd_same) ?_ ?_⟩⟩
    · rintro i v σ H1 H2 hi ⟨x, rfl, rfl, hb2⟩ ⟨rfl, kk, vv, q, e1, rfl, hq⟩
      obtain ⟨p, z, ekv, hz, hin⟩ := hk.m (kk, vv) (List.mem_of_getElem? e1)
      injection ekv with e2 e3
      subst e2
      subst e3
      have hval : valV kvs (pk p) = some (.str z) := (hk.v p _).mpr ⟨z, rfl, hz, hin⟩
      obtain ⟨y, hy, hy2⟩ : ∃ y : Str, (valV kvs2 (pk p)).getD (.str "*") = .str y ∧ (y ≠ "*" → valV kvs2 (pk p) = some (.str y)) := by
        cases hv : valV kvs2 (pk p) with
        | none => exact ⟨"*", rfl, fun n => absurd rfl n⟩
        | some xx =>
          obtain ⟨y, e, _, _⟩ := (hk2.v p xx).mp hv
          rw [e]
          exact ⟨y, rfl, fun _ => rfl⟩
      refine ⟨_, rfl, b, rfl, .inr ⟨_, .inl hb1⟩, _, rfl, _, DGet.t hb1 hq, ?_⟩
      rw [hy]
      refine ⟨_, rfl, _, rfl, a, .str z, rfl, .inr ⟨kvs, pk p, q, .inr ⟨od, upd_same⟩, rfl, hq, hval.symm⟩, rfl, _, rfl, ?_⟩
      by_cases c : y = z
      · refine ifn (by simp [c]) ?_
        refine ⟨_, rfl, rfl, fun kv hkv => ?_⟩
        rw [List.take_add_one, e1] at hkv
        rcases List.mem_append.mp hkv with y | y
        · exact hb2 kv y
        · rw [List.mem_singleton.mp y]
          rw [← c]
          exact hy2 (by rw [c]; exact hz)
      · refine ifp (by simp [c]) ?_
        refine ⟨upd_same, ?_⟩
        rw [upd_back ha]
        refine k2 fun hB => c ?_
        have := (hk2.v p (.str z)).mpr ⟨z, rfl, hz, hB p z hz hin⟩
        rw [this] at hy
        exact (V.str.inj hy).symm
    · rintro σ H1 ⟨x, rfl, rfl, hb2⟩
      refine ⟨upd_same, ?_⟩
      rw [upd_back ha]
      rw [List.take_length] at hb2
      refine k1 fun p z hz hin => ?_
      have hval : valV kvs (pk p) = some (.str z) := (hk.v p _).mpr ⟨z, rfl, hz, hin⟩
      unfold valV at hval
      obtain ⟨kv, h1, h2⟩ := Option.map_eq_some_iff.mp hval
      have h3 := List.find?_some h1
      have h4 := hb2 kv (List.mem_of_find?_eq_some h1)
      rw [of_decide_eq_true h3, h2] at h4
      obtain ⟨y, e, _, h5⟩ := (hk2.v p _).mp h4
      rw [V.str.inj e]
      exact h5
end
end Sh
end
section
set_option Elab.async false
set_option linter.all false
set_option maxRecDepth 100000
set_option maxHeartbeats 2000000
set_option autoImplicit false
namespace Sh
open PySem PySem.Spec PyProof.Rows L2
open C8 (pss_cut tCut)
open Evl (ixN_nat)
def pD (p : List Nat) : PyData := .tuple (p.map fun n => .int ((n : Nat) : Int))
theorem dp_ints {K : PySem.W.Frag} {H : Hp} : ∀ p : List Nat, DpAll K H (pV p) (p.map fun n => PyData.int ((n : Nat) : Int))
  | [] => .nil
  | _ :: p => .cons (.int _) (dp_ints p)
theorem dp_path {K : PySem.W.Frag} {H : Hp} {a : Addr} {p : List Nat} (h : Tq H a (pV p)) : Dp K H (.ref a) (pD p) := .tup h.sq (dp_ints p)
theorem lay_ints : ∀ p : List Nat, PyData.canLayAll0 (p.map fun n => PyData.int ((n : Nat) : Int)) = true
  | [] => rfl
  | a :: p => by
    show (true && PyData.canLayAll0 (p.map _)) = true
    rw [lay_ints p]
    rfl
theorem dep_ints : ∀ p : List Nat, PyData.depthAll (p.map fun n => PyData.int ((n : Nat) : Int)) = 0
  | [] => rfl
  | _ :: p => by
    show max 0 (PyData.depthAll (p.map _)) = 0
    rw [dep_ints p]
    rfl
theorem pD_lay (p : List Nat) : (pD p).canLay0 = true := lay_ints p
theorem pD_dep (p : List Nat) : (pD p).depth = 1 := by
  show PyData.depthAll _ + 1 = 1
  rw [dep_ints]
theorem pD_shaped (p : List Nat) : SeqAt.shaped (pD p) = true := by
  unfold SeqAt.shaped
  rw [pD_lay, pD_dep]
  rfl
theorem lay_pDs : ∀ ps : List (List Nat), PyData.canLayAll0 (ps.map pD) = true
  | [] => rfl
  | a :: p => by
    show ((pD a).canLay0 && PyData.canLayAll0 (p.map pD)) = true
    rw [lay_pDs p, pD_lay]
    rfl
theorem dep_pDs : ∀ ps : List (List Nat), PyData.depthAll (ps.map pD) ≤ 1
  | [] => Nat.zero_le _
  | a :: p => by
    show max (pD a).depth (PyData.depthAll (p.map pD)) ≤ 1
    rw [pD_dep]
    have := dep_pDs p
    omega
theorem pDs_shaped (ps : List (List Nat)) : SeqAt.shaped (.list (ps.map pD)) = true := by
  show (PyData.canLayAll0 (ps.map pD) && decide (PyData.depthAll (ps.map pD) + 1 ≤ 64)) = true
  rw [lay_pDs]
  have := dep_pDs ps
  simp
  omega
theorem eqv_ints : ∀ p q : List Nat, PyData.eqvAll (p.map fun n => PyData.int ((n : Nat) : Int)) (q.map fun n => PyData.int ((n : Nat) : Int)) = decide (p = q)
  | [], [] => rfl
  | [], _ :: _ => rfl
  | _ :: _, [] => rfl
  | a :: p, b :: q => by
    show ((((a : Nat) : Int) == ((b : Nat) : Int)) && PyData.eqvAll (p.map _) (q.map _)) = _
    rw [eqv_ints p q]
    by_cases h : a = b
    · by_cases h2 : p = q <;> simp [h, h2]
    · have : ¬ ((a : Nat) : Int) = (b : Nat) := by omega
      simp [h, this]
theorem pD_eqv (p q : List Nat) : PyData.eqv (pD p) (pD q) = decide (p = q) := eqv_ints p q
theorem dp_all {K : PySem.W.Frag} {H : Hp} : ∀ {fs : List Addr} {ps : List (List Nat)}, fs.length = ps.length → (∀ j (h : j < ps.length), ∃ t, fs[j]? = some t ∧ Tq H t (pV ps[j])) → DpAll K H (fs.map V.ref) (ps.map pD)
  | [], [], _, _ => .nil
  | [], _ :: _, h, _ => by simp at h
  | _ :: _, [], h, _ => by simp at h
  | t :: fs, p :: ps, h, hf => by
    obtain ⟨u, e, hu⟩ := hf 0 (Nat.succ_pos _)
    cases e
    refine .cons (dp_path hu) (dp_all (by simpa using h) fun j hj => ?_)
    exact hf (j + 1) (Nat.succ_lt_succ hj)
theorem PlAt.dp {K : PySem.W.Frag} {H : Hp} {D : Addr} {ps : List (List Nat)} (h : PlAt H D ps) : Dp K H (.ref D) (.list (ps.map pD)) := by
  obtain ⟨fs, a, b, c⟩ := h
  exact .lst (SqL.of a) (dp_all (fs := fs) b fun j hj => by obtain ⟨t, e, q⟩ := c j hj; exact ⟨t, e, q.q⟩)
/-- tuples of branches, that are made by the loop -/
def spLawBranches : Sp := fun vs H Q _ => ∃ (r t a : Addr) (rows : List Row) (l : List Str) (qs : List Nat), vs = [.ref r, .ref t, .ref a] ∧ RowsAt H r rows ∧ ROk 8 rows ∧ Tq H t (l.map V.str) ∧ WfOk rows l ∧ PlAt H a (qs.map (Mth.pth (wR rows) l)) ∧ (∀ q ∈ qs, q < l.length) ∧ qs.length ≤ 4000 ∧
  ∀ H' r ts, Same H H' → Tq H' r (ts.map V.ref) → TsAt sV H' ts (qs.map (Mth.cut (wR rows) l)) → Q (.ref r) H'
abbrev s_law_hole_paths : Stmt := top 59
abbrev N_law_hole_paths : List Str := ["rows", "stump", "found", "k"]
theorem sc_law_hole_paths : FnScope N_law_hole_paths ["rows", "stump"] (defScope s_law_hole_paths) := ⟨rfl, rfl, rfl, by decide +kernel, rfl, by decide +kernel, by decide +kernel⟩
abbrev s_law_branches_at : Stmt := top 60
abbrev N_law_branches_at : List Str := ["rows", "stump", "asked", "found", "ends", "pieces", "path", "place"]
theorem sc_law_branches_at : FnScope N_law_branches_at ["rows", "stump", "asked"] (defScope s_law_branches_at) := ⟨rfl, rfl, rfl, by decide +kernel, rfl, by decide +kernel, by decide +kernel⟩
section
variable {P : Program} {w : World} {K : PySem.W.Frag} {mg : Str → Option Value} {base : Heap} {C CT : Addr}
theorem ok_law_hole_paths (T : Bk mg) (c_law_paths : DefOk P w K mg base CX0 3 "_law_paths" spLawPathsS) (D : Def0 K mg "_law_hole_paths" s_law_hole_paths) : DefOk P w K mg base CX0 4 "_law_hole_paths" spLawHoles := by
  refine D.ok sc_law_hole_paths (fun vs H Q E h => ?_) (fun _ _ _ _ _ _ us hl => match us, hl with | [_, _], _ => rfl) (fun f cdv A outer s H vs Q E hr h => ?_)
  · obtain ⟨r, t, rows, l, rfl, _⟩ := h
    rfl
  · obtain ⟨r, t, rows, l, rfl, hR, R, ht, O, k⟩ := h
    have hsz := O.sz
    refine ⟨_, (pss_cons (ps_set (i := 2) sc_law_hole_paths.nd rfl (Or.inr rfl) (pe_d c_law_paths (hr.mono (by decide)) pass0 (pa_cons (pv 0) (pa_cons (pv 1) pa_nil))))
      (pss_one (ps_ret (pe_lc (own := [("k", 3)]) (g := (gName 3)) rfl sc_law_hole_paths.nd (pi_range1 (by rfl) T.b_range (pa_cons (pe_callB call_len_seq (by rfl) T.b_len boot_len (pa_cons (pv 1) pa_nil)) pa_nil)) (blkOk_by (N := N_law_hole_paths) (sc := defScope s_law_hole_paths) (by decide +kernel)) (fun _ _ _ _ _ => (pg_name (i := 3) sc_law_hole_paths.nd rfl (Or.inl rfl))) (fun _ _ _ _ _ => (pts_one (pt_cmpR op_eq (pe_ix (show IxR _ (rIxT K) from ix_tup) (pv 1) (pv 3) (fun _ _ => rfl)) pe_str (nomark _)))) (fun _ _ _ _ _ => (pe_ix (show IxR _ (rIxL K) from ix_list) (pv 2) (pv 3) (fun _ _ => rfl))))))), ?_⟩
    refine ⟨_, rfl, _, rfl, r, t, rows, l, rfl, hR, R, ht, O, fun H1 D s1 hDN hP => ?_⟩
    obtain ⟨fs, p1, p2, p3⟩ := hP
    refine ⟨_, rfl, t, _, rfl, .inr (ht.same s1).sq, _, rfl, by rw [List.length_map]; omega, by rw [List.length_map]; omega, fun G hG => ?_⟩
    rw [show (((l.map V.str).length : Nat) : Int).toNat = l.length by rw [List.length_map, Int.toNat_natCast]]
    have nDG : D ≠ G := ne_of_none p1 hG
    have hGN : H G = none := by
      cases z : H G with
      | none => rfl
      | some o => rw [s1 _ _ z] at hG; cases hG
    refine lc_range (fun i H' => Same H H' ∧ TP H1 H' ∧ H' D = some (.lst (fs.map V.ref)) ∧ ∃ gs : List Addr, H' G = some (.lst (gs.map V.ref)) ∧ gs.length = (((List.range i).filter fun i => decide (l[i]? = some ("*" : Str))).map (Mth.pth (wR rows) l)).length ∧
        ∀ j (h : j < (((List.range i).filter fun i => decide (l[i]? = some ("*" : Str))).map (Mth.pth (wR rows) l)).length), Fnp H' gs j ((((List.range i).filter fun i => decide (l[i]? = some ("*" : Str))).map (Mth.pth (wR rows) l))[j])) ?_ ?_ ?_
    · exact ⟨s1.upd_new hG, TP.new hG, by rw [upd_ne nDG]; exact p1, [], upd_same, rfl, fun j h => by simp at h⟩
    · rintro i H2 hi ⟨s2, tp, d2, gs, g1, g2, g3⟩
      refine ⟨rfl, _, rfl, _, rfl, t, _, _, _, rfl, rfl, (ht.same s2).sq, str_at hi (by omega), rfl, _, rfl, ?_⟩
      have hk0 : l[i]? = some l[i] := List.getElem?_eq_getElem hi
      rw [List.range_succ, List.filter_append, List.filter_cons, List.filter_nil]
      by_cases c : l[i] = "*"
      · refine ifp (by simp [c]) ?_
        obtain ⟨u, u1, u2⟩ := p3 i (by rw [List.length_map, List.length_range]; exact hi)
        rw [List.getElem_map, List.getElem_range] at u2
        refine ⟨_, rfl, _, rfl, D, _, _, _, rfl, rfl, SqL.of d2, at_ofG (j := i) (by omega) (by rw [List.getElem?_map, u1]; rfl), _, g1, ?_, ?_⟩
        · rw [List.length_map, g2, List.length_map]
          exact lt_line (Nat.le_trans (List.length_filter_le _ _) (by rw [List.length_range]; omega))
        · rw [if_pos (by rw [hk0, c]; rfl), List.map_append]
          have tk : TP H2 (upd H2 G (.lst (gs.map V.ref ++ [.ref u]))) := TP.lst g1
          refine ⟨s2.upd_own hGN, tp.trans tk, by rw [upd_ne nDG]; exact d2, gs ++ [u], by rw [upd_same, List.map_append]; rfl, by rw [List.length_append, List.length_append, g2]; rfl, fun j hj => ?_⟩
          by_cases e : j < (((List.range i).filter fun i => decide (l[i]? = some ("*" : Str))).map (Mth.pth (wR rows) l)).length
          · rw [List.getElem_append_left e]
            obtain ⟨q, q1, q2⟩ := g3 j e
            exact ⟨q, by rw [List.getElem?_append_left (by omega)]; exact q1, tk _ _ q2⟩
          · have ej : j = (((List.range i).filter fun i => decide (l[i]? = some ("*" : Str))).map (Mth.pth (wR rows) l)).length := by
              rw [List.length_append] at hj
              have : ([i].map (Mth.pth (wR rows) l)).length = 1 := rfl
              omega
            subst ej
            rw [List.getElem_append_right (Nat.le_refl _)]
            refine ⟨u, by rw [← g2, List.getElem?_append_right (Nat.le_refl _), Nat.sub_self]; rfl, ?_⟩
            have e0 : ([i].map (Mth.pth (wR rows) l))[(((List.range i).filter fun i => decide (l[i]? = some ("*" : Str))).map (Mth.pth (wR rows) l)).length - (((List.range i).filter fun i => decide (l[i]? = some ("*" : Str))).map (Mth.pth (wR rows) l)).length]'(by simp) = Mth.pth (wR rows) l i := by simp
            rw [e0]
            exact tk _ _ (tp _ _ u2)
      · refine ifn (by simp [c]) ?_
        rw [if_neg (by rw [hk0]; simp [c]), List.append_nil]
        exact ⟨s2, tp, d2, gs, g1, g2, g3⟩
    · rintro H2 ⟨s2, tp, d2, gs, g1, g2, g3⟩
      exact k _ G s2 hGN ⟨gs, g1, g2, g3⟩
theorem ok_law_branches_at (T : Bk mg) (c_law_paths : DefOk P w K mg base CX0 3 "_law_paths" spLawPathsS) (c_law_ends : DefOk P w K mg base CX0 2 "_law_ends" spLawEnds) (D : Def0 K mg "_law_branches_at" s_law_branches_at) : DefOk P w K mg base CX0 4 "_law_branches_at" spLawBranches := by
  refine D.ok sc_law_branches_at (fun vs H Q E h => ?_) (fun _ _ _ _ _ _ us hl => match us, hl with | [_, _, _], _ => rfl) (fun f cdv A outer s H vs Q E hr h => ?_)
  · obtain ⟨r, t, a, rows, l, qs, rfl, _⟩ := h
    rfl
  · obtain ⟨r, t, a, rows, l, qs, rfl, hR, R, ht, O, hA, hq, hq4, k⟩ := h
    have hsz := O.sz
    refine ⟨_, (pss_cons (ps_set (i := 3) sc_law_branches_at.nd rfl (Or.inl rfl) (pe_d c_law_paths (hr.mono (by decide)) pass0 (pa_cons (pv 0) (pa_cons (pv 1) pa_nil))))
      (pss_cons (ps_set (i := 4) sc_law_branches_at.nd rfl (Or.inl rfl) (pe_d c_law_ends (hr.mono (by decide)) pass0 (pa_cons (pv 0) (pa_cons (pv 1) pa_nil))))
      (pss_cons (ps_set (i := 5) sc_law_branches_at.nd rfl (Or.inl rfl) (pe_lst pa_nil))
      (pss_cons (ps_for PassesOwn.never rfl (pi_list (pv 2)) (pg_name (i := 6) sc_law_branches_at.nd rfl (Or.inl rfl))
        (pss_cons (ps_set (i := 7) sc_law_branches_at.nd rfl (Or.inl rfl) (pe_bm PySem.F.plainAttrs_list PySem.F.slot_list_index PySem.F.type_list_index (mt_indexD (units65 hr)) (pv 3) (pa_cons (pv 6) pa_nil)))
        (pss_one (ps_expr (pe_bm PySem.F.plainAttrs_list PySem.F.slot_list_append PySem.F.type_list_append mt_append (pv 5) (pa_cons (pe_slice sl_tupA (pv 1) (po_some (pv 7)) (po_some (pe_ix ix_list (pv 4) (pv 7) (fun _ _ => rfl)))) pa_nil))))))
      (pss_one (ps_ret (pe_callTy call_tuple_of (by rfl) T.b_tuple (by decide +kernel) (pa_cons (pv 5) pa_nil)))))))), ?_⟩
    refine ⟨_, rfl, _, rfl, r, t, rows, l, rfl, hR, R, ht, O, fun H1 D s1 hDN hP => ?_⟩
    refine ⟨_, rfl, _, rfl, r, t, rows, l, rfl, hR.same s1, R, ht.same s1, O, fun H2 e s2 heN he => ?_⟩
    refine ⟨le_line (show 0 ≤ 100000 by decide), fun G hG => ?_⟩
    have s3 := (s1.trans s2)
    have s4 := s3.upd_new (o := .lst []) hG
    have hGN : H G = none := by
      cases z : H G with
      | none => rfl
      | some o => rw [s3 _ _ z] at hG; cases hG
    have neG : e ≠ G := ne_of_none he hG
    have hP2 := hP.same s2
    have nDG : D ≠ G := by obtain ⟨fs, q, _⟩ := hP2; exact ne_of_none q hG
    have sg : Same H2 (upd H2 G (.lst [])) := (Same.refl H2).upd_new hG
    obtain ⟨fa, a1, a2, a3⟩ := hA
    refine ⟨_, rfl, a, rfl, ⟨_, SqL.of (s4 _ _ a1)⟩, for_it (walk_list (xs := fa.map V.ref)) (fun i σ H' => ∃ (x y : Option V) (ts : List Addr), σ = [some (.ref r), some (.ref t), some (.ref a), some (.ref D), some (.ref e), some (.ref G), x, y] ∧ Same H H' ∧ PlAt H' D (paths rows l) ∧ EndsAt H' e rows l ∧ H' G = some (.lst (ts.map V.ref)) ∧ TsAt sV H' ts ((qs.take i).map (Mth.cut (wR rows) l)))
      ⟨none, none, [], rfl, s4, hP2.same sg, (by show upd H2 G _ e = _; rw [upd_ne neG]; exact he), upd_same, TsAt.nil⟩ (fun i σ H' _ ⟨_, _, _, _, q, _⟩ => SqL.of (q _ _ a1)) ?_ ?_⟩
    · rintro i v σ H9 H3 hi ⟨x, y, ts, rfl, s5, pl, he5, g5, tT⟩ ⟨rfl, hv⟩
      have hiq : i < qs.length := by rw [List.length_map, a2, List.length_map] at hi; exact hi
      obtain ⟨u, u1, u2⟩ := a3 i (by rw [List.length_map]; exact hiq)
      rw [List.getElem?_map, u1] at hv
      cases hv
      have hp := hq qs[i] (List.getElem_mem hiq)
      generalize hpe : qs[i] = p at hp
      rw [List.getElem_map, hpe] at u2
      have hu2 : Tq H3 u (pV (Mth.pth (wR rows) l p)) := (u2.same s5).q
      have hz : ((paths rows l).map pD)[p]? = some (pD (Mth.pth (wR rows) l p)) := by
        rw [List.getElem?_map, List.getElem?_map, List.getElem?_range hp]
        rfl
      have plS := pl
      obtain ⟨fs0, pl0, _⟩ := plS
      refine ⟨_, rfl, .inl ⟨rfl, _, SqL.of pl0⟩, _, rfl, D, .ref u, _, _, p, _, rfl, rfl, pl.dp, dp_path hu2, pDs_shaped _, pD_shaped _, hz, by rw [pD_eqv]; exact decide_eq_true rfl, fun m z' hm hz' => ?_, ?_⟩
      · rw [List.getElem?_map, List.getElem?_map, List.getElem?_range (by omega)] at hz'
        cases hz'
        rw [pD_eqv]
        refine decide_eq_false fun e => ?_
        have := Mth.InE.inj O.f (by omega) hp e
        omega
      · refine ⟨_, rfl, .inl ⟨rfl, _, SqL.of g5⟩, _, rfl, _, rfl, _, rfl, _, rfl, _, rfl, e, _, _, _, rfl, rfl, SqL.of he5, int_at (Mth.ends_get (wR rows) hp) rfl, _, rfl, ?_⟩
        refine slA_of (ht.same s5) (by rw [List.length_map]; exact Mth.nxs_le _ _ _ _) (Mth.nxs_ge _ _ _ (Nat.le_of_lt hp)) (fun c' H4 s6 hc => ?_)
        have hc' : Tq H4 c' (sV (Mth.cut (wR rows) l p)) := by
          unfold sV Mth.cut
          rw [List.map_take, List.map_drop]
          exact hc
        have g6 := s6 _ _ g5
        have tk : TQ H3 (upd H4 G (.lst (ts.map V.ref ++ [V.ref c']))) := (TQ.of_same s6).trans (TQ.lst g6)
        have tp : TP H3 (upd H4 G (.lst (ts.map V.ref ++ [V.ref c']))) := (TP.of_same s6).trans (TP.lst g6)
        refine ⟨G, _, _, rfl, rfl, g6, lt_line (by rw [List.length_map, tT.1, List.length_map, List.length_take]; omega), ?_⟩
        refine ⟨_, _, ts ++ [c'], rfl, (s5.trans s6).upd_own hGN, ?_, ?_, by rw [upd_same, List.map_append]; rfl, ?_⟩
        · obtain ⟨fs, q1, q2, q3⟩ := pl
          exact ⟨fs, by rw [upd_ne nDG]; exact s6 _ _ q1, q2, fun j hj => (q3 j hj).keep tp⟩
        · show upd H4 G _ e = _
          rw [upd_ne neG]
          exact s6 _ _ he5
        · rw [List.take_add_one, List.getElem?_eq_getElem hiq, List.map_append, hpe]
          exact (tT.keep tk).snoc (TQ.lst g6 _ _ hc')
    · rintro σ H3 ⟨x, y, ts, rfl, s5, pl, he5, g5, tT⟩
      rw [List.length_map, a2, List.length_map, List.take_length] at tT
      exact ⟨_, rfl, G, _, rfl, .inl ⟨SqL.of g5, fun v hv => k _ v ts (s5.upd_new hv) (.of upd_same) (tT.keep (TQ.new hv))⟩⟩
end
end Sh
end
section
set_option Elab.async false
set_option linter.all false
set_option maxRecDepth 100000
set_option maxHeartbeats 2000000
set_option autoImplicit false
namespace Mth
theorem flr_mem : ∀ {l : List S} {ls : List (List S)} {z : S}, z ∈ flr l ls → z ∈ l ∨ ∃ t ∈ ls, z ∈ t
  | [], _, _, h => nomatch h
  | y :: r, ls, z, h => by
    rw [flr_cons] at h
    split at h
    · rcases List.mem_append.mp h with h | h
      · cases ls with
        | nil => cases h
        | cons t ls => exact .inr ⟨t, List.mem_cons_self, h⟩
      · rcases flr_mem h with q | ⟨t, ht, q⟩
        · exact .inl (List.mem_cons_of_mem _ q)
        · exact .inr ⟨t, List.mem_of_mem_tail ht, q⟩
    · rcases List.mem_cons.mp h with h | h
      · rw [h]; exact .inl List.mem_cons_self
      · rcases flr_mem h with q | ⟨t, ht, q⟩
        · exact .inl (List.mem_cons_of_mem _ q)
        · exact .inr ⟨t, ht, q⟩
theorem flr_len : ∀ (l : List S) (ls : List (List S)) (m : Nat), 1 ≤ m → (∀ t ∈ ls, t.length ≤ m) → (flr l ls).length ≤ m * l.length
  | [], _, m, _, _ => by simp [flr]
  | y :: r, ls, m, hm, h => by
    rw [flr_cons, List.length_cons, Nat.mul_add, Nat.mul_one]
    split
    · rw [List.length_append]
      have ih := flr_len r ls.tail m hm (fun t ht => h t (List.mem_of_mem_tail ht))
      have h0 : (ls.headD []).length ≤ m := by
        cases ls with
        | nil => exact Nat.zero_le _
        | cons t ls => exact h t List.mem_cons_self
      omega
    · rw [List.length_cons]
      have ih := flr_len r ls m hm h
      omega
end Mth
namespace Sh
open PySem PySem.Spec PyProof.Rows L2
open C8 (pss_cut tCut)
open Evl (ixN_nat)
theorem ROk.mono {rows : List Row} {m m' : Int} (R : ROk m rows) (h : m ≤ m') : ROk m' rows := ⟨R.pos, Int.le_trans R.len h, R.nd, R.nm, R.wd, R.leaf⟩
theorem Kp.ne_bag {a p : Addr} {H : Hp} {o : HO} (b : BagAt H a) (h : H p = some o) (d : ∀ xs, o ≠ .lst xs) : p ≠ a := fun e => by
  obtain ⟨z0, z1, z2, z3, cs, x1, _⟩ := b
  rw [e, x1] at h
  exact d _ (Option.some.inj h).symm
theorem Kp.tq {a : Addr} {H H' : Hp} (x : Kp a H H') (b : BagAt H a) : TQ H H' := fun t xs q => by
  rcases q with q | ⟨o, q⟩
  · exact .inl (x _ _ q (Kp.ne_bag b q fun _ e => nomatch e))
  · exact .inr ⟨o, x _ _ q (Kp.ne_bag b q fun _ e => nomatch e)⟩
theorem Kp.tz {a t : Addr} {H H' : Hp} {xs : List V} (x : Kp a H H') (b : BagAt H a) (h : Tz H t xs) : Tz H' t xs := by
  obtain ⟨o, q, d⟩ := h
  exact ⟨o, x _ _ q (Kp.ne_bag b q fun _ e => nomatch e), d⟩
theorem RowsAt.kp' {a r : Addr} {H H' : Hp} {rows : List Row} (x : RowsAt H r rows) (b : BagAt H a) (n : r ≠ a) (k : Kp a H H') : RowsAt H' r rows := by
  obtain ⟨ts, h1, h2⟩ := x
  exact ⟨ts, k _ _ h1 n, h2.keep (k.tk b)⟩
theorem fill_flr (ls : List (List Str)) (l : List Str) : fill ls l = Mth.flr l ls := Mth.fil_all ls l
theorem fill_ok {rows : List Row} (R : ROk 8 rows) {l : List Str} {ls : List (List Str)} (O : StumpOk rows l) (h : ∀ x ∈ ls, StumpOk rows x) (hc : l.count ("*" : Str) = ls.length) (hl : (fill ls l).length ≤ 2000) : StumpOk rows (fill ls l) := by
  refine ⟨?_, fun z hz => ?_, hl⟩
  · rw [fill_flr]
    exact Mth.flr_forest (w_star R) l ls 1 O.f (fun t ht => (h t ht).f) (by omega)
  · rw [fill_flr] at hz
    rcases Mth.flr_mem hz with q | ⟨t, ht, q⟩
    · exact O.k z q
    · exact (h t ht).k z q
/-- stumps in a list -/
def SlAt (H : Hp) (be : Addr) (rows : List Row) (n m : Nat) (ls : List (List Str)) : Prop := ∃ ts : List Addr, H be = some (.lst (ts.map V.ref)) ∧ TsAt sV H ts ls ∧ (∀ x ∈ ls, StumpOk rows x ∧ x.length ≤ m) ∧ ls.length ≤ n
def spLawCut : Sp := fun vs H Q _ => ∃ (a r t : Addr) (rows : List Row) (l : List Str), vs = [.ref a, .ref r, .ref t] ∧ BagAt H a ∧ r ≠ a ∧ RowsAt H r rows ∧ ROk 8 rows ∧ Tq H t (l.map V.str) ∧ StumpOk rows l ∧ ∀ H' q c, Kp a H H' → BagAt H' a → Tz H' q (sV c) → StumpOk rows c → c.length ≤ l.length → Q (.ref q) H'
def spLawPieces : Sp := fun vs H Q _ => ∃ (a r t : Addr) (rows : List Row) (l : List Str), vs = [.ref a, .ref r, .ref t] ∧ BagAt H a ∧ r ≠ a ∧ RowsAt H r rows ∧ ROk 8 rows ∧ Tz H t (l.map V.str) ∧ StumpOk rows l ∧ ∀ H' q ls, Kp a H H' → BagAt H' a → H q = none → q ≠ a → SlAt H' q rows 2000 3 ls → ls.length = l.count ("*" : Str) → Q (.ref q) H'
def spLawWith : Sp := fun vs H Q _ => ∃ (t be : Addr) (l : List Str) (ts : List Addr) (ls : List (List Str)), vs = [.ref t, .ref be] ∧ Tq H t (l.map V.str) ∧ l.length ≤ 100 ∧ H be = some (.lst (ts.map V.ref)) ∧ TsAt sV H ts ls ∧ (∀ x ∈ ls, x.length ≤ 3) ∧ l.count ("*" : Str) = ls.length ∧ ∀ H' q, Same H H' → Tz H' q (sV (fill ls l)) → Q (.ref q) H'
abbrev s_law_cut_down : Stmt := top 61
abbrev N_law_cut_down : List Str := ["bag", "rows", "stump", "ends", "row", "behind", "place"]
theorem sc_law_cut_down : FnScope N_law_cut_down ["bag", "rows", "stump"] (defScope s_law_cut_down) := ⟨rfl, rfl, rfl, by decide +kernel, rfl, by decide +kernel, by decide +kernel⟩
abbrev s_law_pieces : Stmt := top 62
abbrev N_law_pieces : List Str := ["bag", "rows", "stump", "k"]
theorem sc_law_pieces : FnScope N_law_pieces ["bag", "rows", "stump"] (defScope s_law_pieces) := ⟨rfl, rfl, rfl, by decide +kernel, rfl, by decide +kernel, by decide +kernel⟩
abbrev s_law_with_pieces : Stmt := top 63
abbrev N_law_with_pieces : List Str := ["stump", "pieces", "row", "at", "word"]
theorem sc_law_with_pieces : FnScope N_law_with_pieces ["stump", "pieces"] (defScope s_law_with_pieces) := ⟨rfl, rfl, rfl, by decide +kernel, rfl, by decide +kernel, by decide +kernel⟩
section
variable {P : Program} {w : World} {K : PySem.W.Frag} {mg : Str → Option Value} {base : Heap} {C CT : Addr}
theorem ok_law_cut_down (T : Bk mg) (c_law_draw : DefOk P w K mg base CX0 1 "_law_draw" spDraw) (c_law_ends : DefOk P w K mg base CX0 2 "_law_ends" spLawEnds) (D : Def0 K mg "_law_cut_down" s_law_cut_down) : DefOk P w K mg base CX0 4 "_law_cut_down" spLawCut := by
  refine D.ok sc_law_cut_down (fun vs H Q E h => ?_) (fun _ _ _ _ _ _ us hl => match us, hl with | [_, _, _], _ => rfl) (fun f cdv A outer s H vs Q E hr h => ?_)
  · obtain ⟨a, r, t, rows, l, rfl, _⟩ := h
    rfl
  · obtain ⟨a, r, t, rows, l, rfl, bA, nra, hR, R, ht, O, k⟩ := h
    have hsz := O.sz
    refine ⟨_, (pss_cons (ps_set (i := 3) sc_law_cut_down.nd rfl (Or.inl rfl) (pe_d c_law_ends (hr.mono (by decide)) pass0 (pa_cons (pv 1) (pa_cons (pv 2) pa_nil))))
      (pss_cons (ps_set (i := 4) sc_law_cut_down.nd rfl (Or.inl rfl) (pe_lst pa_nil))
      (pss_cons (ps_set (i := 5) sc_law_cut_down.nd rfl (Or.inl rfl) pe_int)
      (pss_cons (ps_for PassesOwn.never rfl (pi_range1 (by rfl) T.b_range (pa_cons (pe_callB call_len_seq (by rfl) T.b_len boot_len (pa_cons (pv 2) pa_nil)) pa_nil)) (pg_name (i := 6) sc_law_cut_down.nd rfl (Or.inl rfl))
        (pss_one (ps_if (pt_cmpR op_ge (pv 6) (pv 5) (nomark _))
          (pss_one (ps_if (pt_cmpR op_eq (pe_d c_law_draw (hr.mono (by decide)) pass0 (pa_cons (pv 0) (pa_cons pe_int pa_nil))) pe_int (nomark _))
            (pss_cons (ps_expr (pe_bm PySem.F.plainAttrs_list PySem.F.slot_list_append PySem.F.type_list_append mt_append (pv 4) (pa_cons pe_str pa_nil)))
            (pss_one (ps_set (i := 5) sc_law_cut_down.nd rfl (Or.inl rfl) (pe_ix ix_list (pv 3) (pv 6) (fun _ _ => rfl)))))
            (pss_one (ps_expr (pe_bm PySem.F.plainAttrs_list PySem.F.slot_list_append PySem.F.type_list_append mt_append (pv 4) (pa_cons (pe_ix ix_tup (pv 2) (pv 6) (fun _ _ => rfl)) pa_nil))))))
          pss_nil)))
      (pss_one (ps_ret (pe_callTy call_tupleF (by rfl) T.b_tuple (by decide +kernel) (pa_cons (pv 4) pa_nil)))))))), ?_⟩
    refine ⟨_, rfl, _, rfl, r, t, rows, l, rfl, hR, R, ht, O.wf, fun H1 e s1 heN he => ?_⟩
    refine ⟨le_line (show 0 ≤ 100000 by decide), fun G hG => ?_⟩
    have b1 := bag_same bA s1
    have nGa : G ≠ a := Kp.bag_ne b1 hG
    have k1 := (Kp.same (a := a) s1).upd_new (o := .lst []) hG
    have hGN : H G = none := (Kp.same (a := a) s1).free_of hG nGa
    have nea : e ≠ a := Kp.bag_ne bA heN
    have neG : e ≠ G := ne_of_none he hG
    refine ⟨_, rfl, t, _, rfl, .inr (TQ.new hG _ _ (ht.same s1)).sq, _, rfl, by rw [List.length_map]; omega, by rw [List.length_map]; omega, ?_⟩
    rw [show (((l.map V.str).length : Nat) : Int).toNat = l.length by rw [List.length_map, Int.toNat_natCast]]
    refine for_range (fun i σ H' => ∃ (x : Option V) (c : List Str) (n : Nat), σ = [some (.ref a), some (.ref r), some (.ref t), some (.ref e), some (.ref G), some (.int (n : Nat)), x] ∧ Kp a H H' ∧ BagAt H' a ∧ EndsAt H' e rows l ∧ H' G = some (.lst (sV c)) ∧ n ≤ l.length ∧ c.length ≤ max i n ∧
      Mth.forest (wR rows) (c ++ l.drop (max i n)) 1 = true ∧ ∀ z ∈ c, z = "*" ∨ ∃ q ∈ rows, q.1 = z) ?_ ?_ ?_
    · refine ⟨none, [], 0, rfl, k1, b1.upd_ne nGa, ?_, upd_same, Nat.zero_le _, Nat.zero_le _, O.f, fun z h => nomatch h⟩
      show upd H1 G _ e = _
      rw [upd_ne neG]
      exact he
    · rintro i σ H2 hi ⟨x, c, n, rfl, k2, b2, he2, g2, hn, hc, hf, hm⟩
      have ez : (0 : Int) + ((i : Nat) : Int) = ((i : Nat) : Int) := by omega
      rw [ez]
      have ht2 := k2.tq bA _ _ ht
      refine ⟨_, rfl, _, rfl, _, _, rfl, rfl, _, rfl, ?_⟩
      by_cases cn : n ≤ i
      · refine ifp (decide_eq_true (by show ((n : Nat) : Int) ≤ (i : Nat); omega)) ?_
        rw [Nat.max_eq_left cn] at hf hc
        refine ⟨_, rfl, a, 5, rfl, b2, by decide, by decide, fun H3 d k3 b3 d0 d5 => ?_⟩
        have k4 := k2.trans k3
        have ht3 := k4.tq bA _ _ ht
        have g3 : H3 G = some (.lst (sV c)) := k3 _ _ g2 nGa
        have he3 : EndsAt H3 e rows l := k3 _ _ he2 nea
        have hlen : (sV c).length ≤ 100000 := by unfold sV; rw [List.length_map]; omega
        refine ⟨rfl, _, rfl, ite2 (fun _ => ?_) (fun _ => ?_)⟩
        · refine ⟨_, rfl, .inl ⟨rfl, _, SqL.of g3⟩, G, _, _, rfl, rfl, g3, lt_line hlen, ?_⟩
          have he4 : EndsAt (upd H3 G (.lst (sV c ++ [.str "*"]))) e rows l := by
            show upd H3 G _ e = _
            rw [upd_ne neG]
            exact he3
          refine ⟨_, rfl, _, rfl, e, _, _, _, rfl, rfl, SqL.of he4, int_at (Mth.ends_get (wR rows) hi) rfl, ?_⟩
          have g1 := Mth.nxs_gt (wR rows) 0 hi
          have g1 : i < Mth.nxs (wR rows) l i 1 := g1
          refine ⟨_, c ++ [("*" : Str)], _, rfl, k4.upd_own hGN, b3.upd_ne nGa, he4, by rw [upd_same]; unfold sV; rw [List.map_append]; rfl, Mth.nxs_le _ _ _ _, ?_, ?_, fun z hz => ?_⟩
          · rw [List.length_append, List.length_singleton]
            omega
          · rw [Nat.max_eq_right (by omega), List.append_assoc]
            rw [drop_cut hi] at hf
            exact Mth.forest_swap (wR rows) (Mth.cut_forest (wR rows) O.f hi) (Mth.star_one (w_star R)) c 1 hf
          · rcases List.mem_append.mp hz with q | q
            · exact hm z q
            · exact .inl (List.mem_singleton.mp q)
        · refine ⟨_, rfl, .inl ⟨rfl, _, SqL.of g3⟩, _, rfl, _, rfl, t, _, _, _, rfl, rfl, ht3.sq, str_at hi rfl, G, _, _, rfl, rfl, g3, lt_line hlen, ?_⟩
          have he4 : EndsAt (upd H3 G (.lst (sV c ++ [.str l[i]]))) e rows l := by
            show upd H3 G _ e = _
            rw [upd_ne neG]
            exact he3
          refine ⟨_, c ++ [l[i]], n, rfl, k4.upd_own hGN, b3.upd_ne nGa, he4, by rw [upd_same]; unfold sV; rw [List.map_append]; rfl, hn, ?_, ?_, fun z hz => ?_⟩
          · rw [List.length_append, List.length_singleton]
            omega
          · rw [Nat.max_eq_left (by omega), List.append_assoc]
            rw [List.drop_eq_getElem_cons hi] at hf
            exact hf
          · rcases List.mem_append.mp hz with q | q
            · exact hm z q
            · rw [List.mem_singleton.mp q]
              exact O.k _ (List.getElem_mem hi)
      · refine ifn (fun q => cn (by have : ((n : Nat) : Int) ≤ (i : Nat) := of_decide_eq_true q; omega)) ?_
        refine ⟨_, c, n, rfl, k2, b2, he2, g2, hn, by omega, ?_, hm⟩
        rw [show max (i + 1) n = max i n by omega]
        exact hf
    · rintro σ H2 ⟨x, c, n, rfl, k2, b2, he2, g2, hn, hc, hf, hm⟩
      rw [Nat.max_eq_left hn] at hc hf
      rw [List.drop_length, List.append_nil] at hf
      refine ⟨_, rfl, G, _, rfl, SqL.of g2, fun u o hu ho => k _ u c (k2.upd_new hu) (b2.upd_ne (Kp.bag_ne b2 hu)) ⟨o, upd_same, ho⟩ ⟨hf, hm, by omega⟩ hc⟩
theorem ok_law_pieces (T : Bk mg) (c_law_draw : DefOk P w K mg base CX0 1 "_law_draw" spDraw) (c_law_plant : DefOk P w K mg base CX0 2 "_law_plant" spLawPlant) (D : Def0 K mg "_law_pieces" s_law_pieces) : DefOk P w K mg base CX0 3 "_law_pieces" spLawPieces := by
  refine D.ok sc_law_pieces (fun vs H Q E h => ?_) (fun _ _ _ _ _ _ us hl => match us, hl with | [_, _, _], _ => rfl) (fun f cdv A outer s H vs Q E hr h => ?_)
  · obtain ⟨a, r, t, rows, l, rfl, _⟩ := h
    rfl
  · obtain ⟨a, r, t, rows, l, rfl, bA, nra, hR, R, ht, O, k⟩ := h
    have hsz := O.sz
    have hcl : l.count ("*" : Str) ≤ 2000 := Nat.le_trans List.count_le_length hsz
    refine ⟨_, (pss_one (ps_ret (pe_lc (own := [("k", 3)]) (g := (gName 3)) (tt := tYes) rfl sc_law_pieces.nd (pi_range1 (by rfl) T.b_range (pa_cons (pe_mG ty_Z PySem.F.plainAttrs_tuple PySem.F.slot_tuple_count PySem.F.type_tuple_count mt_tcount (pv 2) (pa_cons pe_str pa_nil)) pa_nil)) (blkOk_by (N := N_law_pieces) (sc := defScope s_law_pieces) (by decide +kernel)) (fun _ _ _ _ _ => (pg_name (i := 3) sc_law_pieces.nd rfl (Or.inl rfl))) (fun _ _ _ _ _ => pts_nil) (fun _ _ _ _ _ => (pe_d c_law_plant (hr.mono (by decide)) pass0 (pa_cons (pv 0) (pa_cons (pv 1) (pa_cons (pe_op op_add pe_int (pe_d c_law_draw (hr.mono (by decide)) pass0 (pa_cons (pv 0) (pa_cons pe_int pa_nil)))) (pa_cons pe_bl pa_nil))))))))), ?_⟩
    refine ⟨_, rfl, ⟨t, _, rfl, ht⟩, t, l, _, rfl, rfl, ht.q.sq, _, rfl, by omega, by omega, fun G hG => ?_⟩
    rw [Int.toNat_natCast]
    have nGa : G ≠ a := Kp.bag_ne bA hG
    refine lc_range (fun i H' => Kp a H H' ∧ BagAt H' a ∧ ∃ (ts : List Addr) (ls : List (List Str)), ls.length = i ∧ H' G = some (.lst (ts.map V.ref)) ∧ TsAt sV H' ts ls ∧ (∀ x ∈ ls, StumpOk rows x ∧ x.length ≤ 3)) ?_ ?_ ?_
    · exact ⟨(Kp.refl a H).upd_new hG, bA.upd_ne nGa, [], [], rfl, upd_same, TsAt.nil, fun x h => nomatch h⟩
    · rintro i Hi hi ⟨ki, bi, ts, ls, e1, e2, e3, e4⟩
      refine ⟨rfl, _, rfl, _, rfl, _, rfl, a, 3, rfl, bi, by decide, by decide, fun H2 d k2 b2 d0 d3 => ?_⟩
      have ed : d = ((d.toNat : Nat) : Int) := by omega
      refine ⟨_, _, rfl, rfl, a, r, rows, 1 + d.toNat, true, by rw [ed]; rfl, b2, nra, (hR.kp' bA nra (ki.trans k2)), R, by omega, by omega, fun H3 u c k3 b3 hu hf hm hl => ?_⟩
      have kt := (ki.trans k2).trans k3
      have e2' : H3 G = some (.lst (ts.map V.ref)) := k3 _ _ (k2 _ _ e2 nGa) nGa
      have e3' := (e3.keep (k2.tq bi)).keep (k3.tq b2)
      refine ⟨_, e2', ?_, kt.upd_own (by exact hG), b3.upd_ne nGa, ts ++ [u], ls ++ [c], by rw [List.length_append, e1]; rfl, by rw [upd_same, List.map_append]; rfl, (e3'.snoc hu.q).keep (TQ.lst e2'), fun q hq => ?_⟩
      · rw [List.length_map, e3'.1, e1]
        exact lt_line (by omega)
      · rcases List.mem_append.mp hq with h | h
        · exact e4 q h
        · rw [List.mem_singleton.mp h]
          refine ⟨⟨hf, fun z hz => ?_, by omega⟩, by omega⟩
          rcases hm z hz with q | q
          · exact .inl q.2
          · exact .inr q
    · rintro Hz ⟨kz, bz, ts, ls, e1, e2, e3, e4⟩
      exact k _ G ls kz bz hG nGa ⟨ts, e2, e3, e4, by omega⟩ e1
theorem ok_law_with_pieces (T : Bk mg) (D : Def0 K mg "_law_with_pieces" s_law_with_pieces) : DefOk P w K mg base CX0 1 "_law_with_pieces" spLawWith := by
  refine D.ok sc_law_with_pieces (fun vs H Q E h => ?_) (fun _ _ _ _ _ _ us hl => match us, hl with | [_, _], _ => rfl) (fun f cdv A outer s H vs Q E hr h => ?_)
  · obtain ⟨t, be, l, ts, ls, rfl, _⟩ := h
    rfl
  · obtain ⟨t, be, l, ts, ls, rfl, ht, hl100, hbe, hT, hO, hcnt, k⟩ := h
    refine ⟨_, (pss_cons (ps_set (i := 2) sc_law_with_pieces.nd rfl (Or.inl rfl) (pe_lst pa_nil))
      (pss_cons (ps_set (i := 3) sc_law_with_pieces.nd rfl (Or.inl rfl) pe_int)
      (pss_cons (ps_for PassesOwn.never rfl (pi_tup (pv 0)) (pg_name (i := 4) sc_law_with_pieces.nd rfl (Or.inl rfl))
        (pss_one (ps_if (pt_cmpR op_eq (pv 4) pe_str (nomark _))
          (pss_cons (ps_expr (pe_bm PySem.F.plainAttrs_list PySem.F.slot_list_extend PySem.F.type_list_extend mt_extend (pv 2) (pa_cons (pe_callTy call_list_of (by rfl) T.b_list (by decide +kernel) (pa_cons (pe_ix ix_list (pv 1) (pv 3) (fun _ _ => rfl)) pa_nil)) pa_nil)))
          (pss_one (ps_set (i := 3) sc_law_with_pieces.nd rfl (Or.inl rfl) (pe_op op_add (pv 3) pe_int))))
          (pss_one (ps_expr (pe_bm PySem.F.plainAttrs_list PySem.F.slot_list_append PySem.F.type_list_append mt_append (pv 2) (pa_cons (pv 4) pa_nil)))))))
      (pss_one (ps_ret (pe_callTy call_tupleF (by rfl) T.b_tuple (by decide +kernel) (pa_cons (pv 2) pa_nil))))))), ?_⟩
    refine ⟨le_line (show 0 ≤ 100000 by decide), fun D hD => ?_⟩
    have s3 := (Same.refl H).upd_new (o := .lst []) hD
    have hDH := hD
    have hls : ls.length ≤ 100 := by rw [← hcnt]; exact Nat.le_trans List.count_le_length hl100
    have szb : ∀ i, i ≤ l.length → (Mth.fil ("*" : Str) ls l i).length ≤ 500 := fun i hi => by
      rw [Mth.fil_flr ls l i hi]
      have := Mth.flr_len (l.take i) ls 3 (by decide) hO
      rw [List.length_take] at this
      omega
    refine ⟨_, rfl, t, rfl, ⟨_, (ht.same s3).sq⟩, for_it (walk_tup (xs := l.map V.str)) (fun i σ H' => ∃ (x : Option V), σ = [some (.ref t), some (.ref be), some (.ref D), some (.int (((l.take i).count ("*" : Str) : Nat) : Int)), x] ∧ Same H H' ∧ H' D = some (.lst (sV (Mth.fil ("*" : Str) ls l i))))
      ⟨none, rfl, s3, upd_same⟩ (fun i σ H' _ ⟨_, _, q, _⟩ => (ht.same q).sq) ?_ ?_⟩
    · rintro i v σ H3 H2 hi ⟨x, rfl, s2, d2⟩ ⟨rfl, hv⟩
      have hil : i < l.length := by rw [List.length_map] at hi; exact hi
      rw [List.getElem?_map, List.getElem?_eq_getElem hil] at hv
      cases hv
      have hsz := szb i (Nat.le_of_lt hil)
      have hct := Mth.count_take (hole := ("*" : Str)) hil
      have hle : (l.take (i + 1)).count ("*" : Str) ≤ l.count ("*" : Str) := List.Sublist.count_le _ (List.take_sublist _ _)
      have ef : Mth.fil ("*" : Str) ls l (i + 1) = Mth.fil ("*" : Str) ls l i ++ (if l[i] = ("*" : Str) then ls.getD ((l.take i).count ("*" : Str)) [] else [l[i]]) := by
        conv => lhs; unfold Mth.fil
        rw [List.getElem?_eq_getElem hil]
      refine ⟨_, rfl, rfl, _, rfl, ?_⟩
      refine ite2 (fun c => ?_) (fun c => ?_)
      · have c2 := V.str.inj (of_decide_eq_true c)
        rw [if_pos c2] at hct ef
        have hj : (l.take i).count ("*" : Str) < ls.length := by omega
        obtain ⟨u, u1, u2, u3⟩ := hT.at hj
        have eg : ls.getD ((l.take i).count ("*" : Str)) [] = ls[(l.take i).count ("*" : Str)] := by simp [List.getD, hj]
        have hx := hO _ (List.getElem_mem hj)
        refine ⟨_, rfl, .inl ⟨rfl, _, SqL.of d2⟩, _, rfl, _, rfl, be, _, _, _, rfl, rfl, SqL.of (s2 _ _ hbe), at_ofG rfl u2, u, _, rfl, .inr (u3.same s2).sq, fun L hL => ?_⟩
        have nLD : D ≠ L := fun e => by rw [e, hL] at d2; cases d2
        have sLn := s2.upd_new (o := .lst (sV ls[(l.take i).count ("*" : Str)])) hL
        refine ⟨D, L, _, _, rfl, rfl, (upd_ne nLD).trans d2, upd_same, le_line ?_, ?_⟩
        · unfold sV
          rw [List.length_map, List.length_map]
          omega
        · refine ⟨_, rfl, _, _, rfl, rfl, some (.str l[i]), ?_, sLn.upd_own hDH, ?_⟩
          · rw [hct, Int.natCast_add]
            rfl
          · rw [upd_same, ef, eg]
            unfold sV
            rw [List.map_append]
      · have c2 : ¬ l[i] = ("*" : Str) := fun e => c (decide_eq_true (congrArg V.str e))
        rw [if_neg c2] at hct ef
        refine ⟨_, rfl, .inl ⟨rfl, _, SqL.of d2⟩, _, rfl, D, _, _, rfl, rfl, d2, lt_line ?_, ?_⟩
        · unfold sV
          rw [List.length_map]
          omega
        · refine ⟨some (.str l[i]), ?_, s2.upd_own hDH, ?_⟩
          · rw [hct]
            rfl
          · rw [upd_same, ef]
            unfold sV
            rw [List.map_append]
            rfl
    · rintro σ H2 ⟨x, rfl, s2, d2⟩
      rw [List.length_map] at d2
      exact ⟨_, rfl, D, _, rfl, SqL.of d2, fun c o hc ho => k _ c (s2.upd_new hc) ⟨o, upd_same, ho⟩⟩
end
end Sh
end
section
set_option Elab.async false
set_option linter.all false
set_option maxRecDepth 100000
set_option maxHeartbeats 2000000
set_option autoImplicit false
namespace Sh
open PySem PySem.Spec PyProof.Rows L2
open C8 (pss_cut tCut)
open Evl (ixN_nat)
theorem al_of {rows : List Row} : ∀ ps : List (List Str × List Str), (∀ q ∈ ps, PairOk rows q) → Mth.Al (wR rows) (ps.map (·.1)).flatten (ps.map (·.2)).flatten ps
  | [], _ => .nil
  | q :: r, h => by
    have ih := al_of r fun x hx => h x (List.mem_cons_of_mem _ hx)
    rw [List.map_cons, List.map_cons, List.flatten_cons, List.flatten_cons]
    rcases h q List.mem_cons_self with ⟨z, a, b⟩ | ⟨x, y, a, b, e1, e2, hxy, f1, f2⟩
    · obtain ⟨q1, q2⟩ := q
      have a : q1 = [z] := a
      have b : q2 = [z] := b
      subst a b
      exact .same _ _ _ _ ih
    · obtain ⟨q1, q2⟩ := q
      have e1 : q1 = x :: a := e1
      have e2 : q2 = y :: b := e2
      subst e1 e2
      exact .diff _ _ _ _ _ _ _ hxy f1 f2 ih
theorem CmpOk.al {rows : List Row} {l m : List Str} {ps : List (List Str × List Str)} (h : CmpOk rows l m ps) : Mth.Al (wR rows) l m ps := by
  have q := al_of ps h.ok
  rw [h.e1, h.e2] at q
  exact q
theorem com_of {rows : List Row} (R : ROk 8 rows) : ∀ (ms : List (List Str)) (l c : List Str), StumpOk rows l → (∀ x ∈ ms, StumpOk rows x) → ComR rows l ms c → Mth.Com (wR rows) (l :: ms) c ∧ StumpOk rows c ∧ c.length ≤ l.length
  | [], l, c, O, _, h => by
    have e : c = l := h
    rw [e]
    exact ⟨Mth.Com.one (w_star R) O.f, O, Nat.le_refl _⟩
  | m :: ms, l, c, O, hm, ⟨ps, hC, h⟩ => by
    have Os := shr_ok R O hC
    obtain ⟨a, b, d⟩ := com_of R ms (shr ps) c Os (fun x hx => hm x (List.mem_cons_of_mem _ hx)) h
    have q := shr_le ps hC.ok
    rw [hC.e1] at q
    exact ⟨Mth.Com.cons (w_star R) O.f (hm m List.mem_cons_self).f Os.f hC.al a, b, by omega⟩
theorem fdue_none {rows : List Row} (R : ROk 8 rows) {l : List Str} {ls : List (List Str)} (O : StumpOk rows l) (h : ∀ x ∈ ls, StumpOk rows x) (hc : l.count ("*" : Str) = ls.length) (hl : (fill ls l).length ≤ 2000) : fdue rows l ls = none := by
  have fb : fbad rows true ls = none := by
    unfold fbad
    rw [List.findSome?_eq_none_iff]
    exact fun x hx => okdue R (h x hx)
  unfold fdue
  rw [okdue R O]
  dsimp only
  rw [if_neg (fun e => e hc), fb]
  dsimp only
  rw [if_neg (by omega)]
theorem fbad_ok {rows : List Row} (R : ROk 8 rows) {ls : List (List Str)} (h : ∀ x ∈ ls, StumpOk rows x) : fbad rows true ls = none := by
  unfold fbad
  rw [List.findSome?_eq_none_iff]
  exact fun x hx => okdue R (h x hx)
def spLFil (C : Addr) (g : Hp → Addr → List V → Prop) : Sp := fun vs H Q _ => ∃ (b t be : Addr) (rows : List Row) (l : List Str) (ts : List Addr) (ls : List (List Str)), vs = [.ref b, .ref t, .ref be] ∧ BedAt C H b rows ∧ ROk 8 rows ∧ Tz H t (l.map V.str) ∧ StumpOk rows l ∧ g H be (ts.map V.ref) ∧ TsAt sV H ts ls ∧ (∀ x ∈ ls, StumpOk rows x) ∧ l.count ("*" : Str) = ls.length ∧ ls.length ≤ 6 ∧ (fill ls l).length ≤ 2000 ∧
  ∀ H' r, Same H H' → Tq H' r (sV (fill ls l)) → Q (.ref r) H'
def gL (H : Hp) (be : Addr) (xs : List V) : Prop := H be = some (.lst xs)
def spLCom (C : Addr) : Sp := fun vs H Q _ => ∃ (b be : Addr) (rows : List Row) (ts : List Addr) (ls : List (List Str)), vs = [.ref b, .ref be] ∧ BedAt C H b rows ∧ ROk 8 rows ∧ H be = some (.lst (ts.map V.ref)) ∧ TsAt sV H ts ls ∧ (∀ x ∈ ls, StumpOk rows x) ∧ 1 ≤ ls.length ∧ ls.length ≤ 4 ∧
  ∀ H' r c, Same H H' → Tq H' r (sV c) → StumpOk rows c → Mth.Com (wR rows) ls c → Q (.ref r) H'
abbrev s_law_filled : Stmt := top 65
abbrev N_law_filled : List Str := ["bed", "stump", "pieces"]
theorem sc_law_filled : FnScope N_law_filled ["bed", "stump", "pieces"] (defScope s_law_filled) := ⟨rfl, rfl, rfl, by decide +kernel, rfl, by decide +kernel, by decide +kernel⟩
abbrev s_law_common : Stmt := top 66
abbrev N_law_common : List Str := ["bed", "stumps"]
theorem sc_law_common : FnScope N_law_common ["bed", "stumps"] (defScope s_law_common) := ⟨rfl, rfl, rfl, by decide +kernel, rfl, by decide +kernel, by decide +kernel⟩
section
variable {P : Program} {w : World} {K : PySem.W.Frag} {mg : Str → Option Value} {base : Heap} {C : Addr} {A : XA}
theorem ok_law_filled (T : Bk mg) (c_filled : DefOk P w K mg base (L2.CX P w) 5 "filled" (spStar 2 (spFilled C A))) (D : Def0 K mg "_law_filled" s_law_filled) : DefOk P w K mg base CX0 6 "_law_filled" (spLFil C gL) := by
  refine D.ok sc_law_filled (fun vs H Q E h => ?_) (fun _ _ _ _ _ _ us hl => match us, hl with | [_, _, _], _ => rfl) (fun f cdv A' outer s H vs Q E hr h => ?_)
  · obtain ⟨b, t, be, rows, l, ts, ls, rfl, _⟩ := h
    rfl
  · obtain ⟨b, t, be, rows, l, ts, ls, rfl, hB, R, hz, O, hbe, hT, hO, hc, h6, hl, k⟩ := h
    refine ⟨_, (pss_cons (ps_if (pt_cmpR op_eq (pe_callB call_len_seq (by rfl) T.b_len boot_len (pa_cons (pv 2) pa_nil)) pe_int (nomark _))
        (pss_one (ps_ret (pe_d c_filled (hr.mono (by decide)) passL (pa_cons (pv 0) (pa_cons (pv 1) pa_nil)))))
        pss_nil)
      (pss_cons (ps_if (pt_cmpR op_eq (pe_callB call_len_seq (by rfl) T.b_len boot_len (pa_cons (pv 2) pa_nil)) pe_int (nomark _))
        (pss_one (ps_ret (pe_d c_filled (hr.mono (by decide)) passL (pa_cons (pv 0) (pa_cons (pv 1) (pa_cons (pe_ix ix_list (pv 2) pe_int (fun _ _ => rfl)) pa_nil))))))
        pss_nil)
      (pss_cons (ps_if (pt_cmpR op_eq (pe_callB call_len_seq (by rfl) T.b_len boot_len (pa_cons (pv 2) pa_nil)) pe_int (nomark _))
        (pss_one (ps_ret (pe_d c_filled (hr.mono (by decide)) passL (pa_cons (pv 0) (pa_cons (pv 1) (pa_cons (pe_ix ix_list (pv 2) pe_int (fun _ _ => rfl)) (pa_cons (pe_ix ix_list (pv 2) pe_int (fun _ _ => rfl)) pa_nil)))))))
        pss_nil)
      (pss_cons (ps_if (pt_cmpR op_eq (pe_callB call_len_seq (by rfl) T.b_len boot_len (pa_cons (pv 2) pa_nil)) pe_int (nomark _))
        (pss_one (ps_ret (pe_d c_filled (hr.mono (by decide)) passL (pa_cons (pv 0) (pa_cons (pv 1) (pa_cons (pe_ix ix_list (pv 2) pe_int (fun _ _ => rfl)) (pa_cons (pe_ix ix_list (pv 2) pe_int (fun _ _ => rfl)) (pa_cons (pe_ix ix_list (pv 2) pe_int (fun _ _ => rfl)) pa_nil))))))))
        pss_nil)
      (pss_cons (ps_if (pt_cmpR op_eq (pe_callB call_len_seq (by rfl) T.b_len boot_len (pa_cons (pv 2) pa_nil)) pe_int (nomark _))
        (pss_one (ps_ret (pe_d c_filled (hr.mono (by decide)) passL (pa_cons (pv 0) (pa_cons (pv 1) (pa_cons (pe_ix ix_list (pv 2) pe_int (fun _ _ => rfl)) (pa_cons (pe_ix ix_list (pv 2) pe_int (fun _ _ => rfl)) (pa_cons (pe_ix ix_list (pv 2) pe_int (fun _ _ => rfl)) (pa_cons (pe_ix ix_list (pv 2) pe_int (fun _ _ => rfl)) pa_nil)))))))))
        pss_nil)
      (pss_cons (ps_if (pt_cmpR op_eq (pe_callB call_len_seq (by rfl) T.b_len boot_len (pa_cons (pv 2) pa_nil)) pe_int (nomark _))
        (pss_one (ps_ret (pe_d c_filled (hr.mono (by decide)) passL (pa_cons (pv 0) (pa_cons (pv 1) (pa_cons (pe_ix ix_list (pv 2) pe_int (fun _ _ => rfl)) (pa_cons (pe_ix ix_list (pv 2) pe_int (fun _ _ => rfl)) (pa_cons (pe_ix ix_list (pv 2) pe_int (fun _ _ => rfl)) (pa_cons (pe_ix ix_list (pv 2) pe_int (fun _ _ => rfl)) (pa_cons (pe_ix ix_list (pv 2) pe_int (fun _ _ => rfl)) pa_nil))))))))))
        pss_nil)
      (pss_one (ps_ret (pe_d c_filled (hr.mono (by decide)) passL (pa_cons (pv 0) (pa_cons (pv 1) (pa_cons (pe_ix ix_list (pv 2) pe_int (fun _ _ => rfl)) (pa_cons (pe_ix ix_list (pv 2) pe_int (fun _ _ => rfl)) (pa_cons (pe_ix ix_list (pv 2) pe_int (fun _ _ => rfl)) (pa_cons (pe_ix ix_list (pv 2) pe_int (fun _ _ => rfl)) (pa_cons (pe_ix ix_list (pv 2) pe_int (fun _ _ => rfl)) (pa_cons (pe_ix ix_list (pv 2) pe_int (fun _ _ => rfl)) pa_nil))))))))))))))))), ?_⟩
    have hl4 : ts.length ≤ 6 := by rw [hT.1]; exact h6
    have go : ∀ p, H p = none → spFilled C A [.ref b, .ref t, .ref p] (upd H p (.tup (ts.map V.ref))) Q E0 := fun p hp => by
      have s1 := (Same.refl H).upd_new (o := .tup (ts.map V.ref)) hp
      refine ⟨b, t, p, rows, l, ts, ls, rfl, hB.same s1, R, hz.same s1, by have := O.sz; omega, .of upd_same, hT.keep (TQ.new hp), fun x hx => by have := (hO x hx).sz; omega, by omega, ?_⟩
      rw [fdue_none R O hO hc hl]
      exact fun H' r s r' => k H' r (s1.trans s) r'
    have hbe : H be = some (.lst (ts.map V.ref)) := hbe
    match ts, hl4 with
    | [], _ =>
      refine ⟨_, rfl, be, _, rfl, .inl (SqL.of hbe), rfl, _, rfl, ifp (by simp) ?_⟩
      exact ⟨_, rfl, _, rfl, [.ref b, .ref t], [], rfl, rfl, le_line (show 0 ≤ 100000 by decide), go⟩
    | [t0], _ =>
      refine ⟨_, rfl, be, _, rfl, .inl (SqL.of hbe), rfl, _, rfl, ifn (fun e => by simp at e) ?_⟩
      refine ⟨_, rfl, be, _, rfl, .inl (SqL.of hbe), rfl, _, rfl, ifp (by simp) ?_⟩
      exact ⟨_, rfl, _, rfl, _, rfl, be, _, _, _, rfl, rfl, SqL.of hbe, atI_nat (j := 0) rfl, [.ref b, .ref t], [.ref t0], rfl, rfl, le_line (show 1 ≤ 100000 by decide), go⟩
    | [t0, t1], _ =>
      refine ⟨_, rfl, be, _, rfl, .inl (SqL.of hbe), rfl, _, rfl, ifn (fun e => by simp at e) ?_⟩
      refine ⟨_, rfl, be, _, rfl, .inl (SqL.of hbe), rfl, _, rfl, ifn (fun e => by simp at e) ?_⟩
      refine ⟨_, rfl, be, _, rfl, .inl (SqL.of hbe), rfl, _, rfl, ifp (by simp) ?_⟩
      exact ⟨_, rfl, _, rfl, _, rfl, be, _, _, _, rfl, rfl, SqL.of hbe, atI_nat (j := 0) rfl, _, rfl, be, _, _, _, rfl, rfl, SqL.of hbe, atI_nat (j := 1) rfl, [.ref b, .ref t], [.ref t0, .ref t1], rfl, rfl, le_line (show 2 ≤ 100000 by decide), go⟩
    | [t0, t1, t2], _ =>
      refine ⟨_, rfl, be, _, rfl, .inl (SqL.of hbe), rfl, _, rfl, ifn (fun e => by simp at e) ?_⟩
      refine ⟨_, rfl, be, _, rfl, .inl (SqL.of hbe), rfl, _, rfl, ifn (fun e => by simp at e) ?_⟩
      refine ⟨_, rfl, be, _, rfl, .inl (SqL.of hbe), rfl, _, rfl, ifn (fun e => by simp at e) ?_⟩
      refine ⟨_, rfl, be, _, rfl, .inl (SqL.of hbe), rfl, _, rfl, ifp (by simp) ?_⟩
      exact ⟨_, rfl, _, rfl, _, rfl, be, _, _, _, rfl, rfl, SqL.of hbe, atI_nat (j := 0) rfl, _, rfl, be, _, _, _, rfl, rfl, SqL.of hbe, atI_nat (j := 1) rfl, _, rfl, be, _, _, _, rfl, rfl, SqL.of hbe, atI_nat (j := 2) rfl, [.ref b, .ref t], [.ref t0, .ref t1, .ref t2], rfl, rfl, le_line (show 3 ≤ 100000 by decide), go⟩
    | [t0, t1, t2, t3], _ =>
      refine ⟨_, rfl, be, _, rfl, .inl (SqL.of hbe), rfl, _, rfl, ifn (fun e => by simp at e) ?_⟩
      refine ⟨_, rfl, be, _, rfl, .inl (SqL.of hbe), rfl, _, rfl, ifn (fun e => by simp at e) ?_⟩
      refine ⟨_, rfl, be, _, rfl, .inl (SqL.of hbe), rfl, _, rfl, ifn (fun e => by simp at e) ?_⟩
      refine ⟨_, rfl, be, _, rfl, .inl (SqL.of hbe), rfl, _, rfl, ifn (fun e => by simp at e) ?_⟩
      refine ⟨_, rfl, be, _, rfl, .inl (SqL.of hbe), rfl, _, rfl, ifp (by simp) ?_⟩
      exact ⟨_, rfl, _, rfl, _, rfl, be, _, _, _, rfl, rfl, SqL.of hbe, atI_nat (j := 0) rfl, _, rfl, be, _, _, _, rfl, rfl, SqL.of hbe, atI_nat (j := 1) rfl, _, rfl, be, _, _, _, rfl, rfl, SqL.of hbe, atI_nat (j := 2) rfl, _, rfl, be, _, _, _, rfl, rfl, SqL.of hbe, atI_nat (j := 3) rfl, [.ref b, .ref t], [.ref t0, .ref t1, .ref t2, .ref t3], rfl, rfl, le_line (show 4 ≤ 100000 by decide), go⟩
    | [t0, t1, t2, t3, t4], _ =>
      refine ⟨_, rfl, be, _, rfl, .inl (SqL.of hbe), rfl, _, rfl, ifn (fun e => by simp at e) ?_⟩
      refine ⟨_, rfl, be, _, rfl, .inl (SqL.of hbe), rfl, _, rfl, ifn (fun e => by simp at e) ?_⟩
      refine ⟨_, rfl, be, _, rfl, .inl (SqL.of hbe), rfl, _, rfl, ifn (fun e => by simp at e) ?_⟩
      refine ⟨_, rfl, be, _, rfl, .inl (SqL.of hbe), rfl, _, rfl, ifn (fun e => by simp at e) ?_⟩
      refine ⟨_, rfl, be, _, rfl, .inl (SqL.of hbe), rfl, _, rfl, ifn (fun e => by simp at e) ?_⟩
      refine ⟨_, rfl, be, _, rfl, .inl (SqL.of hbe), rfl, _, rfl, ifp (by simp) ?_⟩
      exact ⟨_, rfl, _, rfl, _, rfl, be, _, _, _, rfl, rfl, SqL.of hbe, atI_nat (j := 0) rfl, _, rfl, be, _, _, _, rfl, rfl, SqL.of hbe, atI_nat (j := 1) rfl, _, rfl, be, _, _, _, rfl, rfl, SqL.of hbe, atI_nat (j := 2) rfl, _, rfl, be, _, _, _, rfl, rfl, SqL.of hbe, atI_nat (j := 3) rfl, _, rfl, be, _, _, _, rfl, rfl, SqL.of hbe, atI_nat (j := 4) rfl, [.ref b, .ref t], [.ref t0, .ref t1, .ref t2, .ref t3, .ref t4], rfl, rfl, le_line (show 5 ≤ 100000 by decide), go⟩
    | [t0, t1, t2, t3, t4, t5], _ =>
      refine ⟨_, rfl, be, _, rfl, .inl (SqL.of hbe), rfl, _, rfl, ifn (fun e => by simp at e) ?_⟩
      refine ⟨_, rfl, be, _, rfl, .inl (SqL.of hbe), rfl, _, rfl, ifn (fun e => by simp at e) ?_⟩
      refine ⟨_, rfl, be, _, rfl, .inl (SqL.of hbe), rfl, _, rfl, ifn (fun e => by simp at e) ?_⟩
      refine ⟨_, rfl, be, _, rfl, .inl (SqL.of hbe), rfl, _, rfl, ifn (fun e => by simp at e) ?_⟩
      refine ⟨_, rfl, be, _, rfl, .inl (SqL.of hbe), rfl, _, rfl, ifn (fun e => by simp at e) ?_⟩
      refine ⟨_, rfl, be, _, rfl, .inl (SqL.of hbe), rfl, _, rfl, ifn (fun e => by simp at e) ?_⟩
      exact ⟨_, rfl, _, rfl, _, rfl, be, _, _, _, rfl, rfl, SqL.of hbe, atI_nat (j := 0) rfl, _, rfl, be, _, _, _, rfl, rfl, SqL.of hbe, atI_nat (j := 1) rfl, _, rfl, be, _, _, _, rfl, rfl, SqL.of hbe, atI_nat (j := 2) rfl, _, rfl, be, _, _, _, rfl, rfl, SqL.of hbe, atI_nat (j := 3) rfl, _, rfl, be, _, _, _, rfl, rfl, SqL.of hbe, atI_nat (j := 4) rfl, _, rfl, be, _, _, _, rfl, rfl, SqL.of hbe, atI_nat (j := 5) rfl, [.ref b, .ref t], [.ref t0, .ref t1, .ref t2, .ref t3, .ref t4, .ref t5], rfl, rfl, le_line (show 6 ≤ 100000 by decide), go⟩
    | _ :: _ :: _ :: _ :: _ :: _ :: _ :: _, h => exact absurd h (by simp)
theorem ok_law_filled_t (T : Bk mg) (c_filled : DefOk P w K mg base (L2.CX P w) 5 "filled" (spStar 2 (spFilled C A))) (D : Def0 K mg "_law_filled" s_law_filled) : DefOk P w K mg base CX0 6 "_law_filled" (spLFil C Tq) := by
  refine D.ok sc_law_filled (fun vs H Q E h => ?_) (fun _ _ _ _ _ _ us hl => match us, hl with | [_, _, _], _ => rfl) (fun f cdv A' outer s H vs Q E hr h => ?_)
  · obtain ⟨b, t, be, rows, l, ts, ls, rfl, _⟩ := h
    rfl
  · obtain ⟨b, t, be, rows, l, ts, ls, rfl, hB, R, hz, O, hbe, hT, hO, hc, h6, hl, k⟩ := h
    refine ⟨_, (pss_cons (ps_if (pt_cmpR op_eq (pe_callB call_len_seq (by rfl) T.b_len boot_len (pa_cons (pv 2) pa_nil)) pe_int (nomark _))
        (pss_one (ps_ret (pe_d c_filled (hr.mono (by decide)) passL (pa_cons (pv 0) (pa_cons (pv 1) pa_nil)))))
        pss_nil)
      (pss_cons (ps_if (pt_cmpR op_eq (pe_callB call_len_seq (by rfl) T.b_len boot_len (pa_cons (pv 2) pa_nil)) pe_int (nomark _))
        (pss_one (ps_ret (pe_d c_filled (hr.mono (by decide)) passL (pa_cons (pv 0) (pa_cons (pv 1) (pa_cons (pe_ix ix_tup (pv 2) pe_int (fun _ _ => rfl)) pa_nil))))))
        pss_nil)
      (pss_cons (ps_if (pt_cmpR op_eq (pe_callB call_len_seq (by rfl) T.b_len boot_len (pa_cons (pv 2) pa_nil)) pe_int (nomark _))
        (pss_one (ps_ret (pe_d c_filled (hr.mono (by decide)) passL (pa_cons (pv 0) (pa_cons (pv 1) (pa_cons (pe_ix ix_tup (pv 2) pe_int (fun _ _ => rfl)) (pa_cons (pe_ix ix_tup (pv 2) pe_int (fun _ _ => rfl)) pa_nil)))))))
        pss_nil)
      (pss_cons (ps_if (pt_cmpR op_eq (pe_callB call_len_seq (by rfl) T.b_len boot_len (pa_cons (pv 2) pa_nil)) pe_int (nomark _))
        (pss_one (ps_ret (pe_d c_filled (hr.mono (by decide)) passL (pa_cons (pv 0) (pa_cons (pv 1) (pa_cons (pe_ix ix_tup (pv 2) pe_int (fun _ _ => rfl)) (pa_cons (pe_ix ix_tup (pv 2) pe_int (fun _ _ => rfl)) (pa_cons (pe_ix ix_tup (pv 2) pe_int (fun _ _ => rfl)) pa_nil))))))))
        pss_nil)
      (pss_cons (ps_if (pt_cmpR op_eq (pe_callB call_len_seq (by rfl) T.b_len boot_len (pa_cons (pv 2) pa_nil)) pe_int (nomark _))
        (pss_one (ps_ret (pe_d c_filled (hr.mono (by decide)) passL (pa_cons (pv 0) (pa_cons (pv 1) (pa_cons (pe_ix ix_tup (pv 2) pe_int (fun _ _ => rfl)) (pa_cons (pe_ix ix_tup (pv 2) pe_int (fun _ _ => rfl)) (pa_cons (pe_ix ix_tup (pv 2) pe_int (fun _ _ => rfl)) (pa_cons (pe_ix ix_tup (pv 2) pe_int (fun _ _ => rfl)) pa_nil)))))))))
        pss_nil)
      (pss_cons (ps_if (pt_cmpR op_eq (pe_callB call_len_seq (by rfl) T.b_len boot_len (pa_cons (pv 2) pa_nil)) pe_int (nomark _))
        (pss_one (ps_ret (pe_d c_filled (hr.mono (by decide)) passL (pa_cons (pv 0) (pa_cons (pv 1) (pa_cons (pe_ix ix_tup (pv 2) pe_int (fun _ _ => rfl)) (pa_cons (pe_ix ix_tup (pv 2) pe_int (fun _ _ => rfl)) (pa_cons (pe_ix ix_tup (pv 2) pe_int (fun _ _ => rfl)) (pa_cons (pe_ix ix_tup (pv 2) pe_int (fun _ _ => rfl)) (pa_cons (pe_ix ix_tup (pv 2) pe_int (fun _ _ => rfl)) pa_nil))))))))))
        pss_nil)
      (pss_one (ps_ret (pe_d c_filled (hr.mono (by decide)) passL (pa_cons (pv 0) (pa_cons (pv 1) (pa_cons (pe_ix ix_tup (pv 2) pe_int (fun _ _ => rfl)) (pa_cons (pe_ix ix_tup (pv 2) pe_int (fun _ _ => rfl)) (pa_cons (pe_ix ix_tup (pv 2) pe_int (fun _ _ => rfl)) (pa_cons (pe_ix ix_tup (pv 2) pe_int (fun _ _ => rfl)) (pa_cons (pe_ix ix_tup (pv 2) pe_int (fun _ _ => rfl)) (pa_cons (pe_ix ix_tup (pv 2) pe_int (fun _ _ => rfl)) pa_nil))))))))))))))))), ?_⟩
    have hl4 : ts.length ≤ 6 := by rw [hT.1]; exact h6
    have go : ∀ p, H p = none → spFilled C A [.ref b, .ref t, .ref p] (upd H p (.tup (ts.map V.ref))) Q E0 := fun p hp => by
      have s1 := (Same.refl H).upd_new (o := .tup (ts.map V.ref)) hp
      refine ⟨b, t, p, rows, l, ts, ls, rfl, hB.same s1, R, hz.same s1, by have := O.sz; omega, .of upd_same, hT.keep (TQ.new hp), fun x hx => by have := (hO x hx).sz; omega, by omega, ?_⟩
      rw [fdue_none R O hO hc hl]
      exact fun H' r s r' => k H' r (s1.trans s) r'
    match ts, hl4 with
    | [], _ =>
      refine ⟨_, rfl, be, _, rfl, .inr hbe.sq, rfl, _, rfl, ifp (by simp) ?_⟩
      exact ⟨_, rfl, _, rfl, [.ref b, .ref t], [], rfl, rfl, le_line (show 0 ≤ 100000 by decide), go⟩
    | [t0], _ =>
      refine ⟨_, rfl, be, _, rfl, .inr hbe.sq, rfl, _, rfl, ifn (fun e => by simp at e) ?_⟩
      refine ⟨_, rfl, be, _, rfl, .inr hbe.sq, rfl, _, rfl, ifp (by simp) ?_⟩
      exact ⟨_, rfl, _, rfl, _, rfl, be, _, _, _, rfl, rfl, hbe.sq, atI_nat (j := 0) rfl, [.ref b, .ref t], [.ref t0], rfl, rfl, le_line (show 1 ≤ 100000 by decide), go⟩
    | [t0, t1], _ =>
      refine ⟨_, rfl, be, _, rfl, .inr hbe.sq, rfl, _, rfl, ifn (fun e => by simp at e) ?_⟩
      refine ⟨_, rfl, be, _, rfl, .inr hbe.sq, rfl, _, rfl, ifn (fun e => by simp at e) ?_⟩
      refine ⟨_, rfl, be, _, rfl, .inr hbe.sq, rfl, _, rfl, ifp (by simp) ?_⟩
      exact ⟨_, rfl, _, rfl, _, rfl, be, _, _, _, rfl, rfl, hbe.sq, atI_nat (j := 0) rfl, _, rfl, be, _, _, _, rfl, rfl, hbe.sq, atI_nat (j := 1) rfl, [.ref b, .ref t], [.ref t0, .ref t1], rfl, rfl, le_line (show 2 ≤ 100000 by decide), go⟩
    | [t0, t1, t2], _ =>
      refine ⟨_, rfl, be, _, rfl, .inr hbe.sq, rfl, _, rfl, ifn (fun e => by simp at e) ?_⟩
      refine ⟨_, rfl, be, _, rfl, .inr hbe.sq, rfl, _, rfl, ifn (fun e => by simp at e) ?_⟩
      refine ⟨_, rfl, be, _, rfl, .inr hbe.sq, rfl, _, rfl, ifn (fun e => by simp at e) ?_⟩
      refine ⟨_, rfl, be, _, rfl, .inr hbe.sq, rfl, _, rfl, ifp (by simp) ?_⟩
      exact ⟨_, rfl, _, rfl, _, rfl, be, _, _, _, rfl, rfl, hbe.sq, atI_nat (j := 0) rfl, _, rfl, be, _, _, _, rfl, rfl, hbe.sq, atI_nat (j := 1) rfl, _, rfl, be, _, _, _, rfl, rfl, hbe.sq, atI_nat (j := 2) rfl, [.ref b, .ref t], [.ref t0, .ref t1, .ref t2], rfl, rfl, le_line (show 3 ≤ 100000 by decide), go⟩
    | [t0, t1, t2, t3], _ =>
      refine ⟨_, rfl, be, _, rfl, .inr hbe.sq, rfl, _, rfl, ifn (fun e => by simp at e) ?_⟩
      refine ⟨_, rfl, be, _, rfl, .inr hbe.sq, rfl, _, rfl, ifn (fun e => by simp at e) ?_⟩
      refine ⟨_, rfl, be, _, rfl, .inr hbe.sq, rfl, _, rfl, ifn (fun e => by simp at e) ?_⟩
      refine ⟨_, rfl, be, _, rfl, .inr hbe.sq, rfl, _, rfl, ifn (fun e => by simp at e) ?_⟩
      refine ⟨_, rfl, be, _, rfl, .inr hbe.sq, rfl, _, rfl, ifp (by simp) ?_⟩
      exact ⟨_, rfl, _, rfl, _, rfl, be, _, _, _, rfl, rfl, hbe.sq, atI_nat (j := 0) rfl, _, rfl, be, _, _, _, rfl, rfl, hbe.sq, atI_nat (j := 1) rfl, _, rfl, be, _, _, _, rfl, rfl, hbe.sq, atI_nat (j := 2) rfl, _, rfl, be, _, _, _, rfl, rfl, hbe.sq, atI_nat (j := 3) rfl, [.ref b, .ref t], [.ref t0, .ref t1, .ref t2, .ref t3], rfl, rfl, le_line (show 4 ≤ 100000 by decide), go⟩
    | [t0, t1, t2, t3, t4], _ =>
      refine ⟨_, rfl, be, _, rfl, .inr hbe.sq, rfl, _, rfl, ifn (fun e => by simp at e) ?_⟩
      refine ⟨_, rfl, be, _, rfl, .inr hbe.sq, rfl, _, rfl, ifn (fun e => by simp at e) ?_⟩
      refine ⟨_, rfl, be, _, rfl, .inr hbe.sq, rfl, _, rfl, ifn (fun e => by simp at e) ?_⟩
      refine ⟨_, rfl, be, _, rfl, .inr hbe.sq, rfl, _, rfl, ifn (fun e => by simp at e) ?_⟩
      refine ⟨_, rfl, be, _, rfl, .inr hbe.sq, rfl, _, rfl, ifn (fun e => by simp at e) ?_⟩
      refine ⟨_, rfl, be, _, rfl, .inr hbe.sq, rfl, _, rfl, ifp (by simp) ?_⟩
      exact ⟨_, rfl, _, rfl, _, rfl, be, _, _, _, rfl, rfl, hbe.sq, atI_nat (j := 0) rfl, _, rfl, be, _, _, _, rfl, rfl, hbe.sq, atI_nat (j := 1) rfl, _, rfl, be, _, _, _, rfl, rfl, hbe.sq, atI_nat (j := 2) rfl, _, rfl, be, _, _, _, rfl, rfl, hbe.sq, atI_nat (j := 3) rfl, _, rfl, be, _, _, _, rfl, rfl, hbe.sq, atI_nat (j := 4) rfl, [.ref b, .ref t], [.ref t0, .ref t1, .ref t2, .ref t3, .ref t4], rfl, rfl, le_line (show 5 ≤ 100000 by decide), go⟩
    | [t0, t1, t2, t3, t4, t5], _ =>
      refine ⟨_, rfl, be, _, rfl, .inr hbe.sq, rfl, _, rfl, ifn (fun e => by simp at e) ?_⟩
      refine ⟨_, rfl, be, _, rfl, .inr hbe.sq, rfl, _, rfl, ifn (fun e => by simp at e) ?_⟩
      refine ⟨_, rfl, be, _, rfl, .inr hbe.sq, rfl, _, rfl, ifn (fun e => by simp at e) ?_⟩
      refine ⟨_, rfl, be, _, rfl, .inr hbe.sq, rfl, _, rfl, ifn (fun e => by simp at e) ?_⟩
      refine ⟨_, rfl, be, _, rfl, .inr hbe.sq, rfl, _, rfl, ifn (fun e => by simp at e) ?_⟩
      refine ⟨_, rfl, be, _, rfl, .inr hbe.sq, rfl, _, rfl, ifn (fun e => by simp at e) ?_⟩
      exact ⟨_, rfl, _, rfl, _, rfl, be, _, _, _, rfl, rfl, hbe.sq, atI_nat (j := 0) rfl, _, rfl, be, _, _, _, rfl, rfl, hbe.sq, atI_nat (j := 1) rfl, _, rfl, be, _, _, _, rfl, rfl, hbe.sq, atI_nat (j := 2) rfl, _, rfl, be, _, _, _, rfl, rfl, hbe.sq, atI_nat (j := 3) rfl, _, rfl, be, _, _, _, rfl, rfl, hbe.sq, atI_nat (j := 4) rfl, _, rfl, be, _, _, _, rfl, rfl, hbe.sq, atI_nat (j := 5) rfl, [.ref b, .ref t], [.ref t0, .ref t1, .ref t2, .ref t3, .ref t4, .ref t5], rfl, rfl, le_line (show 6 ≤ 100000 by decide), go⟩
    | _ :: _ :: _ :: _ :: _ :: _ :: _ :: _, h => exact absurd h (by simp)
theorem ok_law_common (T : Bk mg) (c_common : DefOk P w K mg base (L2.CX P w) 5 "common" (spStar 2 (spCommon C A))) (D : Def0 K mg "_law_common" s_law_common) : DefOk P w K mg base CX0 6 "_law_common" (spLCom C) := by
  refine D.ok sc_law_common (fun vs H Q E h => ?_) (fun _ _ _ _ _ _ us hl => match us, hl with | [_, _], _ => rfl) (fun f cdv A' outer s H vs Q E hr h => ?_)
  · obtain ⟨b, be, rows, ts, ls, rfl, _⟩ := h
    rfl
  · obtain ⟨b, be, rows, ts, ls, rfl, hB, R, hbe, hT, hO, h1, h4, k⟩ := h
    refine ⟨_, (pss_cons (ps_if (pt_cmpR op_eq (pe_callB call_len_seq (by rfl) T.b_len boot_len (pa_cons (pv 1) pa_nil)) pe_int (nomark _))
        (pss_one (ps_ret (pe_d c_common (hr.mono (by decide)) passL (pa_cons (pv 0) (pa_cons (pe_ix ix_list (pv 1) pe_int (fun _ _ => rfl)) pa_nil)))))
        pss_nil)
      (pss_cons (ps_if (pt_cmpR op_eq (pe_callB call_len_seq (by rfl) T.b_len boot_len (pa_cons (pv 1) pa_nil)) pe_int (nomark _))
        (pss_one (ps_ret (pe_d c_common (hr.mono (by decide)) passL (pa_cons (pv 0) (pa_cons (pe_ix ix_list (pv 1) pe_int (fun _ _ => rfl)) (pa_cons (pe_ix ix_list (pv 1) pe_int (fun _ _ => rfl)) pa_nil))))))
        pss_nil)
      (pss_cons (ps_if (pt_cmpR op_eq (pe_callB call_len_seq (by rfl) T.b_len boot_len (pa_cons (pv 1) pa_nil)) pe_int (nomark _))
        (pss_one (ps_ret (pe_d c_common (hr.mono (by decide)) passL (pa_cons (pv 0) (pa_cons (pe_ix ix_list (pv 1) pe_int (fun _ _ => rfl)) (pa_cons (pe_ix ix_list (pv 1) pe_int (fun _ _ => rfl)) (pa_cons (pe_ix ix_list (pv 1) pe_int (fun _ _ => rfl)) pa_nil)))))))
        pss_nil)
      (pss_one (ps_ret (pe_d c_common (hr.mono (by decide)) passL (pa_cons (pv 0) (pa_cons (pe_ix ix_list (pv 1) pe_int (fun _ _ => rfl)) (pa_cons (pe_ix ix_list (pv 1) pe_int (fun _ _ => rfl)) (pa_cons (pe_ix ix_list (pv 1) pe_int (fun _ _ => rfl)) (pa_cons (pe_ix ix_list (pv 1) pe_int (fun _ _ => rfl)) pa_nil))))))))))), ?_⟩
    have go : ∀ (t0 : Addr) (us : List Addr), ts = t0 :: us → ∀ p, H p = none → spCommon C A [.ref b, .ref t0, .ref p] (upd H p (.tup (us.map V.ref))) Q E0 := fun t0 us e p hp => by
      subst e
      have s1 := (Same.refl H).upd_new (o := .tup (us.map V.ref)) hp
      cases ls with
      | nil => simp at h1
      | cons l ms =>
        have ht0 := hT.2 0 t0 l rfl rfl
        have hT' : TsAt sV H us ms := ⟨by simpa using hT.1, fun i t x a b => hT.2 (i + 1) t x a b⟩
        have hOl := hO l List.mem_cons_self
        have hOm : ∀ x ∈ ms, StumpOk rows x := fun x hx => hO x (List.mem_cons_of_mem _ hx)
        refine ⟨b, t0, p, rows, l, us, ms, rfl, hB.same s1, R, (show Tq H t0 (l.map V.str) from ht0).same s1, by have := hOl.sz; omega, .of upd_same, hT'.keep (TQ.new hp), fun x hx => by have := (hOm x hx).sz; omega, by rw [List.length_cons] at h4; omega, ?_⟩
        rw [fbad_ok R hO]
        intro H' q c s hc hq _
        obtain ⟨z1, z2, _⟩ := com_of R ms l c hOl hOm hc
        exact k H' q c (s1.trans s) hq z2 z1
    have hl4 : ts.length ≤ 4 := by rw [hT.1]; exact h4
    have hl1 : 1 ≤ ts.length := by rw [hT.1]; exact h1
    match ts, hl4, hl1 with
    | [], _, h => exact absurd h (by simp)
    | [t0], _, _ =>
      refine ⟨_, rfl, be, _, rfl, .inl (SqL.of hbe), rfl, _, rfl, ifp (by simp) ?_⟩
      exact ⟨_, rfl, _, rfl, be, _, _, _, rfl, rfl, SqL.of hbe, atI_nat (j := 0) rfl, [.ref b, .ref t0], [], rfl, rfl, le_line (show 0 ≤ 100000 by decide), go t0 [] rfl⟩
    | [t0, t1], _, _ =>
      refine ⟨_, rfl, be, _, rfl, .inl (SqL.of hbe), rfl, _, rfl, ifn (fun e => by simp at e) ?_⟩
      refine ⟨_, rfl, be, _, rfl, .inl (SqL.of hbe), rfl, _, rfl, ifp (by simp) ?_⟩
      exact ⟨_, rfl, _, rfl, be, _, _, _, rfl, rfl, SqL.of hbe, atI_nat (j := 0) rfl, _, rfl, be, _, _, _, rfl, rfl, SqL.of hbe, atI_nat (j := 1) rfl, [.ref b, .ref t0], [.ref t1], rfl, rfl, le_line (show 1 ≤ 100000 by decide), go t0 [t1] rfl⟩
    | [t0, t1, t2], _, _ =>
      refine ⟨_, rfl, be, _, rfl, .inl (SqL.of hbe), rfl, _, rfl, ifn (fun e => by simp at e) ?_⟩
      refine ⟨_, rfl, be, _, rfl, .inl (SqL.of hbe), rfl, _, rfl, ifn (fun e => by simp at e) ?_⟩
      refine ⟨_, rfl, be, _, rfl, .inl (SqL.of hbe), rfl, _, rfl, ifp (by simp) ?_⟩
      exact ⟨_, rfl, _, rfl, be, _, _, _, rfl, rfl, SqL.of hbe, atI_nat (j := 0) rfl, _, rfl, be, _, _, _, rfl, rfl, SqL.of hbe, atI_nat (j := 1) rfl, _, rfl, be, _, _, _, rfl, rfl, SqL.of hbe, atI_nat (j := 2) rfl, [.ref b, .ref t0], [.ref t1, .ref t2], rfl, rfl, le_line (show 2 ≤ 100000 by decide), go t0 [t1, t2] rfl⟩
    | [t0, t1, t2, t3], _, _ =>
      refine ⟨_, rfl, be, _, rfl, .inl (SqL.of hbe), rfl, _, rfl, ifn (fun e => by simp at e) ?_⟩
      refine ⟨_, rfl, be, _, rfl, .inl (SqL.of hbe), rfl, _, rfl, ifn (fun e => by simp at e) ?_⟩
      refine ⟨_, rfl, be, _, rfl, .inl (SqL.of hbe), rfl, _, rfl, ifn (fun e => by simp at e) ?_⟩
      exact ⟨_, rfl, _, rfl, be, _, _, _, rfl, rfl, SqL.of hbe, atI_nat (j := 0) rfl, _, rfl, be, _, _, _, rfl, rfl, SqL.of hbe, atI_nat (j := 1) rfl, _, rfl, be, _, _, _, rfl, rfl, SqL.of hbe, atI_nat (j := 2) rfl, _, rfl, be, _, _, _, rfl, rfl, SqL.of hbe, atI_nat (j := 3) rfl, [.ref b, .ref t0], [.ref t1, .ref t2, .ref t3], rfl, rfl, le_line (show 3 ≤ 100000 by decide), go t0 [t1, t2, t3] rfl⟩
    | _ :: _ :: _ :: _ :: _ :: _, h, _ => exact absurd h (by simp)
end
end Sh
end
section
set_option Elab.async false
set_option linter.all false
set_option maxRecDepth 100000
set_option maxHeartbeats 2000000
set_option autoImplicit false
namespace L2
open PySem PySem.Spec PyProof.Rows
section
variable {X : Cx}
/-- l.count(x), l a list of texts -/
def rCntS (K : PySem.W.Frag) : V → List V → Hp → VK → Prop := fun x xs H Q => ∃ (p : Addr) (ys : List Str) (z : Str), x = .ref p ∧ xs = [.str z] ∧ SqL K H p (ys.map V.str) ∧ Q (.int (ys.count z : Nat)) H
theorem mt_scount : MtR X "list.count" (rCntS X.K) := by
  intro pins s σ H x xs v us Q I rx rxs h
  obtain ⟨p, ys, z, rfl, rfl, hs, q⟩ := h
  cases rx
  obtain ⟨u, rfl, ru⟩ := rxs.one
  obtain ⟨t, rfl⟩ := ru
  obtain ⟨its, rv, ⟨⟨cls, dd, data, sl⟩, n, ho, hc, hdn, hd⟩, hlen⟩ := I.list hs
  simp only at hc hd
  subst hc hd
  refine call_meets PySem.F.slot_list_count ⟨_, ho, rfl⟩ PySem.F.entry_list_count (PySem.F.args_list_count_2 _ _)
    (SeqAt.list_countAt p its.toArray n dd sl (.str z t) (eqs z)) ⟨ho, fun y hy => eqs_at rv y (by simpa using hy), ?_⟩
  have ec : its.toArray.toList.countP (eqs z) = ys.count z := eqs_count rv
  refine ⟨.int (ys.count z : Nat), H, I.tok _, ⟨s.toks, ?_⟩, q⟩
  show Value.int ((its.toArray.toList.countP (eqs z) : Nat) : Int) s.toks = Value.int ((ys.count z : Nat) : Int) s.toks
  rw [ec]
end
end L2
namespace Sh
open PySem PySem.Spec PyProof.Rows L2
open C8 (pss_cut tCut)
open Evl (ixN_nat)
def spLawRel : Sp := fun vs H Q _ => ∃ (a r t : Addr) (rows : List Row) (l : List Str), vs = [.ref a, .ref r, .ref t] ∧ BagAt H a ∧ r ≠ a ∧ RowsAt H r rows ∧ ROk 8 rows ∧ Tz H t (l.map V.str) ∧ StumpOk rows l ∧ l.length ≤ 9 ∧ ∀ H' q c, Kp a H H' → BagAt H' a → Tz H' q (sV c) → StumpOk rows c → c.length ≤ 27 → Q (.ref q) H'
/-- dicts of kinds in a list -/
def KlAt (H : Hp) (D : Addr) (rows : List Row) (ls : List (List Str)) : Prop := ∃ gs : List Addr, H D = some (.lst (gs.map V.ref)) ∧ gs.length = ls.length ∧ ∀ j (h : j < ls.length), ∃ g, gs[j]? = some g ∧ KdAt H g rows ls[j]
theorem KlAt.same {H H' : Hp} {D : Addr} {rows : List Row} {ls : List (List Str)} (x : KlAt H D rows ls) (s : Same H H') : KlAt H' D rows ls := by
  obtain ⟨gs, a, b, c⟩ := x
  exact ⟨gs, s _ _ a, b, fun j h => by obtain ⟨g, p, q⟩ := c j h; exact ⟨g, p, q.same s⟩⟩
/-- dicts with tuple keys stay -/
def TD (H H' : Hp) : Prop := ∀ t kvs, H t = some (.dT kvs) → H' t = some (.dT kvs)
theorem TD.trans {H H1 H2 : Hp} (x : TD H H1) (y : TD H1 H2) : TD H H2 := fun t xs h => y t xs (x t xs h)
theorem TD.of_same {H H' : Hp} (s : Same H H') : TD H H' := fun t xs h => s _ _ h
theorem TD.lst {H : Hp} {p : Addr} {ys : List V} {o : HO} (h : H p = some (.lst ys)) : TD H (upd H p o) := fun t xs q => by
  rw [upd_ne (ne_of q h (by intro e; cases e))]
  exact q
theorem KdAt.td {H H' : Hp} {D : Addr} {rows : List Row} {l : List Str} (x : KdAt H D rows l) (s : TD H H') : KdAt H' D rows l := by
  obtain ⟨kvs, a, b⟩ := x
  exact ⟨kvs, s _ _ a, b⟩
def spLCR : Sp := fun vs H Q _ => ∃ (r t be : Addr) (rows : List Row) (c : List Str) (ts : List Addr) (ls : List (List Str)), vs = [.ref r, .ref t, .ref be] ∧ RowsAt H r rows ∧ ROk 8 rows ∧ Tq H t (c.map V.str) ∧ StumpOk rows c ∧ H be = some (.lst (ts.map V.ref)) ∧ TsAt sV H ts ls ∧ (∀ x ∈ ls, StumpOk rows x) ∧ 1 ≤ ls.length ∧ ls.length ≤ 4 ∧ Mth.Com (wR rows) ls c ∧ ∀ H', Same H H' → Q (.bl true) H'
/-- what stands for the kind at a path -/
def kat (w : Str → Nat) (p : List Nat) (l : List Str) (z : Str) : Prop := (z = "*" ∧ ¬ ∃ y, y ≠ ("*" : Str) ∧ Mth.InE w l p y) ∨ (z ≠ "*" ∧ Mth.InE w l p z)
theorem KdAt.get {H : Hp} {g q : Addr} {rows : List Row} {l : List Str} {p : List Nat} (h : KdAt H g rows l) (hq : H q = some (.tup (pV p))) : ∃ o, DGet H g (.ref q) o ∧ ∃ z, o.getD (.str "*") = .str z ∧ kat (wR rows) p l z := by
  obtain ⟨kvs, a, b⟩ := h
  refine ⟨valV kvs (pk p), DGet.t a (by rw [pk_kV]; exact hq), ?_⟩
  cases hv : valV kvs (pk p) with
  | none =>
    refine ⟨"*", rfl, .inl ⟨rfl, fun ⟨y, h1, h2⟩ => ?_⟩⟩
    have := (b.v p _).mpr ⟨y, rfl, h1, h2⟩
    rw [hv] at this
    cases this
  | some x =>
    obtain ⟨z, e, h1, h2⟩ := (b.v p x).mp hv
    exact ⟨z, e, .inr ⟨h1, h2⟩⟩
theorem count_all {z : Str} : ∀ {l : List Str}, l.count z = l.length → ∀ x ∈ l, x = z
  | [], _, x, h => nomatch h
  | y :: l, h, x, hx => by
    rw [List.count_cons, List.length_cons] at h
    have hle := List.count_le_length (a := z) (l := l)
    have e : y = z := by
      by_cases e : (y == z) = true
      · exact beq_iff_eq.mp e
      · rw [if_neg e] at h
        omega
    rcases List.mem_cons.mp hx with q | q
    · rw [q]; exact e
    · refine count_all (l := l) ?_ x q
      rw [e, if_pos (beq_self_eq_true z)] at h
      omega
abbrev s_law_related : Stmt := top 64
abbrev N_law_related : List Str := ["bag", "rows", "stump", "way", "less", "grown"]
theorem sc_law_related : FnScope N_law_related ["bag", "rows", "stump"] (defScope s_law_related) := ⟨rfl, rfl, rfl, by decide +kernel, rfl, by decide +kernel, by decide +kernel⟩
abbrev s_law_common_right : Stmt := top 67
abbrev N_law_common_right : List Str := ["rows", "told", "stumps", "tables", "table", "path", "here", "stump"]
theorem sc_law_common_right : FnScope N_law_common_right ["rows", "told", "stumps"] (defScope s_law_common_right) := ⟨rfl, rfl, rfl, by decide +kernel, rfl, by decide +kernel, by decide +kernel⟩
section
variable {P : Program} {w : World} {K : PySem.W.Frag} {mg : Str → Option Value} {base : Heap} {C CT : Addr}
theorem ok_law_related (T : Bk mg) (c_law_draw : DefOk P w K mg base CX0 1 "_law_draw" spDraw) (c_law_plant : DefOk P w K mg base CX0 2 "_law_plant" spLawPlant) (c_law_cut_down : DefOk P w K mg base CX0 4 "_law_cut_down" spLawCut) (c_law_pieces : DefOk P w K mg base CX0 3 "_law_pieces" spLawPieces) (c_law_with_pieces : DefOk P w K mg base CX0 1 "_law_with_pieces" spLawWith) (D : Def0 K mg "_law_related" s_law_related) : DefOk P w K mg base CX0 5 "_law_related" spLawRel := by
  refine D.ok sc_law_related (fun vs H Q E h => ?_) (fun _ _ _ _ _ _ us hl => match us, hl with | [_, _, _], _ => rfl) (fun f cdv A outer s H vs Q E hr h => ?_)
  · obtain ⟨a, r, t, rows, l, rfl, _⟩ := h
    rfl
  · obtain ⟨a, r, t, rows, l, rfl, bA, nra, hR, R, ht, O, h9, k⟩ := h
    refine ⟨_, (pss_cons (ps_set (i := 3) sc_law_related.nd rfl (Or.inl rfl) (pe_d c_law_draw (hr.mono (by decide)) pass0 (pa_cons (pv 0) (pa_cons pe_int pa_nil))))
      (pss_cons (ps_if (pt_cmpR op_eq (pv 3) pe_int (nomark _))
        (pss_one (ps_ret (pe_d c_law_plant (hr.mono (by decide)) pass0 (pa_cons (pv 0) (pa_cons (pv 1) (pa_cons (pe_op op_add pe_int (pe_d c_law_draw (hr.mono (by decide)) pass0 (pa_cons (pv 0) (pa_cons pe_int pa_nil)))) (pa_cons pe_bl pa_nil)))))))
        pss_nil)
      (pss_cons (ps_set (i := 4) sc_law_related.nd rfl (Or.inl rfl) (pe_d c_law_cut_down (hr.mono (by decide)) pass0 (pa_cons (pv 0) (pa_cons (pv 1) (pa_cons (pv 2) pa_nil)))))
      (pss_cons (ps_set (i := 5) sc_law_related.nd rfl (Or.inl rfl) (pe_d c_law_with_pieces (hr.mono (by decide)) pass0 (pa_cons (pv 4) (pa_cons (pe_d c_law_pieces (hr.mono (by decide)) pass0 (pa_cons (pv 0) (pa_cons (pv 1) (pa_cons (pv 4) pa_nil)))) pa_nil))))
      (pss_one (ps_ret (pe_ix ix_list (pe_lst (pa_cons (pv 2) (pa_cons (pv 2) (pa_cons (pv 4) (pa_cons (pv 5) pa_nil))))) (pv 3) (fun _ _ => rfl)))))))), ?_⟩
    refine ⟨_, rfl, a, 4, rfl, bA, by decide, by decide, fun H1 d k1 b1 d0 d4 => ?_⟩
    refine ⟨_, rfl, rfl, _, rfl, ite2 (fun _ => ?_) (fun hd => ?_)⟩
    · refine ⟨_, rfl, _, rfl, _, rfl, a, 9, rfl, b1, by decide, by decide, fun H2 d k2 b2 d0 d3 => ?_⟩
      have ed : d = ((d.toNat : Nat) : Int) := by omega
      refine ⟨_, _, rfl, rfl, a, r, rows, 1 + d.toNat, true, by rw [ed]; rfl, b2, nra, (hR.kp' bA nra (k1.trans k2)), R, by omega, by omega, fun H3 u c k3 b3 hu hf hm hl => ?_⟩
      refine k _ u c ((k1.trans k2).trans k3) b3 hu ⟨hf, fun z hz => ?_, by omega⟩ (by omega)
      rcases hm z hz with q | q
      · exact .inl q.2
      · exact .inr q
    · have hR1 := hR.kp' bA nra k1
      have ht1 := k1.tz bA ht
      refine ⟨_, rfl, _, rfl, _, rfl, a, r, t, rows, l, rfl, b1, nra, hR1, R, ht1.q, O, fun H2 q c k2 b2 hq Oc hc => ?_⟩
      have hR2 := hR1.kp' b1 nra k2
      have ht2 := k2.tz b1 ht1
      refine ⟨_, rfl, _, rfl, _, rfl, _, rfl, a, r, q, rows, c, rfl, b2, nra, hR2, R, hq, Oc, fun H3 G ls k3 b3 hGN nGa hG hlen => ?_⟩
      have ht3 := k3.tz b2 ht2
      have hq3 := k3.tz b2 hq
      obtain ⟨ts, g1, g2, g3, g4⟩ := hG
      have hc9 : c.length ≤ 9 := by omega
      refine ⟨q, G, c, ts, ls, rfl, hq3.q, by omega, g1, g2, fun x hx => (g3 x hx).2, hlen.symm, fun H4 v s4 hv => ?_⟩
      have b4 := bag_same b3 s4
      have kt := ((k1.trans k2).trans k3).trans (Kp.same (a := a) s4)
      have lenf : (fill ls c).length ≤ 27 := by
        rw [fill_flr]
        have := Mth.flr_len c ls 3 (by decide) (fun x hx => (g3 x hx).2)
        omega
      have Of : StumpOk rows (fill ls c) := fill_ok R Oc (fun x hx => (g3 x hx).1) hlen.symm (by omega)
      refine ⟨_, rfl, _, rfl, _, rfl, _, rfl, le_line (show 4 ≤ 100000 by decide), fun L hL => ?_⟩
      have kt' := kt.upd_new (o := .lst [.ref t, .ref t, .ref q, .ref v]) hL
      have b5 := b4.upd_ne (o := .lst [.ref t, .ref t, .ref q, .ref v]) (Kp.bag_ne b4 hL)
      have s5 := (Same.refl H4).upd_new (o := .lst [.ref t, .ref t, .ref q, .ref v]) hL
      have hd4 : d = 0 ∨ d = 1 ∨ d = 2 ∨ d = 3 := by omega
      rcases hd4 with rfl | rfl | rfl | rfl
      · exact ⟨_, rfl, L, _, _, _, rfl, rfl, SqL.of upd_same, atI_nat (j := 0) rfl, k _ t l kt' b5 ((ht3.same s4).same s5) O (by omega)⟩
      · exact ⟨_, rfl, L, _, _, _, rfl, rfl, SqL.of upd_same, atI_nat (j := 1) rfl, k _ t l kt' b5 ((ht3.same s4).same s5) O (by omega)⟩
      · exact ⟨_, rfl, L, _, _, _, rfl, rfl, SqL.of upd_same, atI_nat (j := 2) rfl, k _ q c kt' b5 ((hq3.same s4).same s5) Oc (by omega)⟩
      · exact ⟨_, rfl, L, _, _, _, rfl, rfl, SqL.of upd_same, atI_nat (j := 3) rfl, k _ v (fill ls c) kt' b5 (hv.same s5) Of lenf⟩
theorem ok_law_common_right (T : Bk mg) (c_law_stump : DefOk P w K mg base CX0 3 "_law_stump" spLawStump) (c_law_kinds : DefOk P w K mg base CX0 4 "_law_kinds" spLawKinds) (c_law_is_begun : DefOk P w K mg base CX0 1 "_law_is_begun" spLawBegun) (c_law_hole_paths : DefOk P w K mg base CX0 4 "_law_hole_paths" spLawHoles) (D : Def0 K mg "_law_common_right" s_law_common_right) : DefOk P w K mg base CX0 5 "_law_common_right" spLCR := by
  refine D.ok sc_law_common_right (fun vs H Q E h => ?_) (fun _ _ _ _ _ _ us hl => match us, hl with | [_, _, _], _ => rfl) (fun f cdv A outer s H vs Q E hr h => ?_)
  · obtain ⟨r, t, be, rows, c, ts, ls, rfl, _⟩ := h
    rfl
  · obtain ⟨r, t, be, rows, c, ts, ls, rfl, hR, R, ht, O, hbe, hT, hO, h1, h4, hC, k⟩ := h
    have hu := hu_of hr
    refine ⟨_, (pss_cons (ps_if (pt_not (pt_val (pe_d c_law_stump (hr.mono (by decide)) pass0 (pa_cons (pv 1) (pa_cons (pv 0) pa_nil)))))
        (pss_one (ps_ret pe_bl))
        pss_nil)
      (pss_cons (ps_setLc (i := 3) (own := [("stump", 7)]) (g := (gName 7)) (tt := tYes) rfl sc_law_common_right.nd rfl rfl (sw_true rfl rfl rfl (by decide +kernel)) (pi_list (pv 2)) (blkOk_by (N := N_law_common_right) (sc := defScope s_law_common_right) (by decide +kernel)) (fun _ _ _ _ _ => (pg_name (i := 7) sc_law_common_right.nd rfl (Or.inl rfl))) (fun _ _ _ _ _ => pts_nil) (fun _ _ _ _ _ => (pe_d c_law_kinds (hr.mono (by decide)) pass0 (pa_cons (pv 0) (pa_cons (pv 7) pa_nil)))))
      (pss_cons (ps_for PassesOwn.never rfl (pi_list (pv 3)) (pg_name (i := 4) sc_law_common_right.nd rfl (Or.inl rfl))
        (pss_one (ps_if (pt_not (pt_val (pe_d c_law_is_begun (hr.mono (by decide)) pass0 (pa_cons (pe_d c_law_kinds (hr.mono (by decide)) pass0 (pa_cons (pv 0) (pa_cons (pv 1) pa_nil))) (pa_cons (pv 4) pa_nil)))))
          (pss_one (ps_ret pe_bl))
          pss_nil)))
      (pss_cons (ps_for PassesOwn.never rfl (pi_list (pe_d c_law_hole_paths (hr.mono (by decide)) pass0 (pa_cons (pv 0) (pa_cons (pv 1) pa_nil)))) (pg_name (i := 5) sc_law_common_right.nd rfl (Or.inr rfl))
        (pss_cons (ps_setLc (i := 6) (own := [("table", 4)]) (g := (gName 4)) (tt := tYes) rfl sc_law_common_right.nd rfl rfl (sw_true rfl rfl rfl (by decide +kernel)) (pi_list (pv 3)) (blkOk_by (N := N_law_common_right) (sc := defScope s_law_common_right) (by decide +kernel)) (fun _ _ _ _ _ => (pg_name (i := 4) sc_law_common_right.nd rfl (Or.inl rfl))) (fun _ _ _ _ _ => pts_nil) (fun _ _ _ _ _ => (pe_dget2 hu (pv 4) (pv 5) pe_str ⟨rfl, rfl, rfl, rfl⟩)))
        (pss_one (ps_if (PW.pt (pw_and (pt_cmpR op_ne (pe_ix ix_list (pv 6) pe_int (fun _ _ => rfl)) pe_str (nomark _)) (pw_and1 (pt_cmpR op_eq (pe_bm PySem.F.plainAttrs_list PySem.F.slot_list_count PySem.F.type_list_count mt_scount (pv 6) (pa_cons (pe_ix ix_list (pv 6) pe_int (fun _ _ => rfl)) pa_nil)) (pe_callB call_len_seq (by rfl) T.b_len boot_len (pa_cons (pv 6) pa_nil)) (nomark _)))))
          (pss_one (ps_ret pe_bl))
          pss_nil))))
      (pss_one (ps_ret pe_bl)))))), ?_⟩
    refine ⟨_, rfl, _, rfl, t, r, rows, c, rfl, hR, R, ht, O, _, rfl, ifn (by decide) ?_⟩
    refine ⟨_, rfl, be, rfl, ⟨_, SqL.of hbe⟩, fun D hD => lc_it (walk_list (xs := ts.map V.ref)) (fun i H' => Same H H' ∧ ∃ gs : List Addr, H' D = some (.lst (gs.map V.ref)) ∧ gs.length = i ∧ ∀ j (h : j < ls.length), j < i → ∃ g, gs[j]? = some g ∧ KdAt H' g rows ls[j]) ⟨(Same.refl H).upd_new hD, [], upd_same, rfl, fun j h q => absurd q (Nat.not_lt_zero j)⟩ (fun i H' _ ⟨q, _⟩ => SqL.of (q _ _ hbe)) ?_ ?_⟩
    · rintro i v H9 H1 hi ⟨s1, gs, d1, e1, g1⟩ ⟨rfl, hv⟩
      have hil : i < ls.length := by rw [List.length_map, hT.1] at hi; exact hi
      obtain ⟨u, u1, u2, u3⟩ := hT.at hil
      rw [u2] at hv
      cases hv
      refine ⟨rfl, _, rfl, _, rfl, r, u, rows, ls[i], rfl, hR.same s1, R, u3.same s1, (hO _ (List.getElem_mem hil)).wf, fun H2 g s2 hg hK => ?_⟩
      have d2 := s2 _ _ d1
      have td : TD H1 (upd H2 D (.lst (gs.map V.ref ++ [.ref g]))) := (TD.of_same s2).trans (TD.lst d2)
      refine ⟨_, d2, lt_line (by rw [List.length_map, e1]; omega), (s1.trans s2).upd_own hD, gs ++ [g], by rw [upd_same, List.map_append]; rfl, by rw [List.length_append, e1]; rfl, fun j h q => ?_⟩
      by_cases e : j < i
      · obtain ⟨g', a, b⟩ := g1 j h e
        exact ⟨g', by rw [List.getElem?_append_left (by omega)]; exact a, b.td td⟩
      · have ej : j = i := by omega
        subst ej
        exact ⟨g, by rw [← e1, List.getElem?_append_right (Nat.le_refl _), Nat.sub_self]; rfl, hK.td (TD.lst d2)⟩
    · rintro H1 ⟨s1, gs, d1, e1, g1⟩
      rw [List.length_map, hT.1] at e1 g1
      have hK : KlAt H1 D rows ls := ⟨gs, d1, e1, fun j h => g1 j h h⟩
      refine ⟨_, rfl, D, rfl, ⟨_, SqL.of d1⟩, for_it (walk_list (xs := gs.map V.ref)) (fun i σ H' => ∃ (x y z : Option V), σ = [some (.ref r), some (.ref t), some (.ref be), some (.ref D), x, y, z, none] ∧ Same H1 H') ⟨none, none, none, rfl, Same.refl H1⟩ (fun i σ H' _ ⟨_, _, _, _, q⟩ => SqL.of (q _ _ d1)) ?_ ?_⟩
      · rintro i v σ H9 H2 hi ⟨x, y, z, rfl, s2⟩ ⟨rfl, hv⟩
        have hil : i < ls.length := by rw [List.length_map, e1] at hi; exact hi
        obtain ⟨g, a, b⟩ := g1 i hil hil
        rw [List.getElem?_map, a] at hv
        cases hv
        have st := s1.trans s2
        refine ⟨_, rfl, _, rfl, r, t, rows, c, rfl, hR.same st, R, ht.same st, O.wf, fun H3 G s3 hG hKc => ?_⟩
        have b3 := (b.same s2).same s3
        have hgG : G ≠ g := fun e => by
          obtain ⟨kvs, q, _⟩ := b.same s2
          rw [e] at hG
          rw [hG] at q
          cases q
        refine ⟨_, rfl, G, g, rows, c, ls[i], rfl, hgG, hKc, b3, O.wf, (hO _ (List.getElem_mem hil)).wf, fun _ => ⟨_, rfl, ifn (by decide) ?_⟩, fun n => absurd (hC.2.1 _ (List.getElem_mem hil)) n⟩
        exact ⟨_, _, _, rfl, s2.trans s3⟩
      · rintro σ H2 ⟨x, y, z, rfl, s2⟩
        have st := s1.trans s2
        refine ⟨_, rfl, _, rfl, r, t, rows, c, rfl, hR.same st, R, ht.same st, O.wf, fun H3 F s3 hF hP => ?_⟩
        have st3 := st.trans s3
        have hK3 := (hK.same s2).same s3
        obtain ⟨fs, p1, p2, p3⟩ := hP
        refine ⟨F, rfl, ⟨_, SqL.of p1⟩, for_it (walk_list (xs := fs.map V.ref)) (fun i σ H' => ∃ (x y z u : Option V), σ = [some (.ref r), some (.ref t), some (.ref be), some (.ref D), x, y, z, u] ∧ Same H3 H') ⟨_, _, _, _, rfl, Same.refl H3⟩ (fun i σ H' _ ⟨_, _, _, _, _, q⟩ => SqL.of (q _ _ p1)) ?_ ?_⟩
        · rintro i v σ H9 H4 hi ⟨x, y, z, u, rfl, s4⟩ ⟨rfl, hv⟩
          have hip : i < (hpaths rows c).length := by rw [List.length_map, p2] at hi; exact hi
          obtain ⟨q, q1, q2⟩ := p3 i hip
          rw [List.getElem?_map, q1] at hv
          cases hv
          have hq4 : H4 q = some (.tup (pV (hpaths rows c)[i])) := s4 _ _ q2
          have hK4 := hK3.same s4
          obtain ⟨gs2, k1, k2, k3⟩ := hK4
          -- the path is a hole's
          have hin : Mth.InE (wR rows) c (hpaths rows c)[i] "*" := by
            have hmem := List.getElem_mem hip
            unfold hpaths at hmem
            obtain ⟨j, hj, ej⟩ := List.mem_map.mp hmem
            unfold Mth.hps at hj
            obtain ⟨_, hj2⟩ := List.mem_filter.mp hj
            exact ⟨j, of_decide_eq_true hj2, ej⟩
          generalize hpe : (hpaths rows c)[i] = p at hq4 hin
          have hno := hC.2.2 p hin
          refine ⟨_, rfl, D, rfl, ⟨_, SqL.of k1⟩, fun G hG => lc_it (walk_list (xs := gs2.map V.ref)) (fun i H' => Same H4 H' ∧ ∃ zs : List Str, H' G = some (.lst (zs.map V.str)) ∧ zs.length = i ∧ ∀ j (h : j < ls.length), j < i → ∃ z, zs[j]? = some z ∧ kat (wR rows) p ls[j] z) ⟨(Same.refl H4).upd_new hG, [], upd_same, rfl, fun j h q => absurd q (Nat.not_lt_zero j)⟩ (fun i H' _ ⟨q, _⟩ => SqL.of (q _ _ k1)) ?_ ?_⟩
          · rintro i2 v H9 H5 hi2 ⟨s5, zs, d5, e5, z5⟩ ⟨rfl, hv⟩
            have hil : i2 < ls.length := by rw [List.length_map, k2] at hi2; exact hi2
            obtain ⟨g, a, b⟩ := k3 i2 hil
            rw [List.getElem?_map, a] at hv
            cases hv
            obtain ⟨o, o1, z0, o2, o3⟩ := (b.same s5).get (s5 _ _ hq4)
            refine ⟨rfl, _, rfl, g, rfl, (by obtain ⟨kvs, w1, _⟩ := b.same s5; exact .inr ⟨_, .inl w1⟩), _, rfl, o, o1, ?_⟩
            rw [o2]
            refine ⟨_, d5, lt_line (by rw [List.length_map, e5]; omega), s5.upd_own hG, zs ++ [z0], by rw [upd_same, List.map_append]; rfl, by rw [List.length_append, e5]; rfl, fun j h q => ?_⟩
            by_cases e : j < i2
            · obtain ⟨g', a, b⟩ := z5 j h e
              exact ⟨g', by rw [List.getElem?_append_left (by omega)]; exact a, b⟩
            · have ej : j = i2 := by omega
              subst ej
              exact ⟨z0, by rw [← e5, List.getElem?_append_right (Nat.le_refl _), Nat.sub_self]; rfl, o3⟩
          · rintro H5 ⟨s5, zs, d5, e5, z5⟩
            rw [List.length_map, k2] at e5 z5
            have hz0 : 0 < zs.length := by omega
            refine ⟨_, rfl, G, _, _, _, rfl, rfl, SqL.of d5, at_ofG (j := 0) rfl (by rw [List.getElem?_map, List.getElem?_eq_getElem hz0]; rfl), rfl, _, rfl, ?_⟩
            have fin : ∃ (x y z u : Option V), ([some (.ref r), some (.ref t), some (.ref be), some (.ref D), x, some (.ref q), some (.ref G), u] : L2.St) = [some (.ref r), some (.ref t), some (.ref be), some (.ref D), x, y, z, u] ∧ Same H3 H5 := ⟨x, _, _, u, rfl, s4.trans s5⟩
            by_cases c0 : zs[0] = "*"
            · refine ifn (by simp [c0]) ?_
              exact ⟨_, _, _, _, rfl, s4.trans s5⟩
            · refine ifp (by simp [c0]) ?_
              refine ⟨_, rfl, .inl ⟨rfl, _, SqL.of d5⟩, _, rfl, G, _, _, _, rfl, rfl, SqL.of d5, at_ofG (j := 0) rfl (by rw [List.getElem?_map, List.getElem?_eq_getElem hz0]; rfl), G, zs, zs[0], rfl, rfl, SqL.of d5, _, rfl, G, _, rfl, .inl (SqL.of d5), rfl, _, rfl, ?_⟩
              refine ifn (fun e => ?_) ⟨_, _, _, _, rfl, s4.trans s5⟩
              have e2 := V.int.inj (of_decide_eq_true e)
              rw [List.length_map] at e2
              have hall := count_all (z := zs[0]) (l := zs) (by omega)
              refine hno ⟨zs[0], c0, fun l hl => ?_⟩
              obtain ⟨j, hj, ej⟩ := List.mem_iff_getElem.mp hl
              obtain ⟨z, z1, z2⟩ := z5 j hj hj
              have ez := hall z (List.mem_of_getElem? z1)
              rw [ez] at z2
              rw [← ej]
              rcases z2 with y | y
              · exact absurd y.1 c0
              · exact y.2
        · rintro σ H4 ⟨x, y, z, u, rfl, s4⟩
          exact k _ (st3.trans s4)
end
end Sh
end
section
set_option Elab.async false
set_option linter.all false
set_option maxRecDepth 100000
set_option maxHeartbeats 2000000
set_option autoImplicit false
namespace Sh
open PySem PySem.Spec PyProof.Rows L2
open C8 (pss_cut tCut)
open Evl (ixN_nat)
/-- a union that was told, or none -/
def UnT (H : Hp) (rows : List Row) (l m : List Str) (v : V) : Prop := (v = .non ∧ Mth.Clash (wR rows) l m) ∨ ∃ (q : Addr) (u : List Str), v = .ref q ∧ Tq H q (sV u) ∧ StumpOk rows u ∧ Mth.Uni (wR rows) l m u
def spLUR : Sp := fun vs H Q _ => ∃ (r s t : Addr) (v : V) (rows : List Row) (l m : List Str), vs = [.ref r, v, .ref s, .ref t] ∧ RowsAt H r rows ∧ ROk 8 rows ∧ UnT H rows l m v ∧ Tq H s (l.map V.str) ∧ StumpOk rows l ∧ Tq H t (m.map V.str) ∧ StumpOk rows m ∧ ∀ H', Same H H' → Q (.bl true) H'
theorem Kd.key {w : Str → Nat} {l : List Str} {kvs : List (List Key × V)} (h : Kd w l kvs) {k : List Key} {v : V} {i : Nat} (e : kvs[i]? = some (k, v)) : ∃ p z, k = pk p ∧ v = .str z ∧ z ≠ "*" ∧ Mth.InE w l p z ∧ valV kvs (pk p) = some (.str z) := by
  obtain ⟨p, z, ekv, hz, hin⟩ := h.m (k, v) (List.mem_of_getElem? e)
  injection ekv with e2 e3
  exact ⟨p, z, e2, e3, hz, hin, (h.v p _).mpr ⟨z, rfl, hz, hin⟩⟩
theorem Kd.all {w : Str → Nat} {l : List Str} {kvs : List (List Key × V)} (h : Kd w l kvs) {p : List Nat} {z : Str} (hz : z ≠ "*") (hi : Mth.InE w l p z) : (pk p, V.str z) ∈ kvs := by
  have hval := (h.v p (.str z)).mpr ⟨z, rfl, hz, hi⟩
  unfold valV at hval
  obtain ⟨kv, h1, h2⟩ := Option.map_eq_some_iff.mp hval
  have h3 := List.find?_some h1
  have h4 := List.mem_of_find?_eq_some h1
  obtain ⟨k, v⟩ := kv
  have e1 : k = pk p := of_decide_eq_true h3
  have e2 : v = .str z := h2
  rw [e1, e2] at h4
  exact h4
theorem same_back {H H' : Hp} {d : Addr} {o u : HO} (h : H d = some u) (s : Same (upd H d o) H') (e : H' d = some o) : Same H (upd H' d u) := fun b x hb => by
  by_cases q : b = d
  · rw [q] at hb ⊢
    rw [h] at hb
    rw [upd_same, hb]
  · rw [upd_ne q]
    exact s b x (by rw [upd_ne q]; exact hb)
abbrev s_law_united_right : Stmt := top 68
abbrev N_law_united_right : List Str := ["rows", "told", "one", "two", "kinds", "kinds2", "clash", "path", "both"]
theorem sc_law_united_right : FnScope N_law_united_right ["rows", "told", "one", "two"] (defScope s_law_united_right) := ⟨rfl, rfl, rfl, by decide +kernel, rfl, by decide +kernel, by decide +kernel⟩
section
variable {P : Program} {w : World} {K : PySem.W.Frag} {mg : Str → Option Value} {base : Heap} {C CT : Addr}
theorem ok_law_united_right (T : Bk mg) (c_law_stump : DefOk P w K mg base CX0 3 "_law_stump" spLawStump) (c_law_kinds : DefOk P w K mg base CX0 4 "_law_kinds" spLawKinds) (c_law_is_begun : DefOk P w K mg base CX0 1 "_law_is_begun" spLawBegun) (D : Def0 K mg "_law_united_right" s_law_united_right) : DefOk P w K mg base CX0 5 "_law_united_right" spLUR := by
  refine D.ok sc_law_united_right (fun vs H Q E h => ?_) (fun _ _ _ _ _ _ us hl => match us, hl with | [_, _, _, _], _ => rfl) (fun f cdv A outer s H vs Q E hr h => ?_)
  · obtain ⟨r, s, t, v, rows, l, m, rfl, _⟩ := h
    rfl
  · obtain ⟨r, s, t, v, rows, l, m, rfl, hR, R, hv, hs, O, ht, O2, k⟩ := h
    have hu := hu_of hr
    refine ⟨_, (pss_cons (ps_set (i := 4) sc_law_united_right.nd rfl (Or.inl rfl) (pe_d c_law_kinds (hr.mono (by decide)) pass0 (pa_cons (pv 0) (pa_cons (pv 2) pa_nil))))
      (pss_cons (ps_set (i := 5) sc_law_united_right.nd rfl (Or.inl rfl) (pe_d c_law_kinds (hr.mono (by decide)) pass0 (pa_cons (pv 0) (pa_cons (pv 3) pa_nil))))
      (pss_cons (ps_set (i := 6) sc_law_united_right.nd rfl (Or.inl rfl) pe_bl)
      (pss_cons (ps_lock (ps_for PassesOwn.never rfl (pi_keys (pv 4)) (pg_name (i := 7) sc_law_united_right.nd rfl (Or.inl rfl))
        (pss_one (ps_if (PW.pt (pw_and (pt_cmp (pc_din hu (pv 7) (pv 5))) (pw_and1 (pt_cmpR op_ne (pe_dget hu (pv 5) (pv 7) (fun _ _ => rfl)) (pe_dget hu (pv 4) (pv 7) (fun _ _ => rfl)) (nomark _)))))
          (pss_one (ps_set (i := 6) sc_law_united_right.nd rfl (Or.inl rfl) pe_bl))
          pss_nil))))
      (pss_cons (ps_if (pt_val (pv 6))
        (pss_one (ps_ret (pe_cmpR op_isN (pv 1) pe_non (nomark _))))
        pss_nil)
      (pss_cons (ps_if (pt_not (pt_val (pe_d c_law_stump (hr.mono (by decide)) pass0 (pa_cons (pv 1) (pa_cons (pv 0) pa_nil)))))
        (pss_one (ps_ret pe_bl))
        pss_nil)
      (pss_cons (ps_set (i := 8) sc_law_united_right.nd rfl (Or.inl rfl) (pe_d c_law_kinds (hr.mono (by decide)) pass0 (pa_cons (pv 0) (pa_cons (pv 1) pa_nil))))
      (pss_cons (ps_lock (ps_for PassesOwn.never rfl (pi_keys (pv 8)) (pg_name (i := 7) sc_law_united_right.nd rfl (Or.inl rfl))
        (pss_one (ps_if (PW.pt (pw_and (pt_cmp (pc_dnotin hu (pv 7) (pv 4))) (pw_and1 (pt_cmp (pc_dnotin hu (pv 7) (pv 5))))))
          (pss_one (ps_ret pe_bl))
          pss_nil))))
      (pss_one (ps_ret (pe_and (pe_d c_law_is_begun (hr.mono (by decide)) pass0 (pa_cons (pv 4) (pa_cons (pv 8) pa_nil))) (pe_one (pe_d c_law_is_begun (hr.mono (by decide)) pass0 (pa_cons (pv 5) (pa_cons (pv 8) pa_nil))))))))))))))), ?_⟩
    refine ⟨_, rfl, _, rfl, r, s, rows, l, rfl, hR, R, hs, O.wf, fun H1 G s1 hG hK => ?_⟩
    refine ⟨_, rfl, _, rfl, r, t, rows, m, rfl, hR.same s1, R, ht.same s1, O2.wf, fun H2 F s2 hF hK2 => ?_⟩
    have hK' := hK.same s2
    have st := s1.trans s2
    obtain ⟨kvs, ha, hk⟩ := hK'
    obtain ⟨kvs2, hb, hk2⟩ := hK2
    have nGF : F ≠ G := fun e => by
      obtain ⟨q, q1, _⟩ := hK
      rw [e, q1] at hF
      cases hF
    refine ⟨G, _, ha, trivial, fun od => ?_⟩
    have hb1 : (upd H2 G (.frz od (.dT kvs))) F = some (.dT kvs2) := by rw [upd_ne nGF]; exact hb
    refine ⟨_, rfl, G, od, rfl, .inr ⟨kvs, upd_same, for_it walk_keysT (fun i σ H' => ∃ (x : Option V) (cb : Bool), σ = [some (.ref r), some v, some (.ref s), some (.ref t), some (.ref G), some (.ref F), some (.bl cb), x, none] ∧ H' = upd H2 G (.frz od (.dT kvs)) ∧ (cb = true → Mth.Clash (wR rows) l m) ∧ (cb = false → ∀ kv ∈ kvs.take i, ∀ v2, valV kvs2 kv.1 = some v2 → v2 = kv.2)) ⟨none, false, rfl, rfl, fun h => (nomatch h), fun _ kv h => by simp at h⟩ (fun i σ H' _ ⟨_, _, _, q, _⟩ => by rw [q]; exact upd_same) ?_ ?_⟩⟩
    · rintro i vv σ H9 H3 hi ⟨x, cb, rfl, rfl, hc1, hc2⟩ ⟨rfl, kk, vk, q, e1, rfl, hq⟩
      obtain ⟨p, z, rfl, rfl, hz, hin, hval⟩ := hk.key e1
      refine ⟨_, rfl, _, rfl, F, _, rfl, DGet.t hb1 hq, _, rfl, ?_⟩
      cases hv2 : valV kvs2 (pk p) with
      | none =>
        refine ifn (by simp) ?_
        refine ⟨_, cb, rfl, rfl, hc1, fun hcb kv hkv v2 h2 => ?_⟩
        rw [List.take_add_one, e1] at hkv
        rcases List.mem_append.mp hkv with y | y
        · exact hc2 hcb kv y v2 h2
        · rw [List.mem_singleton.mp y] at h2
          rw [hv2] at h2
          cases h2
      | some v2 =>
        obtain ⟨z2, rfl, hz2, hin2⟩ := (hk2.v p v2).mp hv2
        refine ifp rfl ?_
        refine ⟨_, rfl, _, rfl, F, .str z2, rfl, (by rw [← hv2]; exact DGet.t hb1 hq), _, rfl, _, rfl, G, .str z, rfl, .inr ⟨kvs, pk p, q, .inr ⟨od, upd_same⟩, rfl, hq, hval.symm⟩, rfl, _, rfl, ?_⟩
        by_cases c : z2 = z
        · refine ifn (by simp [c]) ?_
          refine ⟨_, cb, rfl, rfl, hc1, fun hcb kv hkv v3 h3 => ?_⟩
          rw [List.take_add_one, e1] at hkv
          rcases List.mem_append.mp hkv with y | y
          · exact hc2 hcb kv y v3 h3
          · rw [List.mem_singleton.mp y] at h3 ⊢
            rw [hv2] at h3
            rw [← Option.some.inj h3, c]
        · refine ifp (by simp [c]) ?_
          exact ⟨_, true, rfl, rfl, fun _ => ⟨p, z, z2, fun e => c e.symm, hz, hz2, hin, hin2⟩, fun h => (nomatch h)⟩
    · rintro σ H3 ⟨x, cb, rfl, rfl, hc1, hc2⟩
      rw [List.take_length] at hc2
      refine ⟨upd_same, ?_⟩
      rw [upd_back ha]
      refine ⟨_, rfl, _, rfl, ?_⟩
      rcases hv with ⟨rfl, hcl⟩ | ⟨q, u, rfl, hqu, Ou, hU⟩
      · have ecb : cb = true := by
          cases cb with
          | true => rfl
          | false =>
            exfalso
            obtain ⟨p, x1, y1, h1, h2, h3, h4, h5⟩ := hcl
            have h6 := hc2 rfl _ (hk.all h2 h4) (.str y1) ((hk2.v p _).mpr ⟨y1, rfl, h3, h5⟩)
            exact h1 (V.str.inj h6).symm
        subst ecb
        exact ifp rfl ⟨_, rfl, rfl, k _ st⟩
      · have ecb : cb = false := by
          cases cb with
          | false => rfl
          | true => exact absurd (hc1 rfl) (Mth.Uni.noclash hU)
        subst ecb
        refine ifn (by decide) ?_
        refine ⟨_, rfl, _, rfl, q, r, rows, u, rfl, hR.same st, R, hqu.same st, Ou, _, rfl, ifn (by decide) ?_⟩
        refine ⟨_, rfl, _, rfl, r, q, rows, u, rfl, hR.same st, R, hqu.same st, Ou.wf, fun H4 B s4 hB hKB => ?_⟩
        have st4 := st.trans s4
        obtain ⟨kvs3, hb3, hk3⟩ := hKB
        have ha4 := s4 _ _ ha
        have hb4 := s4 _ _ hb
        have nGB : G ≠ B := ne_of_none ha hB
        have nFB : F ≠ B := ne_of_none hb hB
        refine ⟨B, _, hb3, trivial, fun od2 => ?_⟩
        have ha5 : (upd H4 B (.frz od2 (.dT kvs3))) G = some (.dT kvs) := by rw [upd_ne nGB]; exact ha4
        have hb5 : (upd H4 B (.frz od2 (.dT kvs3))) F = some (.dT kvs2) := by rw [upd_ne nFB]; exact hb4
        refine ⟨_, rfl, B, od2, rfl, .inr ⟨kvs3, upd_same, for_it walk_keysT (fun i σ H' => ∃ (x : Option V), σ = [some (.ref r), some (.ref q), some (.ref s), some (.ref t), some (.ref G), some (.ref F), some (.bl false), x, some (.ref B)] ∧ H' = upd H4 B (.frz od2 (.dT kvs3))) ⟨_, rfl, rfl⟩ (fun i σ H' _ ⟨_, _, q⟩ => by rw [q]; exact upd_same) ?_ ?_⟩⟩
        · rintro i vv σ H9 H5 hi ⟨x, rfl, rfl⟩ ⟨rfl, kk, vk, q2, e1, rfl, hq⟩
          obtain ⟨p, z, rfl, rfl, hz, hin, hval⟩ := hk3.key e1
          refine ⟨_, rfl, _, rfl, G, _, rfl, DGet.t ha5 hq, _, rfl, ?_⟩
          cases hv1 : valV kvs (pk p) with
          | some v1 =>
            refine ifn (by simp) ?_
            exact ⟨_, rfl, rfl⟩
          | none =>
            refine ifp rfl ?_
            refine ⟨_, rfl, _, rfl, F, _, rfl, DGet.t hb5 hq, _, rfl, ?_⟩
            cases hv2 : valV kvs2 (pk p) with
            | some v2 =>
              refine ifn (by simp) ?_
              exact ⟨_, rfl, rfl⟩
            | none =>
              exfalso
              rcases hU.k p z hin with y | y
              · rw [(hk.v p _).mpr ⟨z, rfl, hz, y⟩] at hv1
                cases hv1
              · rw [(hk2.v p _).mpr ⟨z, rfl, hz, y⟩] at hv2
                cases hv2
        · rintro σ H5 ⟨x, rfl, rfl⟩
          refine ⟨upd_same, ?_⟩
          rw [upd_back hb3]
          refine ⟨_, rfl, _, rfl, G, B, rows, l, u, rfl, nGB, ⟨kvs, ha4, hk⟩, ⟨kvs3, hb3, hk3⟩, O.wf, Ou.wf, fun _ => ?_, fun n => absurd hU.b1 n⟩
          refine ⟨_, rfl, ifp rfl ?_⟩
          refine ⟨_, rfl, _, rfl, F, B, rows, m, u, rfl, nFB, ⟨kvs2, hb4, hk2⟩, ⟨kvs3, hb3, hk3⟩, O2.wf, Ou.wf, fun _ => ?_, fun n => absurd hU.b2 n⟩
          exact k _ st4
end
end Sh
end
section
set_option Elab.async false
set_option linter.all false
set_option maxRecDepth 100000
set_option maxHeartbeats 2000000
set_option autoImplicit false
namespace Sh
open PySem PySem.Spec PyProof.Rows L2
open C8 (pss_cut tCut)
open Evl (ixN_nat)
def spLPair (C : Addr) : Sp := fun vs H Q _ => ∃ (r b s t : Addr) (rows : List Row) (l m : List Str), vs = [.ref r, .ref b, .ref s, .ref t] ∧ RowsAt H r rows ∧ BedAt C H b rows ∧ ROk 8 rows ∧ Tz H s (l.map V.str) ∧ StumpOk rows l ∧ Tq H t (m.map V.str) ∧ StumpOk rows m ∧ ∀ H', Same H H' → Q (.bl true) H'
def spLAlone (C : Addr) : Sp := fun vs H Q _ => ∃ (r b s : Addr) (rows : List Row) (l : List Str), vs = [.ref r, .ref b, .ref s] ∧ RowsAt H r rows ∧ BedAt C H b rows ∧ ROk 8 rows ∧ Tq H s (l.map V.str) ∧ StumpOk rows l ∧ ∀ H', Same H H' → Q (.bl true) H'
def spLFill (C : Addr) : Sp := fun vs H Q _ => ∃ (a r b s : Addr) (rows : List Row) (l : List Str), vs = [.ref a, .ref r, .ref b, .ref s] ∧ BagAt H a ∧ r ≠ a ∧ RowsAt H r rows ∧ BedAt C H b rows ∧ ROk 8 rows ∧ Tz H s (l.map V.str) ∧ StumpOk rows l ∧ l.length ≤ 9 ∧ ∀ H', Kp a H H' → BagAt H' a → Q (.bl true) H'
theorem fbad2ok {rows : List Row} (R : ROk 8 rows) {l m : List Str} (O : StumpOk rows l) (O2 : StumpOk rows m) : fbad rows true [l, m] = none := fbad_ok R fun x hx => by
  rcases List.mem_cons.mp hx with e | e
  · rw [e]; exact O
  · rw [List.mem_singleton.mp e]; exact O2
theorem cut_ok {rows : List Row} {l : List Str} (O : StumpOk rows l) {q : Nat} (h : q < l.length) : StumpOk rows (Mth.cut (wR rows) l q) :=
  ⟨Mth.cut_forest (wR rows) O.f h, fun z hz => O.k z (Mth.cut_mem (wR rows) hz), Nat.le_trans (Mth.cut_len (wR rows) l q) O.sz⟩
/-- tuples of rows of texts -/
theorem Eqs.rows {H : Hp} {a b : Addr} {ts us : List Addr} {ls : List (List Str)} (ha : Tq H a (ts.map V.ref)) (hb : Tq H b (us.map V.ref)) (h1 : TsAt sV H ts ls) (h2 : TsAt sV H us ls) (hl : ls.length ≤ 100000) (hs : ∀ x ∈ ls, x.length ≤ 100000) : Eqs 3 H (.ref a) (.ref b) := by
  refine .tup ha hb (by rw [List.length_map, List.length_map, h1.1, h2.1]) (by rw [List.length_map, h1.1]; exact hl) fun i x y p q => ?_
  obtain ⟨t, e1, rfl⟩ := get_map p
  obtain ⟨u, e2, rfl⟩ := get_map q
  have hi : i < ls.length := by rw [← h1.1]; exact lt_of_get e1
  have g := List.getElem?_eq_getElem hi
  exact .strs (h1.2 i t _ e1 g) (h2.2 i u _ e2 g) (hs _ (List.getElem_mem hi))
theorem Eqs.paths {H : Hp} {a b : Addr} {ts us : List Addr} {ps : List (List Nat)} (ha : Tq H a (ts.map V.ref)) (hb : Tq H b (us.map V.ref)) (h1 : TsAt pV H ts ps) (h2 : TsAt pV H us ps) (hl : ps.length ≤ 100000) (hs : ∀ x ∈ ps, x.length ≤ 100000) : Eqs 3 H (.ref a) (.ref b) := by
  refine .tup ha hb (by rw [List.length_map, List.length_map, h1.1, h2.1]) (by rw [List.length_map, h1.1]; exact hl) fun i x y p q => ?_
  obtain ⟨t, e1, rfl⟩ := get_map p
  obtain ⟨u, e2, rfl⟩ := get_map q
  have hi : i < ps.length := by rw [← h1.1]; exact lt_of_get e1
  have g := List.getElem?_eq_getElem hi
  have e : ∀ z : List Nat, pV z = (z.map fun n => ((n : Nat) : Int)).map V.int := fun z => by unfold pV; rw [List.map_map]; rfl
  have k1 := h1.2 i t _ e1 g
  have k2 := h2.2 i u _ e2 g
  rw [e] at k1 k2
  exact .ints k1 k2 (by rw [List.length_map]; exact hs _ (List.getElem_mem hi))
abbrev s_law_pair_right : Stmt := top 69
abbrev N_law_pair_right : List Str := ["rows", "bed", "one", "two", "begun", "told"]
theorem sc_law_pair_right : FnScope N_law_pair_right ["rows", "bed", "one", "two"] (defScope s_law_pair_right) := ⟨rfl, rfl, rfl, by decide +kernel, rfl, by decide +kernel, by decide +kernel⟩
abbrev s_law_alone_right : Stmt := top 70
abbrev N_law_alone_right : List Str := ["rows", "bed", "stump", "names", "row", "word"]
theorem sc_law_alone_right : FnScope N_law_alone_right ["rows", "bed", "stump"] (defScope s_law_alone_right) := ⟨rfl, rfl, rfl, by decide +kernel, rfl, by decide +kernel, by decide +kernel⟩
abbrev s_law_fill_right : Stmt := top 71
abbrev N_law_fill_right : List Str := ["bag", "rows", "bed", "stump", "pieces", "whole"]
theorem sc_law_fill_right : FnScope N_law_fill_right ["bag", "rows", "bed", "stump"] (defScope s_law_fill_right) := ⟨rfl, rfl, rfl, by decide +kernel, rfl, by decide +kernel, by decide +kernel⟩
section
variable {P : Program} {w : World} {K : PySem.W.Frag} {mg : Str → Option Value} {base : Heap} {C CT : Addr} {A : XA}
theorem ok_law_pair_right (T : Bk mg) (c_law_kinds : DefOk P w K mg base CX0 4 "_law_kinds" spLawKinds) (c_law_is_begun : DefOk P w K mg base CX0 1 "_law_is_begun" spLawBegun) (c_law_hole_paths : DefOk P w K mg base CX0 4 "_law_hole_paths" spLawHoles) (c_law_branches_at : DefOk P w K mg base CX0 4 "_law_branches_at" spLawBranches) (c_begins : DefOk P w K mg base (L2.CX P w) 6 "begins" (spSt2 C A fBegins)) (c_parts : DefOk P w K mg base (L2.CX P w) 5 "parts" (spSt2 C A fParts)) (c_law_same : DefOk P w K mg base CX0 3 "_law_same" (spSame 3)) (c_law_filled : DefOk P w K mg base CX0 6 "_law_filled" (spLFil C Tq)) (D : Def0 K mg "_law_pair_right" s_law_pair_right) : DefOk P w K mg base CX0 7 "_law_pair_right" (spLPair C) := by
  refine D.ok sc_law_pair_right (fun vs H Q E h => ?_) (fun _ _ _ _ _ _ us hl => match us, hl with | [_, _, _, _], _ => rfl) (fun f cdv A' outer s H vs Q E hr h => ?_)
  · obtain ⟨r, b, s, t, rows, l, m, rfl, _⟩ := h
    rfl
  · obtain ⟨r, b, s, t, rows, l, m, rfl, hR, hB, R, hz, O, ht, O2, k⟩ := h
    have hs := hz.q
    have hsz := O.sz
    have hsz2 := O2.sz
    have w0 := w_star R
    refine ⟨_, (pss_cons (ps_set (i := 4) sc_law_pair_right.nd rfl (Or.inl rfl) (pe_d c_law_is_begun (hr.mono (by decide)) pass0 (pa_cons (pe_d c_law_kinds (hr.mono (by decide)) pass0 (pa_cons (pv 0) (pa_cons (pv 2) pa_nil))) (pa_cons (pe_d c_law_kinds (hr.mono (by decide)) pass0 (pa_cons (pv 0) (pa_cons (pv 3) pa_nil))) pa_nil))))
      (pss_cons (ps_if (pt_not (pt_val (pe_d c_law_same (hr.mono (by decide)) pass0 (pa_cons (pe_d c_begins (hr.mono (by decide)) passL (pa_cons (pv 1) (pa_cons (pv 2) (pa_cons (pv 3) pa_nil)))) (pa_cons (pv 4) pa_nil)))))
        (pss_one (ps_ret pe_bl))
        pss_nil)
      (pss_cons (ps_set (i := 5) sc_law_pair_right.nd rfl (Or.inl rfl) (pe_d c_parts (hr.mono (by decide)) passL (pa_cons (pv 1) (pa_cons (pv 2) (pa_cons (pv 3) pa_nil)))))
      (pss_cons (ps_if (pt_not (pt_val (pv 4)))
        (pss_one (ps_ret (pe_cmpR op_isN (pv 5) pe_non (nomark _))))
        pss_nil)
      (pss_cons (ps_if (pt_not (pt_val (pe_d c_law_same (hr.mono (by decide)) pass0 (pa_cons (pv 5) (pa_cons (pe_d c_law_branches_at (hr.mono (by decide)) pass0 (pa_cons (pv 0) (pa_cons (pv 3) (pa_cons (pe_d c_law_hole_paths (hr.mono (by decide)) pass0 (pa_cons (pv 0) (pa_cons (pv 2) pa_nil))) pa_nil)))) pa_nil)))))
        (pss_one (ps_ret pe_bl))
        pss_nil)
      (pss_one (ps_ret (pe_or (pe_cmpR op_gt (pe_mG ty_Z PySem.F.plainAttrs_tuple PySem.F.slot_tuple_count PySem.F.type_tuple_count mt_tcount (pv 2) (pa_cons pe_str pa_nil)) pe_int (nomark _)) (pe_one (pe_d c_law_same (hr.mono (by decide)) pass0 (pa_cons (pe_d c_law_filled (hr.mono (by decide)) pass0 (pa_cons (pv 1) (pa_cons (pv 2) (pa_cons (pv 5) pa_nil)))) (pa_cons (pv 3) pa_nil)))))))))))), ?_⟩
    refine ⟨_, rfl, _, rfl, r, s, rows, l, rfl, hR, R, hs, O.wf, fun H1 G s1 hG hK => ?_⟩
    refine ⟨_, rfl, _, rfl, r, t, rows, m, rfl, hR.same s1, R, ht.same s1, O2.wf, fun H2 F s2 hF hK2 => ?_⟩
    have st := s1.trans s2
    have nGF : G ≠ F := fun e => by
      obtain ⟨q, q1, _⟩ := hK
      rw [← e, q1] at hF
      cases hF
    by_cases hBg : Mth.Beg (wR rows) l m
    · refine ⟨G, F, rows, l, m, rfl, nGF, hK.same s2, hK2, O.wf, O2.wf, fun _ => ?_, fun n => absurd hBg n⟩
      obtain ⟨qs, q1, q2, q3, q4⟩ := Mth.prt_some w0 O.f O2.f hBg
      have hpt : parts rows l m = some (qs.map (Mth.cut (wR rows) m)) := q1
      have hql : qs.length ≤ 2000 := by
        have := congrArg List.length q3
        rw [List.length_map, List.length_map, Mth.hps_len] at this
        have := List.count_le_length (a := ("*" : Str)) (l := l)
        omega
      refine ⟨_, rfl, _, rfl, _, rfl, b, s, t, rows, l, m, rfl, hB.same st, R, hs.same st, by omega, ht.same st, by omega, ?_⟩
      rw [fbad2ok R O O2]
      intro H3 s3
      rw [hpt]
      refine ⟨_, rfl, _, _, rfl, .inl ⟨Eqs.bl true, fun H4 s4 => ?_⟩⟩
      refine ⟨_, rfl, ifn (by decide) ?_⟩
      have st4 := (st.trans s3).trans s4
      refine ⟨_, rfl, _, rfl, _, rfl, b, s, t, rows, l, m, rfl, hB.same st4, R, hs.same st4, by omega, ht.same st4, by omega, ?_⟩
      rw [fbad2ok R O O2]
      intro H5 v s5 hv
      rw [hpt] at hv
      obtain ⟨p, ts, rfl, p1, p2⟩ := hv
      have st5 := st4.trans s5
      refine ⟨_, rfl, _, rfl, ifn (by decide) ?_⟩
      refine ⟨_, rfl, _, rfl, _, rfl, _, rfl, _, rfl, r, s, rows, l, rfl, hR.same st5, R, hs.same st5, O.wf, fun H6 X s6 hX hP => ?_⟩
      have st6 := st5.trans s6
      have eh : hpaths rows l = qs.map (Mth.pth (wR rows) m) := q3.symm
      rw [eh] at hP
      refine ⟨r, t, X, rows, m, qs, rfl, hR.same st6, R, ht.same st6, O2.wf, hP, q2, by omega, fun H7 y us s7 hy hus => ?_⟩
      have p1' : Tq H7 p (ts.map V.ref) := ((Tq.of p1).same s6).same s7
      have p2' := (p2.keep (TQ.of_same s6)).keep (TQ.of_same s7)
      refine ⟨_, _, rfl, .inl ⟨Eqs.rows p1' hy p2' hus (by rw [List.length_map]; omega) (fun x hx => ?_), fun H8 s8 => ?_⟩⟩
      · obtain ⟨q, hq, rfl⟩ := List.mem_map.mp hx
        have := Mth.cut_len (wR rows) m q
        omega
      refine ⟨_, rfl, ifn (by decide) ?_⟩
      have st8 := (st6.trans s7).trans s8
      refine ⟨_, rfl, ⟨s, _, rfl, hz.same st8⟩, s, l, _, rfl, rfl, (hs.same st8).sq, _, _, rfl, rfl, _, rfl, ?_⟩
      by_cases hc : (6 : Int) < ((l.count ("*" : Str) : Nat) : Int)
      · rw [decide_eq_true hc]
        refine ifp rfl ?_
        exact k _ st8
      · refine ifn (fun e => hc (of_decide_eq_true e)) ?_
        have ef : fill (qs.map (Mth.cut (wR rows) m)) l = m := by rw [fill_flr]; exact q4
        have ecn : l.count ("*" : Str) = (qs.map (Mth.cut (wR rows) m)).length := by
          have := congrArg List.length q3
          rw [List.length_map, List.length_map, Mth.hps_len] at this
          rw [List.length_map]
          exact this.symm
        refine ⟨_, rfl, _, rfl, _, rfl, b, s, p, rows, l, ts, _, rfl, hB.same st8, R, hz.same st8, O, p1'.same s8, p2'.keep (TQ.of_same s8), fun x hx => ?_, ecn, by omega, by rw [ef]; exact hsz2, fun H9 y2 s9 hy2 => ?_⟩
        · obtain ⟨q, hq, rfl⟩ := List.mem_map.mp hx
          exact cut_ok O2 (q2 q hq)
        · rw [ef] at hy2
          have st9 := st8.trans s9
          refine ⟨_, rfl, _, _, rfl, .inl ⟨(Eqs.strs hy2 (ht.same st9) (by omega)).succ, fun H10 s10 => ?_⟩⟩
          exact k _ (st9.trans s10)
    · refine ⟨G, F, rows, l, m, rfl, nGF, hK.same s2, hK2, O.wf, O2.wf, fun n => absurd n hBg, fun _ => ?_⟩
      have hpt : parts rows l m = none := Mth.prt_none w0 O.f O2.f hBg
      refine ⟨_, rfl, _, rfl, _, rfl, b, s, t, rows, l, m, rfl, hB.same st, R, hs.same st, by omega, ht.same st, by omega, ?_⟩
      rw [fbad2ok R O O2]
      intro H3 s3
      rw [hpt]
      refine ⟨_, rfl, _, _, rfl, .inl ⟨Eqs.bl false, fun H4 s4 => ?_⟩⟩
      refine ⟨_, rfl, ifn (by decide) ?_⟩
      have st4 := (st.trans s3).trans s4
      refine ⟨_, rfl, _, rfl, _, rfl, b, s, t, rows, l, m, rfl, hB.same st4, R, hs.same st4, by omega, ht.same st4, by omega, ?_⟩
      rw [fbad2ok R O O2]
      intro H5 v s5 hv
      rw [hpt] at hv
      have hv : v = .non := hv
      subst hv
      refine ⟨_, rfl, _, rfl, ifp (by decide) ?_⟩
      exact ⟨_, rfl, rfl, k _ (st4.trans s5)⟩
end
end Sh
end
section
set_option Elab.async false
set_option linter.all false
set_option maxRecDepth 100000
set_option maxHeartbeats 2000000
set_option autoImplicit false
namespace Sh
open PySem PySem.Spec PyProof.Rows L2
open C8 (pss_cut tCut)
open Evl (ixN_nat)
theorem star_notin {rows : List Row} (R : ROk 8 rows) : ("*" : Str) ∉ rows.map (·.1) := fun h => by
  obtain ⟨q, hq, e⟩ := List.mem_map.mp h
  have := nm_of R ⟨q, hq, e⟩
  have := nm_star R
  omega
theorem RanksS.uniq {ns l : List Str} {ks js : List Int} (nd : ns.Nodup) (hs : ("*" : Str) ∉ ns) (a : RanksS ns l ks) (b : RanksS ns l js) : ks = js := by
  refine List.ext_getElem? fun i => ?_
  by_cases hi : i < l.length
  · have g := List.getElem?_eq_getElem hi
    rcases a.2 i _ g with ⟨j, h1, h2⟩ | ⟨h1, h2⟩
    · rcases b.2 i _ g with ⟨j', h3, h4⟩ | ⟨h3, h4⟩
      · obtain ⟨x1, x2⟩ := List.getElem?_eq_some_iff.mp h1
        obtain ⟨y1, y2⟩ := List.getElem?_eq_some_iff.mp h3
        have := (List.getElem_inj nd).mp (x2.trans y2.symm)
        subst this
        rw [h2, h4]
      · rw [h3] at h1
        exact absurd (List.mem_of_getElem? h1) hs
    · rcases b.2 i _ g with ⟨j', h3, h4⟩ | ⟨h3, h4⟩
      · rw [h1] at h3
        exact absurd (List.mem_of_getElem? h3) hs
      · rw [h2, h4]
  · rw [List.getElem?_eq_none (by rw [a.1]; omega), List.getElem?_eq_none (by rw [b.1]; omega)]
theorem PlAt.ts {H : Hp} {D : Addr} {ps : List (List Nat)} (h : PlAt H D ps) : ∃ fs : List Addr, H D = some (.lst (fs.map V.ref)) ∧ TsAt pV H fs ps := by
  obtain ⟨fs, a, b, c⟩ := h
  refine ⟨fs, a, b, fun i t x e1 e2 => ?_⟩
  have hi := lt_of_get e2
  obtain ⟨u, u1, u2⟩ := c i hi
  rw [e1] at u1
  cases u1
  rw [List.getElem?_eq_getElem hi] at e2
  cases e2
  exact u2.q
/-- where a word stands first among the names and the hole -/
theorem name_ix {rows : List Row} (R : ROk 8 rows) {l : List Str} (O : StumpOk rows l) {z : Str} (hz : z ∈ l) : ∃ j : Nat, (rows.map (·.1) ++ [("*" : Str)])[j]? = some z ∧ (∀ (m : Nat) (y : Str), m < j → (rows.map (·.1) ++ [("*" : Str)])[m]? = some y → y ≠ z) ∧ ((∃ i : Nat, (rows.map (·.1))[i]? = some z ∧ j = i) ∨ (z = "*" ∧ j = (rows.map (·.1)).length)) := by
  by_cases e : z = "*"
  · subst e
    refine ⟨(rows.map (·.1)).length, ?_, fun m y hm hy e => ?_, .inr ⟨rfl, rfl⟩⟩
    · rw [List.getElem?_append_right (Nat.le_refl _), Nat.sub_self]; rfl
    · rw [List.getElem?_append_left hm, e] at hy
      exact star_notin R (List.mem_of_getElem? hy)
  · rcases O.k z hz with q | ⟨q, hq, e2⟩
    · exact absurd q e
    · obtain ⟨i, hi, ei⟩ := List.mem_iff_getElem.mp (List.mem_map_of_mem (f := (·.1)) hq)
      have g : (rows.map (·.1))[i]? = some z := by rw [List.getElem?_eq_getElem hi, ei, e2]
      refine ⟨i, by rw [List.getElem?_append_left hi]; exact g, fun m y hm hy e3 => ?_, .inl ⟨i, g, rfl⟩⟩
      rw [List.getElem?_append_left (by omega), e3] at hy
      obtain ⟨x1, x2⟩ := List.getElem?_eq_some_iff.mp hy
      obtain ⟨y1, y2⟩ := List.getElem?_eq_some_iff.mp g
      have := (List.getElem_inj R.nd).mp (x2.trans y2.symm)
      omega
section
variable {P : Program} {w : World} {K : PySem.W.Frag} {mg : Str → Option Value} {base : Heap} {C CT : Addr} {A : XA}
theorem ok_law_alone_right (T : Bk mg) (c_holes : DefOk P w K mg base (L2.CX P w) 4 "holes" (spStR C A HolesAt)) (c_stump_key : DefOk P w K mg base (L2.CX P w) 4 "stump_key" (spStR C A SkeyAt)) (c_law_hole_paths : DefOk P w K mg base CX0 4 "_law_hole_paths" spLawHoles) (c_law_same : DefOk P w K mg base CX0 3 "_law_same" (spSame 3)) (D : Def0 K mg "_law_alone_right" s_law_alone_right) : DefOk P w K mg base CX0 5 "_law_alone_right" (spLAlone C) := by
  refine D.ok sc_law_alone_right (fun vs H Q E h => ?_) (fun _ _ _ _ _ _ us hl => match us, hl with | [_, _, _], _ => rfl) (fun f cdv A' outer s H vs Q E hr h => ?_)
  · obtain ⟨r, b, s, rows, l, rfl, _⟩ := h
    rfl
  · obtain ⟨r, b, s, rows, l, rfl, hR, hB, R, hs, O, k⟩ := h
    have hsz := O.sz
    have R8 : rows.length ≤ 8 := by have := R.len; omega
    refine ⟨_, (pss_cons (ps_if (pt_not (pt_val (pe_d c_law_same (hr.mono (by decide)) pass0 (pa_cons (pe_d c_holes (hr.mono (by decide)) passL (pa_cons (pv 1) (pa_cons (pv 2) pa_nil))) (pa_cons (pe_callTy call_tuple_of (by rfl) T.b_tuple (by decide +kernel) (pa_cons (pe_d c_law_hole_paths (hr.mono (by decide)) pass0 (pa_cons (pv 0) (pa_cons (pv 2) pa_nil))) pa_nil)) pa_nil)))))
        (pss_one (ps_ret pe_bl))
        pss_nil)
      (pss_cons (ps_set (i := 3) sc_law_alone_right.nd rfl (Or.inr rfl) (pe_op op_cat (pe_lc (own := [("row", 4)]) (g := (gName 4)) (tt := tYes) rfl sc_law_alone_right.nd (pi_list (pv 0)) (blkOk_by (N := N_law_alone_right) (sc := defScope s_law_alone_right) (by decide +kernel)) (fun _ _ _ _ _ => (pg_name (i := 4) sc_law_alone_right.nd rfl (Or.inl rfl))) (fun _ _ _ _ _ => pts_nil) (fun _ _ _ _ _ => (pe_ix (show IxR _ (rIxT K) from ix_tup) (pv 4) pe_int (fun _ _ => rfl)))) (pe_lst (pa_cons pe_str pa_nil))))
      (pss_one (ps_ret (pe_d c_law_same (hr.mono (by decide)) pass0 (pa_cons (pe_d c_stump_key (hr.mono (by decide)) passL (pa_cons (pv 1) (pa_cons (pv 2) pa_nil))) (pa_cons (pe_tup (pa_cons (pe_callB call_len_seq (by rfl) T.b_len boot_len (pa_cons (pv 2) pa_nil)) (pa_cons (pe_callTy call_tuple_of (by rfl) T.b_tuple (by decide +kernel) (pa_cons (pe_lc (own := [("word", 5)]) (g := (gName 5)) (tt := tYes) rfl sc_law_alone_right.nd (pi_tup (pv 2)) (blkOk_by (N := N_law_alone_right) (sc := defScope s_law_alone_right) (by decide +kernel)) (fun _ _ _ _ _ => (pg_name (i := 5) sc_law_alone_right.nd rfl (Or.inl rfl))) (fun _ _ _ _ _ => pts_nil) (fun _ _ _ _ _ => (show PE _ _ (tBM K "list" (rIndex K) _ _) from (pe_bm PySem.F.plainAttrs_list PySem.F.slot_list_index PySem.F.type_list_index (show MtR _ _ (rIndex K) from mt_index) (pv 3) (pa_cons (pv 5) pa_nil))))) pa_nil)) pa_nil))) pa_nil))))))), ?_⟩
    refine ⟨_, rfl, _, rfl, b, s, rows, l, rfl, hB, R, hs, by omega, ?_⟩
    rw [okdue R O]
    rintro H1 q s1 ⟨ts, h1, h2⟩
    refine ⟨_, rfl, _, rfl, r, s, rows, l, rfl, hR.same s1, R, hs.same s1, O.wf, fun H2 X s2 hX hP => ?_⟩
    obtain ⟨fs, p1, p2⟩ := hP.ts
    refine ⟨X, _, rfl, .inl ⟨SqL.of p1, fun u hu => ?_⟩⟩
    have st := s1.trans s2
    have s3 := (Same.refl H2).upd_new (o := .tup (fs.map V.ref)) hu
    have hl4 : (hpaths rows l).length ≤ 2000 := by
      unfold hpaths
      rw [List.length_map, Mth.hps_len]
      exact Nat.le_trans List.count_le_length hsz
    refine ⟨_, _, rfl, .inl ⟨Eqs.paths (((Tq.of h1).same s2).same s3) (.of upd_same) ((h2.keep (TQ.of_same s2)).keep (TQ.of_same s3)) (p2.keep (TQ.of_same s3)) (show (hpaths rows l).length ≤ 100000 by omega) (fun x hx => ?_), fun H3 s4 => ?_⟩⟩
    · obtain ⟨j, hj, rfl⟩ := List.mem_map.mp hx
      have hjl : j < l.length := by
        unfold Mth.hps at hj
        have := (List.mem_filter.mp hj).1
        exact List.mem_range.mp this
      have := Mth.pth_dep (wR rows) O.f hjl
      omega
    refine ⟨_, rfl, ifn (by decide) ?_⟩
    have st3 := (st.trans s3).trans s4
    obtain ⟨rs, r1, r2⟩ := hR.same st3
    refine ⟨_, rfl, r, rfl, ⟨_, SqL.of r1⟩, fun D hD => lc_it (walk_list (xs := rs.map V.ref)) (fun i H' => Same H3 H' ∧ H' D = some (.lst (((rows.take i).map (·.1)).map V.str))) ⟨(Same.refl H3).upd_new hD, upd_same⟩ (fun i H' _ ⟨q, _⟩ => SqL.of (q _ _ r1)) ?_ ?_⟩
    · rintro i v H9 H4 hi ⟨s5, d5⟩ ⟨rfl, hv⟩
      have hir : i < rows.length := by rw [List.length_map, r2.1] at hi; exact hi
      obtain ⟨t, t1, t2, t3⟩ := r2.at hir
      rw [t2] at hv
      cases hv
      refine ⟨rfl, _, rfl, t, _, _, _, rfl, rfl, SqT.of (s5 _ _ t3), atI_nat (j := 0) rfl, _, d5, lt_line (by rw [List.length_map, List.length_map, List.length_take]; omega), s5.upd_own hD, ?_⟩
      rw [upd_same, List.take_add_one, List.getElem?_eq_getElem hir, List.map_append, List.map_append]
      rfl
    · rintro H4 ⟨s5, d5⟩
      rw [List.length_map, r2.1, List.take_length] at d5
      refine ⟨le_line (show 1 ≤ 100000 by decide), fun L hL => ?_⟩
      have s6 := s5.upd_new (o := .lst [.str "*"]) hL
      have nDL : D ≠ L := ne_of_none d5 hL
      refine ⟨_, _, _, _, rfl, rfl, (upd_ne nDL).trans d5, upd_same, le_line (by rw [List.length_map, List.length_map]; show rows.length + 1 ≤ 100000; omega), fun N hN => ?_⟩
      have s7 := s6.upd_new (o := .lst (((rows.map (·.1)).map V.str) ++ [.str "*"])) hN
      have eN : (upd (upd H4 L (.lst [.str "*"])) N (.lst (((rows.map (·.1)).map V.str) ++ [.str "*"]))) N = some (.lst ((rows.map (·.1) ++ [("*" : Str)]).map V.str)) := by rw [upd_same, List.map_append]; rfl
      generalize upd (upd H4 L (.lst [.str "*"])) N (.lst (((rows.map (·.1)).map V.str) ++ [.str "*"])) = H5 at s7 eN
      have st5 := st3.trans s7
      refine ⟨_, rfl, _, rfl, b, s, rows, l, rfl, hB.same st5, R, hs.same st5, by omega, ?_⟩
      rw [okdue R O]
      rintro H6 y s8 ⟨u2, ks, k1, k2, k3⟩
      have st6 := st5.trans s8
      refine ⟨_, rfl, s, _, rfl, .inr (hs.same st6).sq, _, rfl, s, rfl, ⟨_, (hs.same st6).sq⟩, fun G hG => lc_it (walk_tup (xs := l.map V.str)) (fun i H' => Same H6 H' ∧ ∃ js, H' G = some (.lst (js.map V.int)) ∧ RanksS (rows.map (·.1)) (l.take i) js) ⟨(Same.refl H6).upd_new hG, [], upd_same, rfl, fun i z h => by simp at h⟩ (fun i H' _ ⟨q, _⟩ => ((hs.same st6).same q).sq) ?_ ?_⟩
      · rintro i v H9 H7 hi ⟨s9, js, g1, g2⟩ ⟨rfl, hv⟩
        have hil : i < l.length := by rw [List.length_map] at hi; exact hi
        rw [List.getElem?_map, List.getElem?_eq_getElem hil] at hv
        cases hv
        obtain ⟨j, j1, j2, j3⟩ := name_ix R O (List.getElem_mem hil)
        have hN7 := s9 _ _ (s8 _ _ eN)
        refine ⟨rfl, _, rfl, .inl ⟨rfl, _, SqL.of hN7⟩, _, rfl, N, _, .str l[i], j, .str l[i], rfl, rfl, SqL.of hN7, rfl, flat_strs _, by rw [List.getElem?_map, j1]; rfl, beq_self_eq_true l[i], fun m z' hm hz' => ?_, ?_⟩
        · rw [List.getElem?_map] at hz'
          obtain ⟨y, y1, rfl⟩ := Option.map_eq_some_iff.mp hz'
          exact beq_eq_false_iff_ne.mpr (j2 m y hm y1)
        · have hjl := g2.1
          rw [List.length_take] at hjl
          refine ⟨_, g1, lt_line (by rw [List.length_map]; omega), s9.upd_own hG, js ++ [((j : Nat) : Int)], by rw [upd_same, List.map_append]; rfl, g2.snoc (List.getElem?_eq_getElem hil) ?_⟩
          rcases j3 with ⟨i3, a, e⟩ | ⟨a, e⟩
          · exact .inl ⟨i3, a, by rw [e]⟩
          · exact .inr ⟨a, by rw [e]⟩
      · rintro H7 ⟨s9, js, g1, g2⟩
        rw [List.length_map, List.take_length] at g2
        have ekj : ks = js := RanksS.uniq R.nd (star_notin R) k3 g2
        refine ⟨G, _, rfl, .inl ⟨SqL.of g1, fun v hv => ?_⟩⟩
        have sv := s9.upd_new (o := .tup (js.map V.int)) hv
        refine ⟨le_line (show 2 ≤ 100000 by decide), fun t ht => ?_⟩
        have sw := sv.upd_new (o := .tup [.int (((l.map V.str).length : Nat) : Int), .ref v]) ht
        have hv2 : (upd (upd H7 v (.tup (js.map V.int))) t (.tup [.int (((l.map V.str).length : Nat) : Int), .ref v])) v = some (.tup (js.map V.int)) := by rw [upd_ne (ne_of_none upd_same ht)]; exact upd_same
        refine ⟨_, _, rfl, .inl ⟨Eqs.tup ((Tq.of k1).same sw) (.of upd_same) rfl (show 2 ≤ 100000 by decide) (fun i x y p q => ?_), fun H8 s10 => k _ ((st6.trans sw).trans s10)⟩⟩
        match i, p, q with
        | 0, p, q => cases p; cases q; rw [List.length_map]; exact .int _
        | 1, p, q =>
          cases p
          cases q
          have kk := (Tq.of k2).same sw
          rw [ekj] at kk
          exact .ints kk (.of hv2) (by have := g2.1; omega)
        | i + 2, p, _ => simp at p
theorem ok_law_fill_right (T : Bk mg) (c_law_pieces : DefOk P w K mg base CX0 3 "_law_pieces" spLawPieces) (c_law_with_pieces : DefOk P w K mg base CX0 1 "_law_with_pieces" spLawWith) (c_parts : DefOk P w K mg base (L2.CX P w) 5 "parts" (spSt2 C A fParts)) (c_law_same : DefOk P w K mg base CX0 3 "_law_same" (spSame 3)) (c_law_filled : DefOk P w K mg base CX0 6 "_law_filled" (spLFil C gL)) (D : Def0 K mg "_law_fill_right" s_law_fill_right) : DefOk P w K mg base CX0 7 "_law_fill_right" (spLFill C) := by
  refine D.ok sc_law_fill_right (fun vs H Q E h => ?_) (fun _ _ _ _ _ _ us hl => match us, hl with | [_, _, _, _], _ => rfl) (fun f cdv A' outer s H vs Q E hr h => ?_)
  · obtain ⟨a, r, b, s, rows, l, rfl, _⟩ := h
    rfl
  · obtain ⟨a, r, b, s, rows, l, rfl, bA, nra, hR, hB, R, hz, O, h9, k⟩ := h
    refine ⟨_, (pss_cons (ps_set (i := 4) sc_law_fill_right.nd rfl (Or.inl rfl) (pe_d c_law_pieces (hr.mono (by decide)) pass0 (pa_cons (pv 0) (pa_cons (pv 1) (pa_cons (pv 3) pa_nil)))))
      (pss_cons (ps_if (pt_cmpR op_gt (pe_callB call_len_seq (by rfl) T.b_len boot_len (pa_cons (pv 4) pa_nil)) pe_int (nomark _))
        (pss_one (ps_ret pe_bl))
        pss_nil)
      (pss_cons (ps_set (i := 5) sc_law_fill_right.nd rfl (Or.inl rfl) (pe_d c_law_with_pieces (hr.mono (by decide)) pass0 (pa_cons (pv 3) (pa_cons (pv 4) pa_nil))))
      (pss_cons (ps_if (pt_not (pt_val (pe_d c_law_same (hr.mono (by decide)) pass0 (pa_cons (pe_d c_law_filled (hr.mono (by decide)) pass0 (pa_cons (pv 2) (pa_cons (pv 3) (pa_cons (pv 4) pa_nil)))) (pa_cons (pv 5) pa_nil)))))
        (pss_one (ps_ret pe_bl))
        pss_nil)
      (pss_one (ps_ret (pe_d c_law_same (hr.mono (by decide)) pass0 (pa_cons (pe_d c_parts (hr.mono (by decide)) passL (pa_cons (pv 2) (pa_cons (pv 3) (pa_cons (pv 5) pa_nil)))) (pa_cons (pe_callTy call_tuple_of (by rfl) T.b_tuple (by decide +kernel) (pa_cons (pv 4) pa_nil)) pa_nil))))))))), ?_⟩
    refine ⟨_, rfl, _, rfl, _, rfl, a, r, s, rows, l, rfl, bA, nra, hR, R, hz, O, fun H1 G ls k1 b1 hGN nGa hG hlen => ?_⟩
    obtain ⟨ts, g1, g2, g3, g4⟩ := hG
    have hz1 := k1.tz bA hz
    have hB1 := hB.kp bA k1
    refine ⟨_, rfl, G, _, rfl, .inl (SqL.of g1), _, _, rfl, rfl, _, rfl, ?_⟩
    rw [List.length_map, g2.1]
    by_cases c : 6 < ls.length
    · exact ifp (decide_eq_true (by show (6 : Int) < ((ls.length : Nat) : Int); omega)) (k _ k1 b1)
    · refine ifn (fun e => c (by have : (6 : Int) < ((ls.length : Nat) : Int) := of_decide_eq_true e; omega)) ?_
      have lenf : (fill ls l).length ≤ 27 := by
        rw [fill_flr]
        have := Mth.flr_len l ls 3 (by decide) (fun x hx => (g3 x hx).2)
        omega
      have hO : ∀ x ∈ ls, StumpOk rows x := fun x hx => (g3 x hx).1
      have Of : StumpOk rows (fill ls l) := fill_ok R O hO hlen.symm (by omega)
      refine ⟨_, rfl, _, rfl, s, G, l, ts, ls, rfl, hz1.q, by omega, g1, g2, fun x hx => (g3 x hx).2, hlen.symm, fun H2 v s2 hv => ?_⟩
      have g1' := s2 _ _ g1
      have g2' := g2.keep (TQ.of_same s2)
      refine ⟨_, rfl, _, rfl, _, rfl, b, s, G, rows, l, ts, ls, rfl, hB1.same s2, R, hz1.same s2, O, g1', g2', hO, hlen.symm, by omega, by omega, fun H3 y s3 hy => ?_⟩
      refine ⟨_, rfl, _, _, rfl, .inl ⟨(Eqs.strs hy (hv.q.same s3) (by omega)).succ, fun H4 s4 => ?_⟩⟩
      refine ⟨_, rfl, ifn (by decide) ?_⟩
      have st := (s2.trans s3).trans s4
      have hv4 := ((hv.same s3).same s4)
      refine ⟨_, rfl, _, rfl, _, rfl, b, s, v, rows, l, fill ls l, rfl, hB1.same st, R, hz1.q.same st, by omega, hv4.q, by omega, ?_⟩
      rw [fbad2ok R O Of]
      have hp : parts rows l (fill ls l) = some ls := by
        rw [fill_flr]
        exact Mth.prt_flr (w_star R) l ls 0 [] (Nat.zero_le _) rfl (fun t ht => (hO t ht).f) hlen.symm
      intro H5 x s5 hx
      rw [hp] at hx
      obtain ⟨p, us, rfl, p1, p2⟩ := hx
      have st5 := st.trans s5
      have g5 := st5 _ _ g1
      refine ⟨_, rfl, G, _, rfl, .inl ⟨SqL.of g5, fun u hu => ?_⟩⟩
      have s6 := (Same.refl H5).upd_new (o := .tup (ts.map V.ref)) hu
      refine ⟨_, _, rfl, .inl ⟨Eqs.rows ((Tq.of p1).same s6) (.of upd_same) (p2.keep (TQ.of_same s6)) ((g2.keep (TQ.of_same st5)).keep (TQ.of_same s6)) (by omega) (fun x hx => by have := (g3 x hx).2; omega), fun H6 s7 => ?_⟩⟩
      have sa := (st5.trans s6).trans s7
      exact k _ (k1.trans (Kp.same sa)) (bag_same b1 sa)
end
end Sh
end
section
set_option Elab.async false
set_option linter.all false
set_option maxRecDepth 100000
set_option maxHeartbeats 4000000
set_option autoImplicit false
namespace Sh
open PySem PySem.Spec PyProof.Rows L2
open C8 (pss_cut tCut)
open Evl (ixN_nat)
/-- a stump that is followed -/
structure Sk (rows : List Row) (H : Hp) (t : Addr) (l : List Str) : Prop where
  z : Tz H t (l.map V.str)
  o : StumpOk rows l
theorem Sk.same {rows : List Row} {H H' : Hp} {t : Addr} {l : List Str} (x : Sk rows H t l) (s : Same H H') : Sk rows H' t l := ⟨x.z.same s, x.o⟩
theorem Sk.kp {rows : List Row} {H H' : Hp} {a t : Addr} {l : List Str} (x : Sk rows H t l) (b : BagAt H a) (k : Kp a H H') : Sk rows H' t l := ⟨k.tz b x.z, x.o⟩
structure SkAt (rows : List Row) (H : Hp) (ts : List Addr) (ls : List (List Str)) : Prop where
  n : ts.length = ls.length
  s : ∀ (i : Nat) (t : Addr) (l : List Str), ts[i]? = some t → ls[i]? = some l → Sk rows H t l
theorem SkAt.nil {rows : List Row} {H : Hp} : SkAt rows H [] [] := ⟨rfl, fun i t l a => by simp at a⟩
theorem SkAt.cons {rows : List Row} {H : Hp} {t : Addr} {l : List Str} {ts : List Addr} {ls : List (List Str)} (x : Sk rows H t l) (y : SkAt rows H ts ls) : SkAt rows H (t :: ts) (l :: ls) := ⟨by rw [List.length_cons, List.length_cons, y.n], fun i u m a b => by
  match i, a, b with
  | 0, a, b => cases a; cases b; exact x
  | i + 1, a, b => exact y.s i u m a b⟩
theorem SkAt.same {rows : List Row} {H H' : Hp} {ts : List Addr} {ls : List (List Str)} (x : SkAt rows H ts ls) (s : Same H H') : SkAt rows H' ts ls := ⟨x.n, fun i t l a b => (x.s i t l a b).same s⟩
theorem SkAt.ts {rows : List Row} {H : Hp} {ts : List Addr} {ls : List (List Str)} (x : SkAt rows H ts ls) : TsAt sV H ts ls := ⟨x.n, fun i t l a b => (x.s i t l a b).z.q⟩
theorem SkAt.ok {rows : List Row} {H : Hp} {ts : List Addr} {ls : List (List Str)} (x : SkAt rows H ts ls) : ∀ l ∈ ls, StumpOk rows l := fun l hl => by
  obtain ⟨i, hi, rfl⟩ := List.mem_iff_getElem.mp hl
  have h2 : i < ts.length := by rw [x.n]; exact hi
  exact (x.s i _ _ (List.getElem?_eq_getElem h2) (List.getElem?_eq_getElem hi)).o
theorem com_go {C : Addr} {A : XA} {H : Hp} {Q : VK} {b s : Addr} {rows : List Row} {l : List Str} {us : List Addr} {ms : List (List Str)} (hB : BedAt C H b rows) (R : ROk 8 rows) (hs : Tq H s (l.map V.str)) (Ol : StumpOk rows l) (hT : TsAt sV H us ms) (hO : ∀ x ∈ ms, StumpOk rows x) (h20 : ms.length ≤ 20)
    (k : ∀ H' q c, Same H H' → Tq H' q (sV c) → (ms ≠ [] → Tz H' q (sV c)) → StumpOk rows c → Mth.Com (wR rows) (l :: ms) c → c.length ≤ l.length → Q (.ref q) H') : ∀ p, H p = none → spCommon C A [.ref b, .ref s, .ref p] (upd H p (.tup (us.map V.ref))) Q E0 := fun p hp => by
  have s1 := (Same.refl H).upd_new (o := .tup (us.map V.ref)) hp
  refine ⟨b, s, p, rows, l, us, ms, rfl, hB.same s1, R, hs.same s1, by have := Ol.sz; omega, .of upd_same, hT.keep (TQ.new hp), fun x hx => by have := (hO x hx).sz; omega, h20, ?_⟩
  rw [fbad_ok R (ls := l :: ms) fun x hx => by
    rcases List.mem_cons.mp hx with e | e
    · rw [e]; exact Ol
    · exact hO x e]
  intro H' q c s2 hc hq hz
  obtain ⟨z1, z2, z3⟩ := com_of R ms l c Ol hO hc
  exact k H' q c (s1.trans s2) hq hz z2 z1 z3
/-- a union that was told -/
def UnZ (H : Hp) (rows : List Row) (l m : List Str) (v : V) : Prop := ∃ o, Un (wR rows) l m o ∧ ((o = none ∧ v = .non ∧ Mth.Clash (wR rows) l m) ∨ ∃ (q : Addr) (u : List Str), o = some u ∧ v = .ref q ∧ Sk rows H q u ∧ Mth.Uni (wR rows) l m u)
theorem UnZ.same {H H' : Hp} {rows : List Row} {l m : List Str} {v : V} (h : UnZ H rows l m v) (s : Same H H') : UnZ H' rows l m v := by
  obtain ⟨o, a, b | ⟨q, u, e1, e2, z, y⟩⟩ := h
  · exact ⟨o, a, .inl b⟩
  · exact ⟨o, a, .inr ⟨q, u, e1, e2, z.same s, y⟩⟩
theorem UnZ.kp {H H' : Hp} {a : Addr} {rows : List Row} {l m : List Str} {v : V} (h : UnZ H rows l m v) (b : BagAt H a) (k : Kp a H H') : UnZ H' rows l m v := by
  obtain ⟨o, c, d | ⟨q, u, e1, e2, z, y⟩⟩ := h
  · exact ⟨o, c, .inl d⟩
  · exact ⟨o, c, .inr ⟨q, u, e1, e2, z.kp b k, y⟩⟩
theorem UnZ.t {H : Hp} {rows : List Row} {l m : List Str} {v : V} (h : UnZ H rows l m v) : UnT H rows l m v := by
  obtain ⟨o, a, ⟨_, e, c⟩ | ⟨q, u, _, e2, z, y⟩⟩ := h
  · exact .inl ⟨e, c⟩
  · exact .inr ⟨q, u, e2, z.z.q, z.o, y⟩
theorem uni_go {C : Addr} {A : XA} {H : Hp} {Q : VK} {b s t : Addr} {rows : List Row} {l m : List Str} (hB : BedAt C H b rows) (R : ROk 8 rows) (hs : Tq H s (l.map V.str)) (Ol : StumpOk rows l) (ht : Tq H t (m.map V.str)) (Om : StumpOk rows m) (hlm : l.length + m.length ≤ 2000)
    (k : ∀ H' v, Same H H' → UnZ H' rows l m v → Q v H') : spUnited C A [.ref b, .ref s, .ref t] H Q E0 := by
  refine ⟨b, s, t, rows, l, m, rfl, hB, R, hs, by omega, ht, by omega, ?_⟩
  rw [fbad2ok R Ol Om]
  intro o hU
  refine ⟨fun e H' s' => ?_, fun u e => ?_⟩
  · subst e
    exact k H' _ s' ⟨none, hU, .inl ⟨rfl, rfl, Mth.un_none (w_star R) Ol.f Om.f hU⟩⟩
  · have hle := hU.le u e
    subst e
    refine ⟨fun hgt => absurd hgt (by omega), fun _ H' q s' hq => k H' _ s' ⟨_, hU, .inr ⟨q, u, rfl, rfl, ⟨hq, ⟨Mth.un_forest (w_star R) hU u 1 rfl Ol.f Om.f, fun z hz => ?_, by omega⟩⟩, Mth.un_some (w_star R) Ol.f Om.f hU⟩⟩⟩
    rcases Mth.un_mem (w_star R) hU u rfl z hz with x | x
    · exact Ol.k z x
    · exact Om.k z x
theorem UnZ.eqs {H : Hp} {rows : List Row} (R : ROk 8 rows) {l m : List Str} (Ol : StumpOk rows l) (Om : StumpOk rows m) {v u : V} (a : UnZ H rows l m v) (b : UnZ H rows m l u) : Eqs 2 H v u := by
  obtain ⟨o, h1, h2⟩ := a
  obtain ⟨o', h3, h4⟩ := b
  have e := Mth.un_comm (w_star R) Ol.f Om.f h1 h3
  subst e
  rcases h2 with ⟨rfl, rfl, _⟩ | ⟨q, x, rfl, rfl, z, _⟩
  · rcases h4 with ⟨_, rfl, _⟩ | ⟨_, _, e, _⟩
    · exact .non
    · cases e
  · rcases h4 with ⟨e, _⟩ | ⟨q', x', e, rfl, z', _⟩
    · cases e
    · cases e
      exact .strs z.z.q z'.z.q (by have := z.o.sz; omega)
/-- what stands while the law goes on -/
structure LS (C a r b D : Addr) (rows : List Row) (t0 t1 t2 t3 : Addr) (l0 l1 l2 l3 : List Str) (H : Hp) : Prop where
  g : BagAt H a
  r : RowsAt H r rows
  b : BedAt C H b rows
  d : H D = some (.lst [.ref t0, .ref t1, .ref t2, .ref t3])
  k0 : Sk rows H t0 l0
  k1 : Sk rows H t1 l1
  k2 : Sk rows H t2 l2
  k3 : Sk rows H t3 l3
theorem LS.kp {C a r b D : Addr} {rows : List Row} {t0 t1 t2 t3 : Addr} {l0 l1 l2 l3 : List Str} {H H' : Hp} (x : LS C a r b D rows t0 t1 t2 t3 l0 l1 l2 l3 H) (k : Kp a H H') (g : BagAt H' a) (nr : r ≠ a) (nD : D ≠ a) : LS C a r b D rows t0 t1 t2 t3 l0 l1 l2 l3 H' :=
  ⟨g, x.r.kp' x.g nr k, x.b.kp x.g k, k _ _ x.d nD, x.k0.kp x.g k, x.k1.kp x.g k, x.k2.kp x.g k, x.k3.kp x.g k⟩
theorem LS.same {C a r b D : Addr} {rows : List Row} {t0 t1 t2 t3 : Addr} {l0 l1 l2 l3 : List Str} {H H' : Hp} (x : LS C a r b D rows t0 t1 t2 t3 l0 l1 l2 l3 H) (s : Same H H') : LS C a r b D rows t0 t1 t2 t3 l0 l1 l2 l3 H' :=
  ⟨bag_same x.g s, x.r.same s, x.b.same s, s _ _ x.d, x.k0.same s, x.k1.same s, x.k2.same s, x.k3.same s⟩
theorem LS.all {C a r b D : Addr} {rows : List Row} {t0 t1 t2 t3 : Addr} {l0 l1 l2 l3 : List Str} {H : Hp} (x : LS C a r b D rows t0 t1 t2 t3 l0 l1 l2 l3 H) : SkAt rows H [t0, t1, t2, t3] [l0, l1, l2, l3] := .cons x.k0 (.cons x.k1 (.cons x.k2 (.cons x.k3 .nil)))
theorem SkAt.take {rows : List Row} {H : Hp} {ts : List Addr} {ls : List (List Str)} (x : SkAt rows H ts ls) (n : Nat) : SkAt rows H (ts.take n) (ls.take n) := ⟨by rw [List.length_take, List.length_take, x.n], fun i t l a b => by
  have hi := lt_of_get a
  rw [List.length_take] at hi
  rw [List.getElem?_take_of_lt (by omega)] at a b
  exact x.s i t l a b⟩
def spBagT : Sp := fun vs H Q _ => ∃ (a : Addr), vs = [.ref a] ∧ BagAt H a ∧ ∀ H', Q (.bl true) H'
abbrev s_law_short_right : Stmt := top 72
abbrev N_law_short_right : List Str := ["bag", "rows", "bed", "first", "stumps", "many", "shared", "joint", "again", "asked", "one", "two", "six"]
theorem sc_law_short_right : FnScope N_law_short_right ["bag"] (defScope s_law_short_right) := ⟨rfl, rfl, rfl, by decide +kernel, rfl, by decide +kernel, by decide +kernel⟩
section
variable {P : Program} {w : World} {K : PySem.W.Frag} {mg : Str → Option Value} {base : Heap} {C CT : Addr} {A : XA}
theorem ok_law_short_right (T : Bk mg) (c_law_rows : DefOk P w K mg base CX0 4 "_law_rows" spRows) (c_law_bed : DefOk P w K mg base CX0 7 "_law_bed" (spLawBed C)) (c_law_draw : DefOk P w K mg base CX0 1 "_law_draw" spDraw) (c_law_plant : DefOk P w K mg base CX0 2 "_law_plant" spLawPlant) (c_law_related : DefOk P w K mg base CX0 5 "_law_related" spLawRel) (c_law_common : DefOk P w K mg base CX0 6 "_law_common" (spLCom C)) (c_law_common_right : DefOk P w K mg base CX0 5 "_law_common_right" spLCR) (c_common : DefOk P w K mg base (L2.CX P w) 5 "common" (spStar 2 (spCommon C A))) (c_united : DefOk P w K mg base (L2.CX P w) 5 "united" (spUnited C A)) (c_law_united_right : DefOk P w K mg base CX0 5 "_law_united_right" spLUR) (c_law_alone_right : DefOk P w K mg base CX0 5 "_law_alone_right" (spLAlone C)) (c_law_fill_right : DefOk P w K mg base CX0 7 "_law_fill_right" (spLFill C)) (c_law_pair_right : DefOk P w K mg base CX0 7 "_law_pair_right" (spLPair C)) (c_law_same : DefOk P w K mg base CX0 3 "_law_same" (spSame 3)) (D : Def0 K mg "_law_short_right" s_law_short_right) : DefOk P w K mg base CX0 8 "_law_short_right" spBagT := by
  refine D.ok sc_law_short_right (fun vs H Q E h => ?_) (fun _ _ _ _ _ _ us hl => match us, hl with | [_], _ => rfl) (fun f cdv A' outer s H vs Q E hr h => ?_)
  · obtain ⟨a, rfl, _⟩ := h
    rfl
  · obtain ⟨a, rfl, bA, k⟩ := h
    refine ⟨_, (pss_cons (ps_set (i := 1) sc_law_short_right.nd rfl (Or.inl rfl) (pe_d c_law_rows (hr.mono (by decide)) pass0 (pa_cons (pv 0) (pa_cons pe_int pa_nil))))
      (pss_cons (ps_set (i := 2) sc_law_short_right.nd rfl (Or.inl rfl) (pe_d c_law_bed (hr.mono (by decide)) pass0 (pa_cons (pv 1) pa_nil)))
      (pss_cons (ps_set (i := 3) sc_law_short_right.nd rfl (Or.inl rfl) (pe_d c_law_plant (hr.mono (by decide)) pass0 (pa_cons (pv 0) (pa_cons (pv 1) (pa_cons (pe_op op_add pe_int (pe_d c_law_draw (hr.mono (by decide)) pass0 (pa_cons (pv 0) (pa_cons pe_int pa_nil)))) (pa_cons pe_bl pa_nil))))))
      (pss_cons (ps_set (i := 4) sc_law_short_right.nd rfl (Or.inl rfl) (pe_lst (pa_cons (pv 3) (pa_cons (pe_d c_law_related (hr.mono (by decide)) pass0 (pa_cons (pv 0) (pa_cons (pv 1) (pa_cons (pv 3) pa_nil)))) (pa_cons (pe_d c_law_related (hr.mono (by decide)) pass0 (pa_cons (pv 0) (pa_cons (pv 1) (pa_cons (pv 3) pa_nil)))) (pa_cons (pe_d c_law_related (hr.mono (by decide)) pass0 (pa_cons (pv 0) (pa_cons (pv 1) (pa_cons (pv 3) pa_nil)))) pa_nil))))))
      (pss_cons (ps_for PassesOwn.never rfl (pi_list (pe_lst (pa_cons pe_int (pa_cons pe_int (pa_cons pe_int pa_nil))))) (pg_name (i := 5) sc_law_short_right.nd rfl (Or.inl rfl))
        (pss_one (ps_if (pt_not (pt_val (pe_d c_law_common_right (hr.mono (by decide)) pass0 (pa_cons (pv 1) (pa_cons (pe_d c_law_common (hr.mono (by decide)) pass0 (pa_cons (pv 2) (pa_cons (pe_slice sl_list (pv 4) po_none (po_some (pv 5))) pa_nil))) (pa_cons (pe_slice sl_list (pv 4) po_none (po_some (pv 5))) pa_nil))))))
          (pss_one (ps_ret pe_bl))
          pss_nil)))
      (pss_cons (ps_set (i := 6) sc_law_short_right.nd rfl (Or.inl rfl) (pe_d c_common (hr.mono (by decide)) passL (pa_cons (pv 2) (pa_cons (pv 3) (pa_cons (pe_ix ix_list (pv 4) pe_int (fun _ _ => rfl)) pa_nil)))))
      (pss_cons (ps_if (pt_not (pt_val (pe_d c_law_common_right (hr.mono (by decide)) pass0 (pa_cons (pv 1) (pa_cons (pv 6) (pa_cons (pe_slice sl_list (pv 4) po_none (po_some pe_int)) pa_nil))))))
        (pss_one (ps_ret pe_bl))
        pss_nil)
      (pss_cons (ps_set (i := 7) sc_law_short_right.nd rfl (Or.inl rfl) (pe_d c_united (hr.mono (by decide)) passL (pa_cons (pv 2) (pa_cons (pv 3) (pa_cons (pe_ix ix_list (pv 4) pe_int (fun _ _ => rfl)) pa_nil)))))
      (pss_cons (ps_if (PW.pt (pw_or (pt_not (pt_val (pe_d c_law_united_right (hr.mono (by decide)) pass0 (pa_cons (pv 1) (pa_cons (pv 7) (pa_cons (pv 3) (pa_cons (pe_ix ix_list (pv 4) pe_int (fun _ _ => rfl)) pa_nil))))))) (pw_or1 (pt_not (pt_val (pe_d c_law_alone_right (hr.mono (by decide)) pass0 (pa_cons (pv 1) (pa_cons (pv 2) (pa_cons (pv 3) pa_nil)))))))))
        (pss_one (ps_ret pe_bl))
        pss_nil)
      (pss_cons (ps_set (i := 8) sc_law_short_right.nd rfl (Or.inl rfl) (pe_d c_united (hr.mono (by decide)) passL (pa_cons (pv 2) (pa_cons (pe_ix ix_list (pv 4) pe_int (fun _ _ => rfl)) (pa_cons (pe_ix ix_list (pv 4) pe_int (fun _ _ => rfl)) pa_nil)))))
      (pss_cons (ps_if (PW.pt (pw_or (pt_not (pt_val (pe_d c_law_united_right (hr.mono (by decide)) pass0 (pa_cons (pv 1) (pa_cons (pv 8) (pa_cons (pe_ix ix_list (pv 4) pe_int (fun _ _ => rfl)) (pa_cons (pe_ix ix_list (pv 4) pe_int (fun _ _ => rfl)) pa_nil))))))) (pw_or1 (pt_not (pt_val (pe_d c_law_fill_right (hr.mono (by decide)) pass0 (pa_cons (pv 0) (pa_cons (pv 1) (pa_cons (pv 2) (pa_cons (pv 3) pa_nil))))))))))
        (pss_one (ps_ret pe_bl))
        pss_nil)
      (pss_cons (ps_set (i := 9) sc_law_short_right.nd rfl (Or.inl rfl) (pe_lst (pa_cons (pv 3) (pa_cons (pe_ix ix_list (pv 4) pe_int (fun _ _ => rfl)) (pa_cons (pe_ix ix_list (pv 4) pe_int (fun _ _ => rfl)) (pa_cons (pv 6) pa_nil))))))
      (pss_cut (ps_if (pt_cmpR op_notN (pv 7) pe_non (nomark _))
        (pss_one (ps_expr (pe_bm PySem.F.plainAttrs_list PySem.F.slot_list_append PySem.F.type_list_append mt_append (pv 9) (pa_cons (pv 7) pa_nil))))
        pss_nil)
      (pss_cons (ps_for PassesOwn.never rfl (pi_list (pv 9)) (pg_name (i := 10) sc_law_short_right.nd rfl (Or.inl rfl))
        (pss_one (ps_for PassesOwn.never rfl (pi_list (pv 9)) (pg_name (i := 11) sc_law_short_right.nd rfl (Or.inl rfl))
          (pss_one (ps_if (pt_not (pt_val (pe_d c_law_pair_right (hr.mono (by decide)) pass0 (pa_cons (pv 1) (pa_cons (pv 2) (pa_cons (pv 10) (pa_cons (pv 11) pa_nil)))))))
            (pss_one (ps_ret pe_bl))
            pss_nil)))))
      (pss_cons (ps_set (i := 12) sc_law_short_right.nd rfl (Or.inl rfl) (pe_d c_common (hr.mono (by decide)) passL (pa_cons (pv 2) (pa_cons (pe_ix ix_list (pv 4) pe_int (fun _ _ => rfl)) (pa_cons (pe_ix ix_list (pv 4) pe_int (fun _ _ => rfl)) (pa_cons (pe_ix ix_list (pv 4) pe_int (fun _ _ => rfl)) (pa_cons (pv 3) (pa_cons (pe_ix ix_list (pv 4) pe_int (fun _ _ => rfl)) (pa_cons (pe_ix ix_list (pv 4) pe_int (fun _ _ => rfl)) pa_nil)))))))))
      (pss_cons (ps_if (pt_not (pt_val (pe_d c_law_same (hr.mono (by decide)) pass0 (pa_cons (pv 12) (pa_cons (pe_d c_law_common (hr.mono (by decide)) pass0 (pa_cons (pv 2) (pa_cons (pv 4) pa_nil))) pa_nil)))))
        (pss_one (ps_ret pe_bl))
        pss_nil)
      (pss_one (ps_ret (pe_and (pe_d c_law_same (hr.mono (by decide)) pass0 (pa_cons (pv 6) (pa_cons (pe_d c_common (hr.mono (by decide)) passL (pa_cons (pv 2) (pa_cons (pe_ix ix_list (pv 4) pe_int (fun _ _ => rfl)) (pa_cons (pv 3) pa_nil)))) pa_nil))) (pe_one (pe_d c_law_same (hr.mono (by decide)) pass0 (pa_cons (pv 7) (pa_cons (pe_d c_united (hr.mono (by decide)) passL (pa_cons (pv 2) (pa_cons (pe_ix ix_list (pv 4) pe_int (fun _ _ => rfl)) (pa_cons (pv 3) pa_nil)))) pa_nil))))))))))))))))))))))), ?_⟩
    refine ⟨_, rfl, a, 5, rfl, bA, by decide, by decide, fun H2 r rows k2 b2 hr2 hR2 R6 => ?_⟩
    have R := R6.mono (m' := 8) (by decide)
    have w0 := w_star R
    have nra : r ≠ a := Kp.bag_ne bA hr2
    refine ⟨_, rfl, r, rows, rfl, hR2, R, fun H3 b s3 hb hB3 => ?_⟩
    have b3 := bag_same b2 s3
    have hR3 := hR2.same s3
    refine ⟨_, rfl, _, rfl, _, rfl, a, 9, rfl, b3, by decide, by decide, fun H4 d k4 b4 d0 d9 => ?_⟩
    have ed : d = ((d.toNat : Nat) : Int) := by omega
    have hR4 := hR3.kp' b3 nra k4
    have hB4 := hB3.kp b3 k4
    refine ⟨_, _, rfl, rfl, a, r, rows, 1 + d.toNat, true, by rw [ed]; rfl, b4, nra, hR4, R, by omega, by omega, fun H5 t0 l0 k5 b5 hu hf hm hl => ?_⟩
    have K0 : Sk rows H5 t0 l0 := ⟨hu, hf, fun z hz => by
      rcases hm z hz with q | q
      · exact .inl q.2
      · exact .inr q, by omega⟩
    have hl0 : l0.length ≤ 9 := by omega
    have hR5 := hR4.kp' b4 nra k5
    have hB5 := hB4.kp b4 k5
    refine ⟨_, rfl, _, rfl, _, rfl, _, rfl, a, r, t0, rows, l0, rfl, b5, nra, hR5, R, K0.z, K0.o, hl0, fun H6 t1 l1 k6 b6 z1 o1 n1 => ?_⟩
    have hR6 := hR5.kp' b5 nra k6
    have hB6 := hB5.kp b5 k6
    have K06 := K0.kp b5 k6
    refine ⟨_, rfl, _, rfl, _, rfl, a, r, t0, rows, l0, rfl, b6, nra, hR6, R, K06.z, K0.o, hl0, fun H7 t2 l2 k7 b7 z2 o2 n2 => ?_⟩
    have hR7 := hR6.kp' b6 nra k7
    have hB7 := hB6.kp b6 k7
    have K07 := K06.kp b6 k7
    have K17 := (Sk.mk z1 o1).kp b6 k7
    refine ⟨_, rfl, _, rfl, _, rfl, a, r, t0, rows, l0, rfl, b7, nra, hR7, R, K07.z, K0.o, hl0, fun H8 t3 l3 k8 b8 z3 o3 n3 => ?_⟩
    refine ⟨le_line (show 4 ≤ 100000 by decide), fun D hD => ?_⟩
    have nDa : D ≠ a := Kp.bag_ne b8 hD
    have s8 := (Same.refl H8).upd_new (o := .lst [.ref t0, .ref t1, .ref t2, .ref t3]) hD
    have L0 : LS C a r b D rows t0 t1 t2 t3 l0 l1 l2 l3 (upd H8 D (.lst [.ref t0, .ref t1, .ref t2, .ref t3])) :=
      ⟨bag_same b8 s8, (hR7.kp' b7 nra k8).same s8, (hB7.kp b7 k8).same s8, upd_same, (K07.kp b7 k8).same s8, (K17.kp b7 k8).same s8, ((Sk.mk z2 o2).kp b7 k8).same s8, (Sk.mk z3 o3).same s8⟩
    generalize upd H8 D (.lst [.ref t0, .ref t1, .ref t2, .ref t3]) = H9 at L0
    clear hR2 hR3 hR4 hR5 hR6 hR7 hB3 hB4 hB5 hB6 hB7 K06 K07 K17 z1 z2 z3 K0 s8
    refine ⟨le_line (show 3 ≤ 100000 by decide), fun M hM => ?_⟩
    have sM := (Same.refl H9).upd_new (o := .lst [.int 1, .int 3, .int 4]) hM
    have LM := L0.same sM
    have eM : (upd H9 M (.lst [.int 1, .int 3, .int 4])) M = some (.lst [.int 1, .int 3, .int 4]) := upd_same
    generalize upd H9 M (.lst [.int 1, .int 3, .int 4]) = H10 at LM eM
    refine ⟨M, rfl, ⟨_, SqL.of eM⟩, for_it (walk_list (xs := [V.int 1, .int 3, .int 4])) (fun i σ H' => ∃ (x : Option V), σ = [some (.ref a), some (.ref r), some (.ref b), some (.ref t0), some (.ref D), x, none, none, none, none, none, none, none] ∧ Same H10 H') ⟨none, rfl, Same.refl H10⟩ (fun i σ H' _ ⟨_, _, q⟩ => SqL.of (q _ _ eM)) ?_ ?_⟩
    · rintro i v σ H' H11 hi ⟨x, rfl, s11⟩ ⟨rfl, hv⟩
      have L11 := LM.same s11
      obtain ⟨n, rfl, n1', n4'⟩ : ∃ n : Nat, v = .int (n : Nat) ∧ 1 ≤ n ∧ n ≤ 4 := by
        match i, hi, hv with
        | 0, _, hv => cases hv; exact ⟨1, rfl, by decide, by decide⟩
        | 1, _, hv => cases hv; exact ⟨3, rfl, by decide, by decide⟩
        | 2, _, hv => cases hv; exact ⟨4, rfl, by decide, by decide⟩
        | n + 3, h, _ => exact absurd h (by simp)
      have ecut : cutV [V.ref t0, .ref t1, .ref t2, .ref t3] none (some ((n : Nat) : Int)) = (([t0, t1, t2, t3] : List Addr).take n).map V.ref := by
        have hn : n = 1 ∨ n = 2 ∨ n = 3 ∨ n = 4 := by omega
        rcases hn with rfl | rfl | rfl | rfl <;> rfl
      have hn1 : 1 ≤ (([l0, l1, l2, l3] : List (List Str)).take n).length := by rw [List.length_take]; simp; omega
      have hn4 : (([l0, l1, l2, l3] : List (List Str)).take n).length ≤ 4 := by rw [List.length_take]; simp; omega
      refine ⟨_, rfl, _, rfl, _, rfl, _, rfl, _, rfl, D, _, rfl, SqL.of L11.d, fun p hp => ?_⟩
      have sp := (Same.refl H11).upd_new (o := .lst (cutV [V.ref t0, .ref t1, .ref t2, .ref t3] none (some ((n : Nat) : Int)))) hp
      have Lp := L11.same sp
      have A1 := Lp.all.take n
      refine ⟨b, p, rows, _, _, rfl, Lp.b, R, (by rw [upd_same, ecut]), A1.ts, A1.ok, hn1, hn4, fun H12 c cl s12 hc oc hC => ?_⟩
      have L12 := Lp.same s12
      refine ⟨_, rfl, _, rfl, _, rfl, D, _, rfl, SqL.of L12.d, fun p2 hp2 => ?_⟩
      have sp2 := (Same.refl H12).upd_new (o := .lst (cutV [V.ref t0, .ref t1, .ref t2, .ref t3] none (some ((n : Nat) : Int)))) hp2
      have Lp2 := L12.same sp2
      have A2 := Lp2.all.take n
      refine ⟨r, c, p2, rows, cl, _, _, rfl, Lp2.r, R, hc.same sp2, oc, (by rw [upd_same, ecut]), A2.ts, A2.ok, hn1, hn4, hC, fun H13 s13 => ?_⟩
      refine ⟨_, rfl, ifn (by decide) ?_⟩
      exact ⟨_, rfl, (((s11.trans sp).trans s12).trans sp2).trans s13⟩
    rintro σ H11 ⟨x, rfl, s11⟩
    have L11 := LM.same s11
    clear LM L0 sM eM hM
    -- shared
    refine ⟨_, rfl, _, rfl, _, rfl, D, _, _, _, rfl, rfl, SqL.of L11.d, atI_nat (j := 1) rfl, [.ref b, .ref t0], [.ref t1], rfl, rfl, le_line (show 1 ≤ 100000 by decide), com_go L11.b R L11.k0.z.q L11.k0.o (SkAt.cons L11.k1 .nil).ts (SkAt.cons L11.k1 .nil).ok (by simp) fun H12 sh cs s12 hsh hshz ocs hCs hlcs => ?_⟩
    have L12 := L11.same s12
    have Ks : Sk rows H12 sh cs := ⟨hshz (by simp), ocs⟩
    refine ⟨_, rfl, _, rfl, _, rfl, _, rfl, D, _, rfl, SqL.of L12.d, fun p hp => ?_⟩
    have sp := (Same.refl H12).upd_new (o := .lst (cutV [V.ref t0, .ref t1, .ref t2, .ref t3] none (some 2))) hp
    have Lp := L12.same sp
    have A1 := Lp.all.take 2
    refine ⟨r, sh, p, rows, cs, [t0, t1], [l0, l1], rfl, Lp.r, R, hsh.same sp, ocs, (by rw [upd_same]; rfl), A1.ts, A1.ok, (by simp), (by simp), hCs, fun H13 s13 => ?_⟩
    refine ⟨_, rfl, ifn (by decide) ?_⟩
    have L13 := Lp.same s13
    have Ks13 := (Ks.same sp).same s13
    -- joint
    refine ⟨_, rfl, _, rfl, _, rfl, D, _, _, _, rfl, rfl, SqL.of L13.d, atI_nat (j := 1) rfl, ?_⟩
    dsimp only [tNil]
    refine uni_go L13.b R L13.k0.z.q L13.k0.o L13.k1.z.q L13.k1.o (by omega) ?_
    intro H14 jv s14 hj
    have L14 := L13.same s14
    refine ⟨_, rfl, _, rfl, _, rfl, _, rfl, D, _, _, _, rfl, rfl, SqL.of L14.d, atI_nat (j := 1) rfl, r, t0, t1, jv, rows, l0, l1, rfl, L14.r, R, hj.t, L14.k0.z.q, L14.k0.o, L14.k1.z.q, L14.k1.o, fun H15 s15 => ?_⟩
    refine ⟨_, rfl, ifn (by decide) ?_⟩
    have L15 := L14.same s15
    refine ⟨_, rfl, _, rfl, _, rfl, r, b, t0, rows, l0, rfl, L15.r, L15.b, R, L15.k0.z.q, L15.k0.o, fun H16 s16 => ?_⟩
    refine ⟨_, rfl, ifn (by decide) ?_⟩
    have L16 := L15.same s16
    -- again
    refine ⟨_, rfl, _, rfl, D, _, _, _, rfl, rfl, SqL.of L16.d, atI_nat (j := 2) rfl, _, rfl, D, _, _, _, rfl, rfl, SqL.of L16.d, atI_nat (j := 3) rfl, ?_⟩
    dsimp only [tNil]
    refine uni_go L16.b R L16.k2.z.q L16.k2.o L16.k3.z.q L16.k3.o (by omega) ?_
    intro H17 av s17 ha
    have L17 := L16.same s17
    refine ⟨_, rfl, _, rfl, _, rfl, D, _, _, _, rfl, rfl, SqL.of L17.d, atI_nat (j := 2) rfl, _, rfl, D, _, _, _, rfl, rfl, SqL.of L17.d, atI_nat (j := 3) rfl, r, t2, t3, av, rows, l2, l3, rfl, L17.r, R, ha.t, L17.k2.z.q, L17.k2.o, L17.k3.z.q, L17.k3.o, fun H18 s18 => ?_⟩
    refine ⟨_, rfl, ifn (by decide) ?_⟩
    have L18 := L17.same s18
    refine ⟨_, rfl, _, rfl, _, rfl, _, rfl, a, r, b, t0, rows, l0, rfl, L18.g, nra, L18.r, L18.b, R, L18.k0.z, L18.k0.o, hl0, fun H19 k19 b19 => ?_⟩
    refine ⟨_, rfl, ifn (by decide) ?_⟩
    have L19 := L18.kp k19 b19 nra nDa
    have st := ((((s14.trans s15).trans s16).trans s17).trans s18)
    have Ks19 := (Ks13.same st).kp L18.g k19
    have hj19 := (hj.same (((s15.trans s16).trans s17).trans s18)).kp L18.g k19
    clear L11 L12 L13 L14 L15 L16 L17 L18 Lp A1 Ks Ks13 hj ha st hsh hshz
    -- asked
    refine ⟨_, rfl, _, rfl, D, _, _, _, rfl, rfl, SqL.of L19.d, atI_nat (j := 1) rfl, _, rfl, D, _, _, _, rfl, rfl, SqL.of L19.d, atI_nat (j := 2) rfl, _, rfl, le_line (show 4 ≤ 100000 by decide), fun G hG => ?_⟩
    have sG := (Same.refl H19).upd_new (o := .lst [.ref t0, .ref t1, .ref t2, .ref sh]) hG
    have LG := L19.same sG
    have KsG := Ks19.same sG
    have hjG := hj19.same sG
    have eG : (upd H19 G (.lst [.ref t0, .ref t1, .ref t2, .ref sh])) G = some (.lst [.ref t0, .ref t1, .ref t2, .ref sh]) := upd_same
    refine ⟨fun σ' H' => ∃ (us : List Addr) (ms : List (List Str)), σ' = [some (.ref a), some (.ref r), some (.ref b), some (.ref t0), some (.ref D), x, some (.ref sh), some jv, some av, some (.ref G), none, none, none] ∧ Same H19 H' ∧ H' G = some (.lst (us.map V.ref)) ∧ SkAt rows H' us ms, ?_, ?_⟩
    · have A4 : SkAt rows (upd H19 G (.lst [.ref t0, .ref t1, .ref t2, .ref sh])) [t0, t1, t2, sh] [l0, l1, l2, cs] := .cons LG.k0 (.cons LG.k1 (.cons LG.k2 (.cons KsG .nil)))
      refine ⟨_, rfl, rfl, _, rfl, ?_⟩
      obtain ⟨o, hU, ⟨_, rfl, _⟩ | ⟨q, u, _, rfl, Ku, _⟩⟩ := hjG
      · exact ifn (by simp) ⟨[t0, t1, t2, sh], [l0, l1, l2, cs], rfl, sG, eG, A4⟩
      · refine ifp (by simp) ?_
        refine ⟨_, rfl, .inl ⟨rfl, _, SqL.of eG⟩, _, rfl, G, _, _, rfl, rfl, eG, lt_line (show 4 ≤ 100000 by decide), ?_⟩
        have kz : ∀ {t : Addr} {m : List Str}, Sk rows (upd H19 G (.lst [.ref t0, .ref t1, .ref t2, .ref sh])) t m → Sk rows (upd (upd H19 G (.lst [.ref t0, .ref t1, .ref t2, .ref sh])) G (.lst ([.ref t0, .ref t1, .ref t2, .ref sh] ++ [.ref q]))) t m := fun {t m} y => ⟨by
          obtain ⟨o, z1, z2⟩ := y.z
          exact ⟨o, by rw [upd_ne (ne_of z1 eG (by intro e; cases e))]; exact z1, z2⟩, y.o⟩
        refine ⟨[t0, t1, t2, sh, q], [l0, l1, l2, cs, u], rfl, sG.upd_own hG, by rw [upd_same]; rfl, .cons (kz LG.k0) (.cons (kz LG.k1) (.cons (kz LG.k2) (.cons (kz KsG) (.cons (kz Ku) .nil))))⟩
    rintro _ H20 ⟨us, ms, rfl, s20, eG2, A5⟩
    have L20 := L19.same s20
    have Ks20 := Ks19.same s20
    have hj20 := hj19.same s20
    clear L19 LG Ks19 KsG hj19 hjG eG sG hG
    refine ⟨_, rfl, G, rfl, ⟨_, SqL.of eG2⟩, for_it (walk_list (xs := us.map V.ref)) (fun i σ H' => ∃ (y z : Option V), σ = [some (.ref a), some (.ref r), some (.ref b), some (.ref t0), some (.ref D), x, some (.ref sh), some jv, some av, some (.ref G), y, z, none] ∧ Same H20 H') ⟨none, none, rfl, Same.refl H20⟩ (fun i σ H' _ ⟨_, _, _, q⟩ => SqL.of (q _ _ eG2)) ?_ ?_⟩
    · rintro i v σ H' H21 hi ⟨y, z, rfl, s21⟩ ⟨rfl, hv⟩
      obtain ⟨t, e1, rfl⟩ := get_map hv
      have him : i < ms.length := by rw [← A5.n]; exact lt_of_get e1
      have Kt := (A5.s i t _ e1 (List.getElem?_eq_getElem him))
      refine ⟨_, rfl, G, rfl, ⟨_, SqL.of (s21 _ _ eG2)⟩, for_it (walk_list (xs := us.map V.ref)) (fun i2 σ H' => ∃ (z : Option V), σ = [some (.ref a), some (.ref r), some (.ref b), some (.ref t0), some (.ref D), x, some (.ref sh), some jv, some av, some (.ref G), some (.ref t), z, none] ∧ Same H20 H') ⟨z, rfl, s21⟩ (fun i σ H' _ ⟨_, _, q⟩ => SqL.of (q _ _ eG2)) ?_ ?_⟩
      · rintro i2 v σ H' H22 hi2 ⟨z, rfl, s22⟩ ⟨rfl, hv⟩
        obtain ⟨u, e2, rfl⟩ := get_map hv
        have him2 : i2 < ms.length := by rw [← A5.n]; exact lt_of_get e2
        have Ku := (A5.s i2 u _ e2 (List.getElem?_eq_getElem him2))
        have L22 := L20.same s22
        refine ⟨_, rfl, _, rfl, _, rfl, _, rfl, r, b, t, u, rows, _, _, rfl, L22.r, L22.b, R, (Kt.same s22).z, Kt.o, (Ku.same s22).z.q, Ku.o, fun H23 s23 => ?_⟩
        refine ⟨_, rfl, ifn (by decide) ?_⟩
        exact ⟨_, rfl, s22.trans s23⟩
      · rintro σ H22 ⟨z, rfl, s22⟩
        exact ⟨_, _, rfl, s22⟩
    rintro σ H21 ⟨y, z, rfl, s21⟩
    have L21 := L20.same s21
    have Ks21 := Ks20.same s21
    have hj21 := hj20.same s21
    have A6 : SkAt rows H21 [t2, t3, t0, t2, t1] [l2, l3, l0, l2, l1] := .cons L21.k2 (.cons L21.k3 (.cons L21.k0 (.cons L21.k2 (.cons L21.k1 .nil))))
    refine ⟨_, rfl, _, rfl, D, _, _, _, rfl, rfl, SqL.of L21.d, atI_nat (j := 1) rfl, _, rfl, D, _, _, _, rfl, rfl, SqL.of L21.d, atI_nat (j := 2) rfl, _, rfl, D, _, _, _, rfl, rfl, SqL.of L21.d, atI_nat (j := 3) rfl, _, rfl, _, rfl, D, _, _, _, rfl, rfl, SqL.of L21.d, atI_nat (j := 2) rfl, _, rfl, D, _, _, _, rfl, rfl, SqL.of L21.d, atI_nat (j := 1) rfl,
      [.ref b, .ref t1], [.ref t2, .ref t3, .ref t0, .ref t2, .ref t1], rfl, rfl, le_line (show 5 ≤ 100000 by decide), com_go L21.b R L21.k1.z.q L21.k1.o A6.ts A6.ok (by simp) fun H22 sx cx s22 hx _ ox hCx _ => ?_⟩
    have L22 := L21.same s22
    refine ⟨_, rfl, _, rfl, _, rfl, b, D, rows, [t0, t1, t2, t3], [l0, l1, l2, l3], rfl, L22.b, R, L22.d, L22.all.ts, L22.all.ok, (by simp), (by simp), fun H23 c4 x4 s23 h4 o4 hC4 => ?_⟩
    have ex : cx = x4 := Mth.Com.uniq w0 (fun l hl => by simp at hl ⊢; rcases hl with h | h | h | h <;> simp [h]) (fun l hl => by simp at hl ⊢; rcases hl with h | h | h | h | h | h <;> simp [h]) (fun l hl => (L22.all.ok l hl).f) (by simp) hCx hC4
    subst ex
    refine ⟨_, _, rfl, .inl ⟨(Eqs.strs (hx.same s23) h4 (by have := ox.sz; omega)).succ, fun H24 s24 => ?_⟩⟩
    refine ⟨_, rfl, ifn (by decide) ?_⟩
    have sa := (s22.trans s23).trans s24
    have L24 := L21.same sa
    have A1 : SkAt rows H24 [t0] [l0] := .cons L24.k0 .nil
    refine ⟨_, rfl, _, rfl, _, rfl, D, _, _, _, rfl, rfl, SqL.of L24.d, atI_nat (j := 1) rfl, _, rfl, [.ref b, .ref t1], [.ref t0], rfl, rfl, le_line (show 1 ≤ 100000 by decide), com_go L24.b R L24.k1.z.q L24.k1.o A1.ts A1.ok (by simp) fun H25 sy cy s25 hy _ oy hCy _ => ?_⟩
    have ey : cs = cy := Mth.Com.uniq w0 (fun l hl => by simp at hl ⊢; rcases hl with h | h <;> simp [h]) (fun l hl => by simp at hl ⊢; rcases hl with h | h <;> simp [h]) (fun l hl => by simp at hl; rcases hl with h | h; exact h ▸ L24.k1.o.f; exact h ▸ L24.k0.o.f) (by simp) hCs hCy
    subst ey
    refine ⟨_, _, rfl, .inl ⟨(Eqs.strs ((Ks21.same sa).same s25).z.q hy (by have := oy.sz; omega)).succ, fun H26 s26 => ?_⟩⟩
    refine ⟨_, rfl, ifp rfl ?_⟩
    have sb := (sa.trans s25).trans s26
    have L26 := L21.same sb
    refine ⟨_, rfl, _, rfl, _, rfl, D, _, _, _, rfl, rfl, SqL.of L26.d, atI_nat (j := 1) rfl, _, rfl, ?_⟩
    dsimp only [tNil]
    refine uni_go L26.b R L26.k1.z.q L26.k1.o L26.k0.z.q L26.k0.o (by omega) ?_
    intro H27 jw s27 hw
    exact ⟨_, _, rfl, .inl ⟨(UnZ.eqs R L26.k0.o L26.k1.o ((hj21.same sb).same s27) hw).succ, fun H28 s28 => k _⟩⟩
end
end Sh
end
section
set_option Elab.async false
set_option linter.all false
set_option maxRecDepth 100000
set_option maxHeartbeats 4000000
set_option autoImplicit false
namespace L2
open PySem PySem.Spec PyProof.Rows
section
variable {X : Cx}
/-- t * k, t not empty, k of either sign -/
def rRepZ (K : PySem.W.Frag) : R2 := fun x y H Q => ∃ l k xs, x = .ref l ∧ y = .int k ∧ SqT K H l xs ∧ xs ≠ [] ∧ -4000 ≤ k ∧ k ≤ 4000 ∧ xs.length ≤ 100 ∧ (k = 1 → Q (.ref l) H) ∧ (k ≠ 1 → ∀ p, H p = none → Q (.ref p) (upd H p (.tup (List.replicate k.toNat xs).flatten)))
theorem op_repZ : OpR X (binaryOp .Mult) (rRepZ X.K) := by
  intro pins s σ H x y v u Q I rx ry h
  obtain ⟨l, k, xs, rfl, rfl, hT, hne, h1, h2, hz, qs, qn⟩ := h
  by_cases e0 : k < 0
  · cases rx
    obtain ⟨t, rfl⟩ := ry
    obtain ⟨its, r, ⟨⟨cls, dd, data, sl⟩, ho, hc, n, hd⟩, hs⟩ := I.tuple hT
    simp only at hc hd
    subst hc hd
    have hle : its.length = xs.length := r.length.symm
    have hn : its ≠ [] := fun e => hne (by
      rw [e] at hle
      exact List.eq_nil_of_length_eq_zero hle.symm)
    have hi : its.toArray.isEmpty = false := by
      cases its with
      | nil => exact absurd rfl hn
      | cons a b => rfl
    have c0 : (decide (k < -(2 ^ 63)) || decide (k ≥ 2 ^ 63)) = false := by
      rw [decide_eq_false (by omega), decide_eq_false (by omega)] <;> rfl
    have c1 : (its.toArray.isEmpty || k == 1) = false := by
      rw [hi, Bool.false_or]
      exact beq_eq_false_iff_ne.mpr (by omega)
    have c2 : (decide (k ≤ 0) || its.toArray.isEmpty) = true := by
      rw [decide_eq_true (by omega)]
      rfl
    refine wpAny_binaryOp_repeat_ref (T := "tuple") (U := "int") (by decide) ⟨_, ho, rfl⟩ (fun s' => typeIs_int s' k t) noFill_tuple_mul F.fills_int_mul F.slot_int_rmul repeat_tuple F.slot_int_index.lookup
      (call_meets F.slot_int_rmul (typeIs_int s k t) F.entry_int_rmul (F.args_int_rmul_2 _ _) (int_rmul_tuple k t l its.toArray n dd sl)
        ⟨ho, rfl, ⟨_, ho, rfl⟩, call_meets F.slot_tuple_mul ⟨_, ho, rfl⟩ F.entry_tuple_mul (F.args_tuple_mul_2 _ _) (tuple_mul0 l its.toArray n dd sl k t c0 c1 c2) ⟨ho, ?_⟩⟩)
    have ek : (List.replicate k.toNat xs).flatten = [] := by
      rw [show k.toNat = 0 by omega]
      rfl
    refine ⟨.ref s.heap.objs.size, _, I.laid (t' := s.toks) (o := .tup (List.replicate k.toNat xs).flatten) (fun b ob q => Heap.get?_push_of_some _ q) (Nat.le_refl _) ?_, rfl, qn (by omega) _ (I.hok.fresh (Nat.le_refl _))⟩
    rw [ek]
    exact ⟨by rw [sizeLine_eq]; exact Nat.zero_le _, [], .nil, IsTup.new _ _⟩
  · exact op_repG pins s σ H _ _ v u Q I rx ry ⟨l, k, xs, rfl, rfl, hT, hne, by omega, h2, hz, qs, qn⟩
end
end L2
namespace Mth
open Sh (Un)
variable {w : S → Nat}
theorem un_uniq (w0 : w "*" = 0) {l m : List S} {o o' : Option (List S)} (hL : forest w l 1 = true) (hM : forest w m 1 = true) (h : Un w l m o) (h' : Un w l m o') : o = o' := by
  cases o with
  | none =>
    cases o' with
    | none => rfl
    | some u' => exact absurd (un_none w0 hL hM h) (Uni.noclash (un_some w0 hL hM h'))
  | some u =>
    cases o' with
    | none => exact absurd (un_none w0 hL hM h') (Uni.noclash (un_some w0 hL hM h))
    | some u' =>
      have a := un_some w0 hL hM h
      have b := un_some w0 hL hM h'
      rw [Beg.eq w0 a.f b.f (Uni.le a b) (Uni.le b a)]
theorem uni_of (w0 : w "*" = 0) {l m u : List S} {o : Option (List S)} (hL : forest w l 1 = true) (hM : forest w m 1 = true) (h : Un w l m o) (hu : Uni w l m u) : o = some u := by
  cases o with
  | none => exact absurd (un_none w0 hL hM h) (Uni.noclash hu)
  | some u' =>
    have a := un_some w0 hL hM h
    rw [Beg.eq w0 a.f hu.f (Uni.le a hu) (Uni.le hu a)]
/-- a chain of k knots a that x ends -/
def chn (a : S) (k : Nat) (x : S) : List S := List.replicate k a ++ [x]
theorem chn_len (a : S) (k : Nat) (x : S) : (chn a k x).length = k + 1 := by simp [chn]
theorem chn_forest {a x : S} (ha : w a = 1) (hx : w x = 0) : ∀ k, forest w (chn a k x) 1 = true
  | 0 => by
    show forest w [x] 1 = true
    unfold forest
    rw [hx]
    rfl
  | k + 1 => by
    show forest w (List.replicate (k + 1) a ++ [x]) 1 = true
    rw [List.replicate_succ]
    show forest w (a :: (List.replicate k a ++ [x])) 1 = true
    unfold forest
    rw [ha]
    exact chn_forest ha hx k
theorem chn_get {a x : S} {k i : Nat} : (chn a k x)[i]? = if i < k then some a else if i = k then some x else none := by
  unfold chn
  by_cases h : i < k
  · rw [if_pos h, List.getElem?_append_left (by rw [List.length_replicate]; exact h), List.getElem?_replicate, if_pos h]
  · rw [if_neg h, List.getElem?_append_right (by rw [List.length_replicate]; omega), List.length_replicate]
    by_cases h2 : i = k
    · rw [if_pos h2, h2, Nat.sub_self]
      rfl
    · rw [if_neg h2]
      exact List.getElem?_eq_none (by rw [List.length_singleton]; omega)
theorem chn_stk {a x : S} (ha : w a = 1) (hx : w x = 0) (k : Nat) : ∀ i, i ≤ k → stk w (chn a k x) i = [List.replicate i 0]
  | 0, _ => rfl
  | i + 1, hi => by
    have ih := chn_stk ha hx k i (by omega)
    obtain ⟨st, e1, e2⟩ := stk_step w (chn_forest ha hx k) (i := i) (by rw [chn_len]; omega)
    rw [ih] at e1
    injection e1 with e3 e4
    have g : (chn a k x)[i]'(by rw [chn_len]; omega) = a := by
      have := chn_get (a := a) (x := x) (k := k) (i := i)
      rw [if_pos (by omega), List.getElem?_eq_getElem (by rw [chn_len]; omega)] at this
      exact Option.some.inj this
    rw [e2, ← e3, ← e4, g, ha, List.append_nil]
    show [List.replicate i 0 ++ [0]] = _
    rw [List.replicate_succ']
theorem chn_pth {a x : S} (ha : w a = 1) (hx : w x = 0) {k i : Nat} (hi : i ≤ k) : pth w (chn a k x) i = List.replicate i 0 := by
  unfold pth
  rw [chn_stk ha hx k i hi]
  rfl
theorem chn_in {a x : S} (ha : w a = 1) (hx : w x = 0) {k : Nat} {p : List Nat} {z : S} : InE w (chn a k x) p z ↔ (∃ i, i < k ∧ p = List.replicate i 0 ∧ z = a) ∨ (p = List.replicate k 0 ∧ z = x) := by
  constructor
  · rintro ⟨i, hi, rfl⟩
    have hl := (List.getElem?_eq_some_iff.mp hi).1
    rw [chn_len] at hl
    rw [chn_pth ha hx (by omega)]
    rw [chn_get] at hi
    by_cases h : i < k
    · rw [if_pos h] at hi
      exact .inl ⟨i, h, rfl, (Option.some.inj hi).symm⟩
    · have e : i = k := by omega
      rw [if_neg h, if_pos e] at hi
      exact .inr ⟨by rw [e], (Option.some.inj hi).symm⟩
  · rintro (⟨i, hi, rfl, rfl⟩ | ⟨rfl, rfl⟩)
    · exact ⟨i, by rw [chn_get, if_pos hi], chn_pth ha hx (by omega)⟩
    · exact ⟨k, by rw [chn_get, if_neg (Nat.lt_irrefl k), if_pos rfl], chn_pth ha hx (Nat.le_refl k)⟩
theorem rep_inj {i j : Nat} (h : List.replicate i 0 = List.replicate j 0) : i = j := by
  have := congrArg List.length h
  rw [List.length_replicate, List.length_replicate] at this
  exact this
/-- which chains begin which -/
theorem chn_beg {a x y : S} (w0 : w "*" = 0) (ha : w a = 1) (hx : w x = 0) (hy : w y = 0) {k n : Nat} : Beg w (chn a k x) (chn a n y) ↔ (x = "*" ∧ k ≤ n) ∨ (x = y ∧ k = n) := by
  have nax : a ≠ x := fun e => by rw [e, hx] at ha; cases ha
  have nay : a ≠ y := fun e => by rw [e, hy] at ha; cases ha
  have na : a ≠ "*" := fun e => by rw [e, w0] at ha; cases ha
  constructor
  · intro b
    have le : k ≤ n := by
      refine Nat.le_of_not_lt fun h => ?_
      have := b (List.replicate n 0) a na ((chn_in ha hx).mpr (.inl ⟨n, h, rfl, rfl⟩))
      rcases (chn_in ha hy).mp this with ⟨i, hi, e, _⟩ | ⟨_, e⟩
      · have := rep_inj e
        omega
      · exact nay e
    by_cases ex : x = "*"
    · exact .inl ⟨ex, le⟩
    · have := b (List.replicate k 0) x ex ((chn_in ha hx).mpr (.inr ⟨rfl, rfl⟩))
      rcases (chn_in ha hy).mp this with ⟨i, hi, e, e2⟩ | ⟨e, e2⟩
      · exact absurd e2.symm nax
      · exact .inr ⟨e2, rep_inj e⟩
  · rintro (⟨rfl, h⟩ | ⟨rfl, rfl⟩)
    · intro p z hz hi
      rcases (chn_in ha hx).mp hi with ⟨i, hi, e, e2⟩ | ⟨_, e2⟩
      · exact (chn_in ha hy).mpr (.inl ⟨i, by omega, e, e2⟩)
      · exact absurd e2 hz
    · exact Beg.refl _
theorem chn_count {a : S} (na : a ≠ "*") (k : Nat) : (chn a k "*").count ("*" : S) = 1 := by
  unfold chn
  rw [List.count_append, List.count_replicate, if_neg (fun e => na (beq_iff_eq.mp e))]
  rfl
theorem flr_rep {a : S} (na : a ≠ "*") (r : List S) (ls : List (List S)) : ∀ k, flr (List.replicate k a ++ r) ls = List.replicate k a ++ flr r ls
  | 0 => rfl
  | k + 1 => by
    rw [List.replicate_succ, List.cons_append, flr_cons, if_neg na, flr_rep na r ls k]
    rfl
/-- the part of a chain that stands at a lesser chain's hole -/
theorem chn_parts {a y : S} (w0 : w "*" = 0) (ha : w a = 1) (hy : w y = 0) {k n : Nat} (h : k ≤ n) : prt w ("*" : S) (chn a n y) (chn a k "*") 0 [] = some [chn a (n - k) y] := by
  have na : a ≠ "*" := fun e => by rw [e, w0] at ha; cases ha
  obtain ⟨qs, q1, q2, q3, q4⟩ := prt_some w0 (chn_forest ha w0 k) (chn_forest ha hy n) ((chn_beg w0 ha w0 hy).mpr (.inl ⟨rfl, h⟩))
  have hl := prt_len w ("*" : S) q1
  rw [chn_count na] at hl
  rw [q1]
  generalize qs.map (cut w (chn a n y)) = ls at hl q4
  match ls, hl with
  | [t], _ =>
    unfold chn at q4
    rw [flr_rep na] at q4
    have e : flr [("*" : S)] [t] = t := by
      rw [flr_cons, if_pos rfl]
      show t ++ [] = t
      rw [List.append_nil]
    rw [e] at q4
    have e2 : List.replicate n a ++ [y] = List.replicate k a ++ chn a (n - k) y := by
      unfold chn
      rw [← List.append_assoc, List.replicate_append_replicate, show k + (n - k) = n by omega]
    rw [e2] at q4
    rw [List.append_cancel_left q4]
theorem chn_com {a y : S} (w0 : w "*" = 0) (ha : w a = 1) (hy : w y = 0) {k n : Nat} : Com w [chn a k "*", chn a n y] (chn a (min k n) "*") := by
  have na : a ≠ "*" := fun e => by rw [e, w0] at ha; cases ha
  have nay : a ≠ y := fun e => by rw [e, hy] at ha; cases ha
  refine ⟨chn_forest ha w0 _, fun l hl => ?_, fun p hp ⟨z, hz, hz2⟩ => ?_⟩
  · rcases List.mem_cons.mp hl with e | e
    · rw [e]; exact (chn_beg w0 ha w0 w0).mpr (.inl ⟨rfl, Nat.min_le_left _ _⟩)
    · rw [List.mem_singleton.mp e]; exact (chn_beg w0 ha w0 hy).mpr (.inl ⟨rfl, Nat.min_le_right _ _⟩)
  · rcases (chn_in ha w0).mp hp with ⟨i, _, _, e⟩ | ⟨e, _⟩
    · exact na e.symm
    · subst e
      have h1 := (chn_in ha w0).mp (hz2 _ List.mem_cons_self)
      have h2 := (chn_in ha hy).mp (hz2 _ (List.mem_cons_of_mem _ List.mem_cons_self))
      rcases h1 with ⟨i, hi, e, e2⟩ | ⟨_, e2⟩
      · have := rep_inj e
        rcases h2 with ⟨j, hj, f, f2⟩ | ⟨f, f2⟩
        · have := rep_inj f
          omega
        · exact nay (e2.symm.trans f2)
      · exact hz e2
theorem chn_hps {a : S} (na : a ≠ "*") (k : Nat) : hps ("*" : S) (chn a k "*") = [k] := by
  unfold hps
  rw [chn_len, List.range_succ, List.filter_append]
  have e1 : (List.range k).filter (fun i => decide ((chn a k "*")[i]? = some ("*" : S))) = [] := by
    rw [List.filter_eq_nil_iff]
    intro i hi
    have hik := List.mem_range.mp hi
    rw [chn_get, if_pos hik]
    simp [na]
  rw [e1, List.nil_append, List.filter_cons, if_pos (by rw [chn_get, if_neg (Nat.lt_irrefl k), if_pos rfl]; rfl)]
  rfl
/-- the union under a fork -/
theorem fork_un {f a y : S} (w0 : w "*" = 0) (ha : w a = 1) (hy : w y = 0) (k n : Nat) : Un w (f :: (chn a (k + 1) "*" ++ [("*" : S)])) (f :: ("*" :: chn a (n + 1) y)) (some (f :: (chn a (k + 1) "*" ++ chn a (n + 1) y))) := by
  have na : a ≠ "*" := fun e => by rw [e, w0] at ha; cases ha
  have hd : ∀ (j : Nat) (z : S), (chn a (j + 1) z).head? ≠ some ("*" : S) := fun j z e => na (Option.some.inj e)
  have u2 : Un w [("*" : S)] (chn a (n + 1) y ++ []) (some (chn a (n + 1) y ++ [])) := Un.left (chn a (n + 1) y) [] [] (some []) (chn_forest ha hy _) (hd _ _) (Un.nil [])
  rw [List.append_nil] at u2
  have u1 := Un.right (w := w) (chn a (k + 1) "*") [("*" : S)] _ _ (chn_forest ha w0 (k + 1)) (hd _ _) u2
  exact Un.same f _ _ _ u1
end Mth
namespace Sh
open PySem PySem.Spec PyProof.Rows L2
open C8 (pss_cut tCut)
open Evl (ixN_nat)
theorem tm_what : tmF.lookup ("what" : Str) = some (.str "knots") := by decide +kernel
theorem tm_limit : tmF.lookup ("limit" : Str) = some (.int 2000) := by decide +kernel
/-- what was told of a row, or that it is too long -/
def MetV (H : Hp) (v : V) (res : List Str) : Prop := ∃ p, v = .ref p ∧ ((2000 < res.length ∧ Tq H p [.str "many", .str "knots", .int 2000]) ∨ (res.length ≤ 2000 ∧ ∃ q, Tq H p [.str "told", .ref q] ∧ Tq H q (sV res)))
def spLMet (C : Addr) : Sp := fun vs H Q _ => ∃ (b s t be : Addr) (way : Int) (rows : List Row) (l m res : List Str), vs = [.ref b, .ref s, .ref t, .int way, .ref be] ∧ BedAt C H b rows ∧ ROk 8 rows ∧ Tq H s (l.map V.str) ∧ StumpOk rows l ∧ Tq H t (m.map V.str) ∧ StumpOk rows m ∧
  ((way = 0 ∧ Tz H s (l.map V.str) ∧ ∃ (c0 c1 : Addr) (x0 x1 : List Str), H be = some (.lst [.ref c0, .ref c1]) ∧ Tq H c0 (sV x0) ∧ Tq H c1 (sV x1) ∧ StumpOk rows x0 ∧ StumpOk rows x1 ∧ l.count ("*" : Str) = 2 ∧ res = fill [x0, x1] l) ∨ (way = 1 ∧ Un (wR rows) l m (some res))) ∧
  ∀ H' v, Same H H' → MetV H' v res → Q v H'
abbrev s_law_long_met : Stmt := top 73
abbrev N_law_long_met : List Str := ["bed", "one", "two", "way", "chains", "e"]
theorem sc_law_long_met : FnScope N_law_long_met ["bed", "one", "two", "way", "chains"] (defScope s_law_long_met) := ⟨rfl, rfl, rfl, by decide +kernel, rfl, by decide +kernel, by decide +kernel⟩
section
variable {P : Program} {w : World} {K : PySem.W.Frag} {mg : Str → Option Value} {base : Heap} {C CT : Addr} {A : XA}
theorem ok_law_long_met (T : Bk mg) (x : XS P w K mg A) (X_TooMany : XOk K A.T ["what", "limit"]) (c_filled : DefOk P w K mg base (L2.CX P w) 5 "filled" (spStar 2 (spFilled C A))) (c_united : DefOk P w K mg base (L2.CX P w) 5 "united" (spUnited C A)) (D : Def0 K mg "_law_long_met" s_law_long_met) : DefOk P w K mg base CX0 7 "_law_long_met" (spLMet C) := by
  refine D.ok sc_law_long_met (fun vs H Q E h => ?_) (fun _ _ _ _ _ _ us hl => match us, hl with | [_, _, _, _, _], _ => rfl) (fun f cdv A' outer s H vs Q E hr h => ?_)
  · obtain ⟨b, s, t, be, way, rows, l, m, res, rfl, _⟩ := h
    rfl
  · obtain ⟨b, s, t, be, way, rows, l, m, res, rfl, hB, R, hs, O, ht, O2, hw, k⟩ := h
    have n_TooMany : ∀ {X : Cx}, X.mg = mg → Gl X "TooMany" → Names X "TooMany" (.ref A.T) := fun e g => ⟨g, by decide, .inl (by rw [e]; exact x.xT.gC)⟩
    refine ⟨_, (pss_one (ps_try_first (i := 5) rfl rfl sc_law_long_met.nd rfl rfl (n_TooMany rfl rfl) (fun W pn xe tk po => (pss_cons (ps_if (pt_cmpR op_eq (pv 3) pe_int (nomark _))
          (pss_one (ps_ret (pe_tup (pa_cons pe_str (pa_cons (pe_dS c_filled (hr.mono (by decide)) (fun _ => passAt tk _) (pa_cons (pv 0) (pa_cons (pv 1) (pa_cons (pe_ix (show IxR _ (rIxL K) from ix_list) (pv 4) pe_int (fun _ _ => rfl)) (pa_cons (pe_ix (show IxR _ (rIxL K) from ix_list) (pv 4) pe_int (fun _ _ => rfl)) pa_nil))))) pa_nil)))))
          pss_nil)
        (pss_one (ps_ret (pe_tup (pa_cons pe_str (pa_cons (pe_dS c_united (hr.mono (by decide)) (fun _ => passAt tk _) (pa_cons (pv 0) (pa_cons (pv 1) (pa_cons (pv 2) pa_nil)))) pa_nil))))))) (fun a oe cls d pn hz hf => (pss_one (ps_ret (pe_tup (pa_cons pe_str (pa_cons (pe_xf X_TooMany.xf (X_TooMany.no "what" (by decide +kernel)) hz hf (pv 5)) (pa_cons (pe_xf X_TooMany.xf (X_TooMany.no "limit" (by decide +kernel)) hz hf (pv 5)) pa_nil))))))))), ?_⟩
    have hsz := O.sz
    have hsz2 := O2.sz
    refine ⟨_, rfl, rfl, _, rfl, ?_⟩
    rcases hw with ⟨rfl, hsz0, c0, c1, x0, x1, hbe, h0, h1, o0, o1, hc, rfl⟩ | ⟨rfl, hU⟩
    · refine ifp rfl ?_
      have fd : fdue rows l [x0, x1] = if 2000 < (fill [x0, x1] l).length then some Ex.many else none := by
        unfold fdue
        rw [okdue R O]
        dsimp only
        rw [if_neg (fun e => e hc), fbad_ok R (ls := [x0, x1]) fun y hy => by
          rcases List.mem_cons.mp hy with e | e
          · rw [e]; exact o0
          · rw [List.mem_singleton.mp e]; exact o1]
      have hT : TsAt sV H [c0, c1] [x0, x1] := two_at h0 h1
      refine ⟨_, rfl, _, rfl, _, rfl, be, _, _, _, rfl, rfl, SqL.of hbe, atI_nat (j := 0) rfl, _, rfl, be, _, _, _, rfl, rfl, SqL.of hbe, atI_nat (j := 1) rfl, [.ref b, .ref s], [.ref c0, .ref c1], rfl, rfl, le_line (show 2 ≤ 100000 by decide), fun p hp => ?_⟩
      have s1 := (Same.refl H).upd_new (o := .tup [.ref c0, .ref c1]) hp
      refine ⟨b, s, p, rows, l, [c0, c1], [x0, x1], rfl, hB.same s1, R, hsz0.same s1, by omega, .of upd_same, hT.keep (TQ.new hp), fun y hy => ?_, (show 2 ≤ 20 by decide), ?_⟩
      · rcases List.mem_cons.mp hy with e | e
        · rw [e]; have := o0.sz; omega
        · rw [List.mem_singleton.mp e]; have := o1.sz; omega
      rw [fd]
      by_cases hgt : 2000 < (fill [x0, x1] l).length
      · rw [if_pos hgt]
        intro H1 d s2 hd
        refine ⟨X_TooMany.me, fun e he => ?_⟩
        have s3 := (s1.trans s2).upd_new (o := .xd tmF) hd
        refine ⟨_, rfl, rfl, rfl, d, tmF, _, rfl, upd_same, tm_what, _, rfl, rfl, rfl, d, tmF, _, rfl, upd_same, tm_limit, ?_⟩
        exact ⟨le_line (show 3 ≤ 100000 by decide), fun q hq => k _ _ (s3.upd_new hq) ⟨q, rfl, .inl ⟨hgt, .of upd_same⟩⟩⟩
      · rw [if_neg hgt]
        intro H1 r s2 hr1
        exact ⟨le_line (show 2 ≤ 100000 by decide), fun q hq => k _ _ ((s1.trans s2).upd_new hq) ⟨q, rfl, .inr ⟨by omega, r, .of upd_same, TQ.new hq _ _ hr1⟩⟩⟩
    · refine ifn (by decide) ?_
      refine ⟨_, rfl, _, rfl, _, rfl, b, s, t, rows, l, m, rfl, hB, R, hs, by omega, ht, by omega, ?_⟩
      rw [fbad2ok R O O2]
      intro o hU2
      have eo := Mth.un_uniq (w_star R) O.f O2.f hU2 hU
      subst eo
      refine ⟨fun e => (nomatch e), fun u e => ?_⟩
      cases e
      refine ⟨fun hgt H1 d s2 hd => ⟨X_TooMany.me, fun e he => ?_⟩, fun hle H1 r s2 hr1 => ?_⟩
      · have s3 := s2.upd_new (o := .xd tmF) hd
        refine ⟨_, rfl, rfl, rfl, d, tmF, _, rfl, upd_same, tm_what, _, rfl, rfl, rfl, d, tmF, _, rfl, upd_same, tm_limit, ?_⟩
        exact ⟨le_line (show 3 ≤ 100000 by decide), fun q hq => k _ _ (s3.upd_new hq) ⟨q, rfl, .inl ⟨hgt, .of upd_same⟩⟩⟩
      · exact ⟨le_line (show 2 ≤ 100000 by decide), fun q hq => k _ _ (s2.upd_new hq) ⟨q, rfl, .inr ⟨hle, r, .of upd_same, TQ.new hq _ _ hr1.q⟩⟩⟩
end
end Sh
end
section
set_option Elab.async false
set_option linter.all false
set_option maxRecDepth 100000
set_option maxHeartbeats 4000000
set_option autoImplicit false
namespace Sh
open PySem PySem.Spec PyProof.Rows L2
open C8 (pss_cut tCut)
open Evl (ixN_nat)
theorem repG_of {K : PySem.W.Frag} {H : Hp} {a : Addr} {v : V} {k : Int} {Q : VK} (ha : Tq H a [v]) (h0 : 0 ≤ k) (h1 : k ≤ 4000) (c : ∀ r H', Same H H' → Tq H' r (List.replicate k.toNat v) → Q (.ref r) H') : rRepG K (.ref a) (.int k) H Q := by
  refine ⟨a, k, [v], rfl, rfl, ha.sq, by simp, h0, h1, (show 1 ≤ 100 by decide), fun e => c a H (Same.refl H) (by rw [e]; exact ha), fun _ p hp => c p _ ((Same.refl H).upd_new hp) (.of ?_)⟩
  rw [upd_same, List.flatten_replicate_singleton]
theorem repZ_of {K : PySem.W.Frag} {H : Hp} {a : Addr} {v : V} {k : Int} {Q : VK} (ha : Tq H a [v]) (h0 : -4000 ≤ k) (h1 : k ≤ 4000) (c : ∀ r H', Same H H' → Tq H' r (List.replicate k.toNat v) → Q (.ref r) H') : rRepZ K (.ref a) (.int k) H Q := by
  refine ⟨a, k, [v], rfl, rfl, ha.sq, by simp, h0, h1, (show 1 ≤ 100 by decide), fun e => c a H (Same.refl H) (by rw [e]; exact ha), fun _ p hp => c p _ ((Same.refl H).upd_new hp) (.of ?_)⟩
  rw [upd_same, List.flatten_replicate_singleton]
def rows3 (n0 n1 n2 : Str) : List Row := [(n0, 1), (n1, 0), (n2, 2)]
theorem rows3_ok {n0 n1 n2 : Str} (nd : [n0, n1, n2].Nodup) (nm : ∀ n ∈ [n0, n1, n2], IsNm n) : ROk 8 (rows3 n0 n1 n2) := by
  refine ⟨(show 1 ≤ 3 by decide), (show (3 : Int) ≤ 8 by decide), nd, fun q hq => ?_, fun q hq => ?_, ⟨(n1, 0), by simp [rows3], rfl⟩⟩
  · exact nm q.1 (by
      rcases List.mem_cons.mp hq with e | hq
      · rw [e]; simp
      · rcases List.mem_cons.mp hq with e | hq
        · rw [e]; simp
        · rw [List.mem_singleton.mp hq]; simp)
  · rcases List.mem_cons.mp hq with e | hq
    · rw [e]; exact (show (0 : Int) ≤ 1 ∧ (1 : Int) ≤ 3 by decide)
    · rcases List.mem_cons.mp hq with e | hq
      · rw [e]; exact (show (0 : Int) ≤ 0 ∧ (0 : Int) ≤ 3 by decide)
      · rw [List.mem_singleton.mp hq]; exact (show (0 : Int) ≤ 2 ∧ (2 : Int) ≤ 3 by decide)
theorem w3_0 {n0 n1 n2 : Str} : wR (rows3 n0 n1 n2) n0 = 1 := by simp [wR, rows3, List.find?]
theorem w3_1 {n0 n1 n2 : Str} (h : n0 ≠ n1) : wR (rows3 n0 n1 n2) n1 = 0 := by simp [wR, rows3, List.find?, h]
theorem w3_2 {n0 n1 n2 : Str} (h : n0 ≠ n2) (h2 : n1 ≠ n2) : wR (rows3 n0 n1 n2) n2 = 2 := by simp [wR, rows3, List.find?, h, h2]
/-- what stands while the law goes on -/
structure LG (C b D : Addr) (rows : List Row) (n0 n1 n2 : Str) (s t : Addr) (l m : List Str) (H : Hp) : Prop where
  b : BedAt C H b rows
  d : H D = some (.lst ([n0, n1, n2].map V.str))
  s : Tq H s (sV l)
  t : Tq H t (sV m)
theorem LG.same {C b D : Addr} {rows : List Row} {n0 n1 n2 : Str} {s t : Addr} {l m : List Str} {H H' : Hp} (x : LG C b D rows n0 n1 n2 s t l m H) (q : Same H H') : LG C b D rows n0 n1 n2 s t l m H' := ⟨x.b.same q, q _ _ x.d, x.s.same q, x.t.same q⟩
theorem sV_chn (a : Str) (k : Nat) (x : Str) : List.replicate k (V.str a) ++ [V.str x] = sV (Mth.chn a k x) := by
  unfold sV Mth.chn
  rw [List.map_append, List.map_replicate]
  rfl
theorem at3 {n0 n1 n2 : Str} : atI ([n0, n1, n2].map V.str) 0 = some (.str n0) ∧ atI ([n0, n1, n2].map V.str) 1 = some (.str n1) ∧ atI ([n0, n1, n2].map V.str) 2 = some (.str n2) := ⟨atI_nat (j := 0) rfl, atI_nat (j := 1) rfl, atI_nat (j := 2) rfl⟩
theorem uni_go2 {C : Addr} {A : XA} {H : Hp} {Q : VK} {b s t : Addr} {rows : List Row} {l m : List Str} (hB : BedAt C H b rows) (R : ROk 8 rows) (hs : Tq H s (l.map V.str)) (Ol : StumpOk rows l) (ht : Tq H t (m.map V.str)) (Om : StumpOk rows m) (hlm : ∀ u, Un (wR rows) l m (some u) → u.length ≤ 2000)
    (k : ∀ H' v, Same H H' → UnZ H' rows l m v → Q v H') : spUnited C A [.ref b, .ref s, .ref t] H Q E0 := by
  have hsz := Ol.sz
  have hsz2 := Om.sz
  refine ⟨b, s, t, rows, l, m, rfl, hB, R, hs, by omega, ht, by omega, ?_⟩
  rw [fbad2ok R Ol Om]
  intro o hU
  refine ⟨fun e H' s' => ?_, fun u e => ?_⟩
  · subst e
    exact k H' _ s' ⟨none, hU, .inl ⟨rfl, rfl, Mth.un_none (w_star R) Ol.f Om.f hU⟩⟩
  · subst e
    have hle := hlm u hU
    refine ⟨fun hgt => absurd hgt (by omega), fun _ H' q s' hq => k H' _ s' ⟨_, hU, .inr ⟨q, u, rfl, rfl, ⟨hq, ⟨Mth.un_forest (w_star R) hU u 1 rfl Ol.f Om.f, fun z hz => ?_, by omega⟩⟩, Mth.un_some (w_star R) Ol.f Om.f hU⟩⟩⟩
    rcases Mth.un_mem (w_star R) hU u rfl z hz with x | x
    · exact Ol.k z x
    · exact Om.k z x
/-- the union of a chain with a hole and another chain -/
def dres (a : Str) (k n : Nat) (x : Str) : Option (List Str) := if k ≤ n then some (Mth.chn a n x) else if x = "*" then some (Mth.chn a k "*") else none
theorem dres_len {a x : Str} {k n : Nat} {u : List Str} (h : dres a k n x = some u) (h1 : (Mth.chn a k "*").length ≤ 2000) (h2 : (Mth.chn a n x).length ≤ 2000) : u.length ≤ 2000 := by
  unfold dres at h
  split at h
  · rw [← Option.some.inj h]; exact h2
  · split at h
    · rw [← Option.some.inj h]; exact h1
    · cases h
theorem dres_of {w : Str → Nat} {a x : Str} (w0 : w "*" = 0) (ha : w a = 1) (hx : w x = 0) (na : a ≠ "*") {k n : Nat} {o : Option (List Str)} (h : Un w (Mth.chn a k "*") (Mth.chn a n x) o) : o = dres a k n x := by
  have f1 := Mth.chn_forest ha w0 k
  have f2 := Mth.chn_forest ha hx n
  unfold dres
  by_cases c : k ≤ n
  · rw [if_pos c]
    exact Mth.uni_of w0 f1 f2 h ⟨f2, (Mth.chn_beg w0 ha w0 hx).mpr (.inl ⟨rfl, c⟩), Mth.Beg.refl _, fun _ _ q => .inr q⟩
  · rw [if_neg c]
    by_cases d : x = "*"
    · rw [if_pos d]
      subst d
      exact Mth.uni_of w0 f1 f2 h ⟨f1, Mth.Beg.refl _, (Mth.chn_beg w0 ha w0 w0).mpr (.inl ⟨rfl, by omega⟩), fun _ _ q => .inl q⟩
    · rw [if_neg d]
      cases o with
      | none => rfl
      | some u =>
        refine absurd ?_ (Mth.Uni.noclash (Mth.un_some w0 f1 f2 h))
        refine ⟨List.replicate n 0, a, x, (show a ≠ x from fun e => by rw [e, hx] at ha; cases ha), na, d, (Mth.chn_in ha w0).mpr (.inl ⟨n, by omega, rfl, rfl⟩), (Mth.chn_in ha hx).mpr (.inr ⟨rfl, rfl⟩)⟩
theorem MetV.eqs {H : Hp} {v : V} {res : List Str} {dw wh : Addr} (h : MetV H v res) (hw : Tq H wh (sV res)) (hl : res.length ≤ 100000) (hd : (2000 < res.length ∧ Tq H dw [.str "many", .str "knots", .int 2000]) ∨ (res.length ≤ 2000 ∧ Tq H dw [.str "told", .ref wh])) : Eqs 3 H v (.ref dw) := by
  obtain ⟨p, rfl, ⟨h1, h2⟩ | ⟨h1, q, h2, h3⟩⟩ := h
  · rcases hd with ⟨_, h4⟩ | ⟨h4, _⟩
    · refine .tup h2 h4 rfl (show 3 ≤ 100000 by decide) fun i x y p q => ?_
      match i, p, q with
      | 0, p, q => cases p; cases q; exact .str _
      | 1, p, q => cases p; cases q; exact .str _
      | 2, p, q => cases p; cases q; exact .int _
      | i + 3, p, _ => simp at p
    · omega
  · rcases hd with ⟨h4, _⟩ | ⟨_, h4⟩
    · omega
    · exact Eqs.pair h2 h4 (.strs h3 hw hl)
abbrev s_law_long_right : Stmt := top 74
abbrev N_law_long_right : List Str := ["bag", "names", "k", "rows", "bed", "many", "more", "last", "one", "two", "begun", "piece", "due", "shared", "whole", "fork"]
theorem sc_law_long_right : FnScope N_law_long_right ["bag"] (defScope s_law_long_right) := ⟨rfl, rfl, rfl, by decide +kernel, rfl, by decide +kernel, by decide +kernel⟩
section
variable {P : Program} {w : World} {K : PySem.W.Frag} {mg : Str → Option Value} {base : Heap} {C CT : Addr} {A : XA}
theorem ok_law_long_right (T : Bk mg) (c_law_name : DefOk P w K mg base CX0 3 "_law_name" (spName K)) (c_Bed : BedOk P w K mg base C 5) (c_law_draw : DefOk P w K mg base CX0 1 "_law_draw" spDraw) (c_begins : DefOk P w K mg base (L2.CX P w) 6 "begins" (spSt2 C A fBegins)) (c_parts : DefOk P w K mg base (L2.CX P w) 5 "parts" (spSt2 C A fParts)) (c_united : DefOk P w K mg base (L2.CX P w) 5 "united" (spUnited C A)) (c_common : DefOk P w K mg base (L2.CX P w) 5 "common" (spStar 2 (spCommon C A))) (c_holes : DefOk P w K mg base (L2.CX P w) 4 "holes" (spStR C A HolesAt)) (c_law_long_met : DefOk P w K mg base CX0 7 "_law_long_met" (spLMet C)) (c_law_same : DefOk P w K mg base CX0 3 "_law_same" (spSame 3)) (D : Def0 K mg "_law_long_right" s_law_long_right) : DefOk P w K mg base CX0 8 "_law_long_right" spBagT := by
  refine D.ok sc_law_long_right (fun vs H Q E h => ?_) (fun _ _ _ _ _ _ us hl => match us, hl with | [_], _ => rfl) (fun f cdv A' outer s H vs Q E hr h => ?_)
  · obtain ⟨a, rfl, _⟩ := h
    rfl
  · obtain ⟨a, rfl, bA, k⟩ := h
    refine ⟨_, (pss_cons (ps_set (i := 1) sc_law_long_right.nd rfl (Or.inl rfl) (pe_lst pa_nil))
      (pss_cons (ps_for PassesOwn.never rfl (pi_range1 (by rfl) T.b_range (pa_cons pe_int pa_nil)) (pg_name (i := 2) sc_law_long_right.nd rfl (Or.inl rfl))
        (pss_one (ps_expr (pe_bm PySem.F.plainAttrs_list PySem.F.slot_list_append PySem.F.type_list_append mt_append (pv 1) (pa_cons (pe_d c_law_name (hr.mono (by decide)) pass0 (pa_cons (pv 0) (pa_cons (pv 1) pa_nil))) pa_nil)))))
      (pss_cons (ps_set (i := 3) sc_law_long_right.nd rfl (Or.inl rfl) (pe_lst (pa_cons (pe_tup (pa_cons (pe_ix ix_list (pv 1) pe_int (fun _ _ => rfl)) (pa_cons pe_int pa_nil))) (pa_cons (pe_tup (pa_cons (pe_ix ix_list (pv 1) pe_int (fun _ _ => rfl)) (pa_cons pe_int pa_nil))) (pa_cons (pe_tup (pa_cons (pe_ix ix_list (pv 1) pe_int (fun _ _ => rfl)) (pa_cons pe_int pa_nil))) pa_nil)))))
      (pss_cons (ps_set (i := 4) sc_law_long_right.nd rfl (Or.inl rfl) (pe_bed c_Bed (hr.mono (by decide)) (pa_cons (pe_ix ix_list (pv 3) pe_int (fun _ _ => rfl)) (pa_cons (pe_ix ix_list (pv 3) pe_int (fun _ _ => rfl)) (pa_cons (pe_ix ix_list (pv 3) pe_int (fun _ _ => rfl)) pa_nil)))))
      (pss_cons (ps_set (i := 5) sc_law_long_right.nd rfl (Or.inl rfl) (pe_op op_add pe_int (pe_d c_law_draw (hr.mono (by decide)) pass0 (pa_cons (pv 0) (pa_cons pe_int pa_nil)))))
      (pss_cons (ps_set (i := 6) sc_law_long_right.nd rfl (Or.inl rfl) (pe_ix ix_list (pe_lst (pa_cons (pe_op op_add pe_int (pe_d c_law_draw (hr.mono (by decide)) pass0 (pa_cons (pv 0) (pa_cons pe_int pa_nil)))) (pa_cons (pe_op op_add pe_int (pe_d c_law_draw (hr.mono (by decide)) pass0 (pa_cons (pv 0) (pa_cons pe_int pa_nil)))) (pa_cons (pe_op op_sub pe_int (pv 5)) (pa_cons (pe_op op_sub pe_int (pv 5)) pa_nil))))) (pe_d c_law_draw (hr.mono (by decide)) pass0 (pa_cons (pv 0) (pa_cons pe_int pa_nil))) (fun _ _ => rfl)))
      (pss_cons (ps_set (i := 7) sc_law_long_right.nd rfl (Or.inl rfl) (pe_ix ix_list (pe_lst (pa_cons (pe_ix ix_list (pv 1) pe_int (fun _ _ => rfl)) (pa_cons pe_str pa_nil))) (pe_d c_law_draw (hr.mono (by decide)) pass0 (pa_cons (pv 0) (pa_cons pe_int pa_nil))) (fun _ _ => rfl)))
      (pss_cons (ps_set (i := 8) sc_law_long_right.nd rfl (Or.inl rfl) (pe_op op_catA (pe_op op_repG (pe_tup (pa_cons (pe_ix ix_list (pv 1) pe_int (fun _ _ => rfl)) pa_nil)) (pv 5)) (pe_tup (pa_cons pe_str pa_nil))))
      (pss_cons (ps_set (i := 9) sc_law_long_right.nd rfl (Or.inl rfl) (pe_op op_catA (pe_op op_repG (pe_tup (pa_cons (pe_ix ix_list (pv 1) pe_int (fun _ _ => rfl)) pa_nil)) (pv 6)) (pe_tup (pa_cons (pv 7) pa_nil))))
      (pss_cons (ps_set (i := 10) sc_law_long_right.nd rfl (Or.inl rfl) (pe_cmpR op_le (pv 5) (pv 6) (nomark _)))
      (pss_cons (ps_set (i := 11) sc_law_long_right.nd rfl (Or.inl rfl) (pe_tup (pa_cons (pe_op op_catA (pe_op op_repZ (pe_tup (pa_cons (pe_ix ix_list (pv 1) pe_int (fun _ _ => rfl)) pa_nil)) (pe_op op_sub (pv 6) (pv 5))) (pe_tup (pa_cons (pv 7) pa_nil))) pa_nil)))
      (pss_cons (ps_if (PW.pt (pw_or (pt_not (pt_val (pe_d c_law_same (hr.mono (by decide)) pass0 (pa_cons (pe_d c_begins (hr.mono (by decide)) passL (pa_cons (pv 4) (pa_cons (pv 8) (pa_cons (pv 9) pa_nil)))) (pa_cons (pv 10) pa_nil))))) (pw_or1 (pt_not (pt_val (pe_d c_law_same (hr.mono (by decide)) pass0 (pa_cons (pe_d c_begins (hr.mono (by decide)) passL (pa_cons (pv 4) (pa_cons (pv 9) (pa_cons (pv 8) pa_nil)))) (pa_cons (pe_and (pe_cmpR op_eq (pv 7) pe_str (nomark _)) (pe_one (pe_cmpR op_le (pv 6) (pv 5) (nomark _)))) pa_nil))))))))
        (pss_one (ps_ret pe_bl))
        pss_nil)
      (pss_cons (ps_if (pt_not (pt_val (pe_d c_law_same (hr.mono (by decide)) pass0 (pa_cons (pe_d c_parts (hr.mono (by decide)) passL (pa_cons (pv 4) (pa_cons (pv 8) (pa_cons (pv 9) pa_nil)))) (pa_cons (pe_ifExp (pt_val (pv 10)) (pv 11) pe_non) pa_nil)))))
        (pss_one (ps_ret pe_bl))
        pss_nil)
      (pss_cons (ps_set (i := 12) sc_law_long_right.nd rfl (Or.inl rfl) (pe_ifExp (pt_val (pv 10)) (pv 9) pe_non))
      (pss_cut (ps_if (PW.pt (pw_and (pt_cmpR op_eq (pv 7) pe_str (nomark _)) (pw_and1 (pt_not (pt_val (pv 10))))))
        (pss_one (ps_set (i := 12) sc_law_long_right.nd rfl (Or.inl rfl) (pv 8)))
        pss_nil)
      (pss_cons (ps_if (pt_not (pt_val (pe_d c_law_same (hr.mono (by decide)) pass0 (pa_cons (pe_d c_united (hr.mono (by decide)) passL (pa_cons (pv 4) (pa_cons (pv 8) (pa_cons (pv 9) pa_nil)))) (pa_cons (pv 12) pa_nil)))))
        (pss_one (ps_ret pe_bl))
        pss_nil)
      (pss_cons (ps_set (i := 13) sc_law_long_right.nd rfl (Or.inl rfl) (pe_d c_common (hr.mono (by decide)) passL (pa_cons (pv 4) (pa_cons (pv 8) (pa_cons (pv 9) pa_nil)))))
      (pss_cons (ps_if (pt_not (pt_val (pe_d c_law_same (hr.mono (by decide)) pass0 (pa_cons (pv 13) (pa_cons (pe_op op_catA (pe_op op_repG (pe_tup (pa_cons (pe_ix ix_list (pv 1) pe_int (fun _ _ => rfl)) pa_nil)) (pe_ix ix_list (pe_lst (pa_cons (pv 5) (pa_cons (pv 6) pa_nil))) (pe_callTy call_int1 (by rfl) T.b_int (by decide +kernel) (pa_cons (pe_cmpR op_lt (pv 6) (pv 5) (nomark _)) pa_nil)) (fun _ _ => rfl))) (pe_tup (pa_cons pe_str pa_nil))) pa_nil)))))
        (pss_one (ps_ret pe_bl))
        pss_nil)
      (pss_cons (ps_if (pt_not (pt_val (pe_d c_law_same (hr.mono (by decide)) pass0 (pa_cons (pe_d c_holes (hr.mono (by decide)) passL (pa_cons (pv 4) (pa_cons (pv 8) pa_nil))) (pa_cons (pe_tup (pa_cons (pe_op op_repG (pe_tup (pa_cons pe_int pa_nil)) (pv 5)) pa_nil)) pa_nil)))))
        (pss_one (ps_ret pe_bl))
        pss_nil)
      (pss_cons (ps_set (i := 14) sc_law_long_right.nd rfl (Or.inl rfl) (pe_op op_catA (pe_op op_catA (pe_tup (pa_cons (pe_ix ix_list (pv 1) pe_int (fun _ _ => rfl)) pa_nil)) (pv 8)) (pv 9)))
      (pss_cons (ps_set (i := 12) sc_law_long_right.nd rfl (Or.inl rfl) (pe_tup (pa_cons pe_str (pa_cons (pv 14) pa_nil))))
      (pss_cut (ps_if (pt_cmpR op_gt (pe_callB call_len_seq (by rfl) T.b_len boot_len (pa_cons (pv 14) pa_nil)) pe_int (nomark _))
        (pss_one (ps_set (i := 12) sc_law_long_right.nd rfl (Or.inl rfl) (pe_tup (pa_cons pe_str (pa_cons pe_str (pa_cons pe_int pa_nil))))))
        pss_nil)
      (pss_cons (ps_set (i := 15) sc_law_long_right.nd rfl (Or.inl rfl) (pe_tupF (pa_cons (pe_ix ix_list (pv 1) pe_int (fun _ _ => rfl)) (pa_cons pe_str (pa_cons pe_str pa_nil)))))
      (pss_cons (ps_if (pt_not (pt_val (pe_d c_law_same (hr.mono (by decide)) pass0 (pa_cons (pe_d c_law_long_met (hr.mono (by decide)) pass0 (pa_cons (pv 4) (pa_cons (pv 15) (pa_cons (pv 15) (pa_cons pe_int (pa_cons (pe_lst (pa_cons (pv 8) (pa_cons (pv 9) pa_nil))) pa_nil)))))) (pa_cons (pv 12) pa_nil)))))
        (pss_one (ps_ret pe_bl))
        pss_nil)
      (pss_cons (ps_if (pt_not (pt_val (pe_d c_law_same (hr.mono (by decide)) pass0 (pa_cons (pe_d c_law_long_met (hr.mono (by decide)) pass0 (pa_cons (pv 4) (pa_cons (pe_op op_catA (pe_op op_catA (pe_tup (pa_cons (pe_ix ix_list (pv 1) pe_int (fun _ _ => rfl)) pa_nil)) (pv 8)) (pe_tup (pa_cons pe_str pa_nil))) (pa_cons (pe_op op_catA (pe_tup (pa_cons (pe_ix ix_list (pv 1) pe_int (fun _ _ => rfl)) (pa_cons pe_str pa_nil))) (pv 9)) (pa_cons pe_int (pa_cons (pe_lst pa_nil) pa_nil)))))) (pa_cons (pv 12) pa_nil)))))
        (pss_one (ps_ret pe_bl))
        pss_nil)
      (pss_one (ps_ret (pe_or (pe_cmpR op_gt (pe_callB call_len_seq (by rfl) T.b_len boot_len (pa_cons (pv 14) pa_nil)) pe_int (nomark _)) (pe_one (pe_d c_law_same (hr.mono (by decide)) pass0 (pa_cons (pe_d c_parts (hr.mono (by decide)) passL (pa_cons (pv 4) (pa_cons (pv 15) (pa_cons (pv 14) pa_nil)))) (pa_cons (pe_tup (pa_cons (pv 8) (pa_cons (pv 9) pa_nil))) pa_nil)))))))))))))))))))))))))))))))), ?_⟩
    refine ⟨le_line (show 0 ≤ 100000 by decide), fun D hD => ?_⟩
    have nDa : D ≠ a := Kp.bag_ne bA hD
    refine ⟨_, rfl, by decide, by decide, ?_⟩
    refine for_range (fun i σ H' => ∃ (x : Option V) (ns : List Str), σ = [some (.ref a), some (.ref D), x, none, none, none, none, none, none, none, none, none, none, none, none, none] ∧ BagAt H' a ∧ H' D = some (.lst (ns.map V.str)) ∧ ns.length = i ∧ ns.Nodup ∧ (∀ n ∈ ns, IsNm n)) ?_ ?_ ?_
    · exact ⟨none, [], rfl, bA.upd_ne nDa, upd_same, rfl, List.nodup_nil, fun n h => nomatch h⟩
    · rintro i σ H1 hi ⟨x, ns, rfl, b1, d1, e1, nd, nm⟩
      have hi3 : i < 3 := by simpa using hi
      refine ⟨_, rfl, .inl ⟨rfl, _, SqL.of d1⟩, _, rfl, _, rfl, a, D, ns, rfl, b1, nDa, d1, nm, by omega, fun H2 z k2 b2 hz hzn => ?_⟩
      have d2 := k2 _ _ d1 nDa
      refine ⟨D, _, _, rfl, rfl, d2, lt_line (by rw [List.length_map]; omega), _, ns ++ [z], rfl, b2.upd_ne nDa, by rw [upd_same, List.map_append]; rfl, by rw [List.length_append, e1]; rfl, ?_, fun n hn => ?_⟩
      · rw [List.nodup_append]
        refine ⟨nd, by simp, fun u hu v hv e => ?_⟩
        rw [List.mem_singleton.mp hv] at e
        exact hzn (e ▸ hu)
      · rcases List.mem_append.mp hn with q | q
        · exact nm n q
        · rw [List.mem_singleton.mp q]; exact hz
    rintro σ H1 ⟨x, ns, rfl, b1, d1, e1, nd, nm⟩
    have e1 : ns.length = 3 := e1
    match ns, e1 with
    | [n0, n1, n2], _ =>
    have R := rows3_ok nd nm
    have h01 : n0 ≠ n1 := fun e => by subst e; simp at nd
    have h02 : n0 ≠ n2 := fun e => by subst e; simp at nd
    have h12 : n1 ≠ n2 := fun e => by subst e; simp at nd
    have w0 := w_star R
    have wa : wR (rows3 n0 n1 n2) n0 = 1 := w3_0
    have wb : wR (rows3 n0 n1 n2) n1 = 0 := w3_1 h01
    have wc : wR (rows3 n0 n1 n2) n2 = 2 := w3_2 h02 h12
    have na : n0 ≠ "*" := fun e => star_notin R (by rw [← e]; simp [rows3])
    have nb : n1 ≠ "*" := fun e => star_notin R (by rw [← e]; simp [rows3])
    generalize hrw : rows3 n0 n1 n2 = rows at R w0 wa wb wc
    have kin : ∀ z : Str, z = n0 ∨ z = n1 ∨ z = n2 → z = "*" ∨ ∃ q ∈ rows, q.1 = z := fun z hz => by
      rw [← hrw]
      rcases hz with rfl | rfl | rfl
      · exact .inr ⟨(z, 1), by simp [rows3], rfl⟩
      · exact .inr ⟨(z, 0), by simp [rows3], rfl⟩
      · exact .inr ⟨(z, 2), by simp [rows3], rfl⟩
    refine ⟨_, rfl, D, _, _, _, rfl, rfl, SqL.of d1, at3.1, le_line (show 2 ≤ 100000 by decide), fun r0 hr0 => ?_⟩
    have sr0 := (Same.refl H1).upd_new (o := .tup [.str n0, .int 1]) hr0
    have q0 : (upd H1 r0 (.tup [.str n0, .int 1])) r0 = some (.tup [.str n0, .int 1]) := upd_same
    generalize upd H1 r0 (.tup [.str n0, .int 1]) = H2 at sr0 q0
    refine ⟨_, rfl, D, _, _, _, rfl, rfl, SqL.of (sr0 _ _ d1), at3.2.1, le_line (show 2 ≤ 100000 by decide), fun r1 hr1 => ?_⟩
    have sr1 := (Same.refl H2).upd_new (o := .tup [.str n1, .int 0]) hr1
    have q1 : (upd H2 r1 (.tup [.str n1, .int 0])) r1 = some (.tup [.str n1, .int 0]) := upd_same
    generalize upd H2 r1 (.tup [.str n1, .int 0]) = H3 at sr1 q1
    refine ⟨_, rfl, D, _, _, _, rfl, rfl, SqL.of (sr1 _ _ (sr0 _ _ d1)), at3.2.2, le_line (show 2 ≤ 100000 by decide), fun r2 hr2 => ?_⟩
    have sr2 := (Same.refl H3).upd_new (o := .tup [.str n2, .int 2]) hr2
    have q2 : (upd H3 r2 (.tup [.str n2, .int 2])) r2 = some (.tup [.str n2, .int 2]) := upd_same
    generalize upd H3 r2 (.tup [.str n2, .int 2]) = H4 at sr2 q2
    refine ⟨le_line (show 3 ≤ 100000 by decide), fun L hL => ?_⟩
    have sL := (Same.refl H4).upd_new (o := .lst [.ref r0, .ref r1, .ref r2]) hL
    have qL : (upd H4 L (.lst [.ref r0, .ref r1, .ref r2])) L = some (.lst [.ref r0, .ref r1, .ref r2]) := upd_same
    generalize upd H4 L (.lst [.ref r0, .ref r1, .ref r2]) = H5 at sL qL
    have s5 := ((sr0.trans sr1).trans sr2).trans sL
    have hT : TupsAt H5 [r0, r1, r2] rows := by
      rw [← hrw]
      refine ⟨rfl, fun i t q a b => ?_⟩
      match i, a, b with
      | 0, a, b => cases a; cases b; exact sL _ _ (sr2 _ _ (sr1 _ _ q0))
      | 1, a, b => cases a; cases b; exact sL _ _ (sr2 _ _ q1)
      | 2, a, b => cases a; cases b; exact sL _ _ q2
      | i + 3, a, _ => simp at a
    refine ⟨_, rfl, L, _, _, _, rfl, rfl, SqL.of qL, atI_nat (j := 0) rfl, _, rfl, L, _, _, _, rfl, rfl, SqL.of qL, atI_nat (j := 1) rfl, _, rfl, L, _, _, _, rfl, rfl, SqL.of qL, atI_nat (j := 2) rfl, [r0, r1, r2], rows, rfl, hT, R, fun H6 b s6 hb hB => ?_⟩
    have st6 := s5.trans s6
    have b6 := bag_same b1 st6
    have d6 := st6 _ _ d1
    clear hT qL sL q0 q1 q2 sr0 sr1 sr2
    refine ⟨_, rfl, a, 1990, rfl, b6, by decide, by decide, fun H7 e k7 b7 e0 e9 => ?_⟩
    obtain ⟨M, rfl⟩ : ∃ M : Nat, e = (M : Int) := ⟨e.toNat, by omega⟩
    refine ⟨_, _, rfl, rfl, ?_⟩
    -- more
    refine ⟨_, rfl, a, 1990, rfl, b7, by decide, by decide, fun H8 f1 k8 b8 f0 f9 => ?_⟩
    refine ⟨_, _, rfl, rfl, _, rfl, a, 1990, rfl, b8, by decide, by decide, fun H9 g1 k9 b9 g0 g9 => ?_⟩
    refine ⟨_, _, rfl, rfl, _, rfl, _, _, rfl, rfl, _, rfl, _, _, rfl, rfl, le_line (show 4 ≤ 100000 by decide), fun L2 hL2 => ?_⟩
    have nL2 : L2 ≠ a := Kp.bag_ne b9 hL2
    refine ⟨_, rfl, a, 4, rfl, b9.upd_ne nL2, by decide, by decide, fun H10 h1 k10 b10 h0 h4 => ?_⟩
    have kt : Kp a H6 H10 := ((k7.trans k8).trans k9).trans (((Kp.refl a H9).upd_new hL2).trans k10)
    have qL2 := k10 _ _ (show upd H9 L2 _ L2 = _ from upd_same) nL2
    have hB10 := hB.kp b6 kt
    have d10 := kt _ _ d6 nDa
    obtain ⟨N, hN1, hN2, hNv⟩ : ∃ N : Nat, 1 ≤ N ∧ N ≤ 1997 ∧ atI [V.int (1 + f1), .int (1 + g1), .int (1997 - (1 + (M : Int))), .int (1998 - (1 + (M : Int)))] h1 = some (.int (N : Int)) := by
      rcases (show h1 = 0 ∨ h1 = 1 ∨ h1 = 2 ∨ h1 = 3 by omega) with rfl | rfl | rfl | rfl
      · exact ⟨(1 + f1).toNat, by omega, by omega, by rw [show (((1 + f1).toNat : Nat) : Int) = 1 + f1 by omega]; rfl⟩
      · exact ⟨(1 + g1).toNat, by omega, by omega, by rw [show (((1 + g1).toNat : Nat) : Int) = 1 + g1 by omega]; rfl⟩
      · exact ⟨(1997 - (1 + (M : Int))).toNat, by omega, by omega, by rw [show (((1997 - (1 + (M : Int))).toNat : Nat) : Int) = 1997 - (1 + (M : Int)) by omega]; rfl⟩
      · exact ⟨(1998 - (1 + (M : Int))).toNat, by omega, by omega, by rw [show (((1998 - (1 + (M : Int))).toNat : Nat) : Int) = 1998 - (1 + (M : Int)) by omega]; rfl⟩
    refine ⟨L2, _, _, _, rfl, rfl, SqL.of qL2, hNv, ?_⟩
    -- last
    refine ⟨_, rfl, D, _, _, _, rfl, rfl, SqL.of d10, at3.2.1, le_line (show 2 ≤ 100000 by decide), fun L3 hL3 => ?_⟩
    have nL3 : L3 ≠ a := Kp.bag_ne b10 hL3
    refine ⟨_, rfl, a, 2, rfl, b10.upd_ne nL3, by decide, by decide, fun H11 i1 k11 b11 i0 i2 => ?_⟩
    have kt11 : Kp a H10 H11 := ((Kp.refl a H10).upd_new hL3).trans k11
    have qL3 := k11 _ _ (show upd H10 L3 _ L3 = _ from upd_same) nL3
    have hB11 := hB10.kp b10 kt11
    have d11 := kt11 _ _ d10 nDa
    obtain ⟨z, hz, hzv⟩ : ∃ z : Str, (z = n1 ∨ z = "*") ∧ atI [V.str n1, .str "*"] i1 = some (.str z) := by
      rcases (show i1 = 0 ∨ i1 = 1 by omega) with rfl | rfl
      · exact ⟨n1, .inl rfl, rfl⟩
      · exact ⟨"*", .inr rfl, rfl⟩
    refine ⟨L3, _, _, _, rfl, rfl, SqL.of qL3, hzv, ?_⟩
    have wz : wR rows z = 0 := by rcases hz with e | e <;> rw [e] <;> assumption
    have kz : z = "*" ∨ ∃ q ∈ rows, q.1 = z := by
      rcases hz with e | e
      · exact kin z (.inr (.inl e))
      · exact .inl e
    clear kt kt11 k7 k8 k9 k10 k11 b7 b8 b9 qL2 qL3 hNv hzv hB hB10 d1 d6 d10 st6 s5 b6 b10
    -- the chains
    refine ⟨_, rfl, D, _, _, _, rfl, rfl, SqL.of d11, at3.1, le_line (show 1 ≤ 100000 by decide), fun u1 hu1 => ?_⟩
    refine ⟨_, rfl, repG_of (.of upd_same) (by show (0 : Int) ≤ 1 + (M : Int); omega) (by show (1 : Int) + (M : Int) ≤ 4000; omega) fun v1 H12 s12 hv1 => ?_⟩
    have em : ((1 : Int) + (M : Int)).toNat = M + 1 := by omega
    rw [em] at hv1
    have sa := ((Same.refl H11).upd_new (o := .tup [.str n0]) hu1).trans s12
    clear s12 hu1
    refine ⟨le_line (show 1 ≤ 100000 by decide), fun u2 hu2 => ?_⟩
    have sb := (Same.refl H12).upd_new (o := .tup [.str "*"]) hu2
    refine catA_of (hv1.same sb) (.of upd_same) (by rw [List.length_replicate]; show M + 1 + 1 ≤ 100000; omega) fun t1 H13 s13 ht1 => ?_
    rw [sV_chn] at ht1
    have s1' := (sa.trans sb).trans s13
    have d13 := s1' _ _ d11
    clear sa sb s13 hu2 hv1
    refine ⟨_, rfl, D, _, _, _, rfl, rfl, SqL.of d13, at3.1, le_line (show 1 ≤ 100000 by decide), fun u3 hu3 => ?_⟩
    refine ⟨_, rfl, repG_of (.of upd_same) (by omega) (by omega) fun v2 H14 s14 hv2 => ?_⟩
    rw [Int.toNat_natCast] at hv2
    have sa := ((Same.refl H13).upd_new (o := .tup [.str n0]) hu3).trans s14
    clear s14 hu3
    refine ⟨_, rfl, le_line (show 1 ≤ 100000 by decide), fun u4 hu4 => ?_⟩
    have sb := (Same.refl H14).upd_new (o := .tup [.str z]) hu4
    refine catA_of (hv2.same sb) (.of upd_same) (by rw [List.length_replicate]; show N + 1 ≤ 100000; omega) fun t2 H15 s15 ht2 => ?_
    rw [sV_chn] at ht2
    have s2' := (sa.trans sb).trans s15
    have LA : LG C b D rows n0 n1 n2 t1 t2 (Mth.chn n0 (M + 1) "*") (Mth.chn n0 N z) H15 := ⟨hB11.same (s1'.trans s2'), s2' _ _ d13, ht1.same s2', ht2⟩
    have b15 := bag_same b11 (s1'.trans s2')
    clear sa sb s15 hu4 hv2 ht1 ht2 d11 d13 hB11 s1' s2' b11
    have O1 : StumpOk rows (Mth.chn n0 (M + 1) "*") := ⟨Mth.chn_forest wa w0 _, fun y hy => by
      unfold Mth.chn at hy
      rcases List.mem_append.mp hy with q | q
      · exact kin y (.inl (List.eq_of_mem_replicate q))
      · exact .inl (List.mem_singleton.mp q), by rw [Mth.chn_len]; omega⟩
    have O2 : StumpOk rows (Mth.chn n0 N z) := ⟨Mth.chn_forest wa wz _, fun y hy => by
      unfold Mth.chn at hy
      rcases List.mem_append.mp hy with q | q
      · exact kin y (.inl (List.eq_of_mem_replicate q))
      · rw [List.mem_singleton.mp q]; exact kz, by rw [Mth.chn_len]; omega⟩
    have l1 : (Mth.chn n0 (M + 1) "*").length = M + 2 := Mth.chn_len _ _ _
    have l2 : (Mth.chn n0 N z).length = N + 1 := Mth.chn_len _ _ _
    -- begun, piece
    refine ⟨_, rfl, _, rfl, _, _, rfl, rfl, ?_⟩
    have eb : decide ((1 : Int) + (M : Int) ≤ (N : Int)) = decide (M + 1 ≤ N) := by
      rw [Bool.eq_iff_iff, decide_eq_true_iff, decide_eq_true_iff]
      omega
    dsimp only
    rw [eb]
    refine ⟨_, rfl, D, _, _, _, rfl, rfl, SqL.of LA.d, at3.1, le_line (show 1 ≤ 100000 by decide), fun u5 hu5 => ?_⟩
    refine ⟨_, rfl, _, rfl, _, _, rfl, rfl, repZ_of (.of upd_same) (by show (-4000 : Int) ≤ (N : Int) - (1 + (M : Int)); omega) (by show (N : Int) - (1 + (M : Int)) ≤ 4000; omega) fun v3 H16 s16 hv3 => ?_⟩
    have ek : ((N : Int) - (1 + (M : Int))).toNat = N - (M + 1) := by omega
    rw [ek] at hv3
    have sa := ((Same.refl H15).upd_new (o := .tup [.str n0]) hu5).trans s16
    refine ⟨_, rfl, le_line (show 1 ≤ 100000 by decide), fun u6 hu6 => ?_⟩
    have sb := (Same.refl H16).upd_new (o := .tup [.str z]) hu6
    refine catA_of (hv3.same sb) (.of upd_same) (by rw [List.length_replicate]; show N - (M + 1) + 1 ≤ 100000; omega) fun v4 H17 s17 hv4 => ?_
    rw [sV_chn] at hv4
    refine ⟨le_line (show 1 ≤ 100000 by decide), fun pc hpc => ?_⟩
    have sc := (Same.refl H17).upd_new (o := .tup [.ref v4]) hpc
    have LB := LA.same (((sa.trans sb).trans s17).trans sc)
    have hpc1 : Tq (upd H17 pc (.tup [.ref v4])) pc [.ref v4] := .of upd_same
    have hv41 := hv4.same sc
    generalize upd H17 pc (.tup [.ref v4]) = H18 at LB hpc1 hv41
    clear sa sb sc s17 s16 hu5 hu6 hpc hv3 hv4 LA
    have w1 := wa
    have beg12 : (parts rows (Mth.chn n0 (M + 1) "*") (Mth.chn n0 N z)).isSome = decide (M + 1 ≤ N) := by
      by_cases c : M + 1 ≤ N
      · have e : parts rows (Mth.chn n0 (M + 1) "*") (Mth.chn n0 N z) = some [Mth.chn n0 (N - (M + 1)) z] := Mth.chn_parts w0 wa wz c
        rw [e, decide_eq_true c]
        rfl
      · have e : parts rows (Mth.chn n0 (M + 1) "*") (Mth.chn n0 N z) = none := Mth.prt_none w0 O1.f O2.f fun q => by
          rcases (Mth.chn_beg w0 wa w0 wz).mp q with y | y <;> omega
        rw [e, decide_eq_false c]
        rfl
    have beg21 : (parts rows (Mth.chn n0 N z) (Mth.chn n0 (M + 1) "*")).isSome = decide (z = "*" ∧ N ≤ M + 1) := by
      by_cases c : z = "*" ∧ N ≤ M + 1
      · obtain ⟨qs, q1, _⟩ := Mth.prt_some w0 O2.f O1.f ((Mth.chn_beg w0 wa wz w0).mpr (.inl c))
        have e : parts rows (Mth.chn n0 N z) (Mth.chn n0 (M + 1) "*") = _ := q1
        rw [e, decide_eq_true c]
        rfl
      · have e : parts rows (Mth.chn n0 N z) (Mth.chn n0 (M + 1) "*") = none := Mth.prt_none w0 O2.f O1.f fun q => by
          rcases (Mth.chn_beg w0 wa wz w0).mp q with y | y
          · exact c y
          · exact c ⟨y.1, by omega⟩
        rw [e, decide_eq_false c]
        rfl
    obtain ⟨dv, hdv⟩ : ∃ dv : V, dv = if M + 1 ≤ N then .ref t2 else if z = "*" then .ref t1 else .non := ⟨_, rfl⟩
    -- begins
    refine ⟨_, rfl, _, rfl, _, rfl, b, t1, t2, rows, _, _, rfl, LB.b, R, LB.s, by omega, LB.t, by omega, ?_⟩
    rw [fbad2ok R O1 O2]
    intro H19 s19
    rw [beg12]
    refine ⟨_, rfl, _, _, rfl, .inl ⟨Eqs.bl _, fun H20 s20 => ?_⟩⟩
    refine ⟨_, rfl, ifn (by decide) ?_⟩
    have LC := LB.same (s19.trans s20)
    refine ⟨_, rfl, _, rfl, _, rfl, b, t2, t1, rows, _, _, rfl, LC.b, R, LC.t, by omega, LC.s, by omega, ?_⟩
    rw [fbad2ok R O2 O1]
    intro H21 s21
    rw [beg21]
    have p21 := (hpc1.same (s19.trans s20)).same s21
    have v21 := (hv41.same (s19.trans s20)).same s21
    have LD := LC.same s21
    clear LB LC hpc1 hv41 s19 s20 s21
    refine ⟨_, rfl, rfl, _, rfl, ?_⟩
    by_cases hM : M + 1 ≤ N <;> by_cases hZ : z = "*"
    all_goals
      first
        | (refine ifp (decide_eq_true (congrArg V.str hZ)) ⟨_, rfl, _, rfl, _, _, rfl, rfl, ?_⟩
           have e2 : decide (z = "*" ∧ N ≤ M + 1) = decide ((N : Int) ≤ 1 + (M : Int)) := by
             rw [Bool.eq_iff_iff, decide_eq_true_iff, decide_eq_true_iff]
             exact ⟨fun q => by have := q.2; omega, fun q => ⟨hZ, by omega⟩⟩
           rw [e2])
        | (refine ifn (fun q => hZ (V.str.inj (of_decide_eq_true q))) ?_
           have e2 : decide (z = "*" ∧ N ≤ M + 1) = false := decide_eq_false fun q => hZ q.1
           rw [e2])
      refine ⟨_, _, rfl, .inl ⟨Eqs.bl _, fun H22 s22 => ?_⟩⟩
      refine ⟨_, rfl, ifn (by decide) ?_⟩
      have LE := LD.same s22
      -- parts
      refine ⟨_, rfl, _, rfl, _, rfl, b, t1, t2, rows, _, _, rfl, LE.b, R, LE.s, by omega, LE.t, by omega, ?_⟩
      rw [fbad2ok R O1 O2]
      intro H23 v23 s23 hv23
      have LF := LE.same s23
      have p23 := (p21.same s22).same s23
      have v23' := (v21.same s22).same s23
      have pq1 : M + 1 ≤ N → Eqs 3 H23 v23 (.ref pc) := fun c => by
        have e : parts rows (Mth.chn n0 (M + 1) "*") (Mth.chn n0 N z) = some [Mth.chn n0 (N - (M + 1)) z] := Mth.chn_parts w0 wa wz c
        rw [e] at hv23
        obtain ⟨p, ts, rfl, h1, h2⟩ := hv23
        refine Eqs.rows (us := [v4]) (.of h1) p23 h2 ⟨rfl, fun i t y a b => ?_⟩ (show 1 ≤ 100000 by decide) (fun y hy => by rw [List.mem_singleton.mp hy, Mth.chn_len]; omega)
        match i, a, b with
        | 0, a, b => cases a; cases b; exact v23'
        | i + 1, a, _ => simp at a
      have pq2 : ¬ M + 1 ≤ N → Eqs 3 H23 v23 .non := fun c => by
        have e := beg12
        rw [decide_eq_false c] at e
        cases hp : parts rows (Mth.chn n0 (M + 1) "*") (Mth.chn n0 N z) with
        | some q => rw [hp] at e; cases e
        | none =>
          rw [hp] at hv23
          have hv23 : v23 = .non := hv23
          rw [hv23]
          exact .non
      refine ⟨_, rfl, _, rfl, ?_⟩
      first
        | (refine ifp (decide_eq_true hM) ⟨_, rfl, ?_⟩
           refine ⟨_, _, rfl, .inl ⟨pq1 hM, fun H24 s24 => ?_⟩⟩)
        | (refine ifn (fun q => hM (of_decide_eq_true q)) ?_
           refine ⟨_, _, rfl, .inl ⟨pq2 hM, fun H24 s24 => ?_⟩⟩)
      refine ⟨_, rfl, ifn (by decide) ?_⟩
      have LG1 := LF.same s24
      clear LD LE LF p21 v21 p23 v23' pq1 pq2 hv23
      -- due
      refine ⟨_, rfl, _, rfl, ?_⟩
      first
        | refine ifp (decide_eq_true hM) ⟨_, rfl, ?_⟩
        | refine ifn (fun q => hM (of_decide_eq_true q)) ?_
      refine ⟨fun σ' H' => σ' = [some (.ref a), some (.ref D), x, some (.ref L), some (.ref b), some (.int (1 + (M : Int))), some (.int (N : Int)), some (.str z), some (.ref t1), some (.ref t2), some (.bl (decide (M + 1 ≤ N))), some (.ref pc), some dv, none, none, none] ∧ H' = H24, ?_, ?_⟩
      · refine ⟨_, rfl, rfl, _, rfl, ?_⟩
        first
          | (refine ifp (decide_eq_true (congrArg V.str hZ)) ⟨_, rfl, _, rfl, ?_⟩
             first
               | (refine ifn (by rw [decide_eq_true hM]; decide) ?_
                  exact ⟨by rw [hdv, if_pos hM]; rfl, rfl⟩)
               | (refine ifp (by rw [decide_eq_false hM]; rfl) ⟨_, rfl, ?_⟩
                  exact ⟨by rw [hdv, if_neg hM, if_pos hZ]; rfl, rfl⟩))
          | (refine ifn (fun q => hZ (V.str.inj (of_decide_eq_true q))) ?_
             first
               | exact ⟨by rw [hdv, if_pos hM]; rfl, rfl⟩
               | exact ⟨by rw [hdv, if_neg hM, if_neg hZ]; rfl, rfl⟩)
      rintro _ _ ⟨rfl, rfl⟩
      -- united
      refine ⟨_, rfl, _, rfl, _, rfl, ?_⟩
      dsimp only [tNil]
      refine uni_go2 LG1.b R LG1.s O1 LG1.t O2 (fun u hu => by
        exact dres_len (dres_of w0 wa wz na hu).symm O1.sz O2.sz) ?_
      intro H25 v25 s25 hj
      have LH := LG1.same s25
      have eqn : Eqs 2 H25 v25 dv := by
        obtain ⟨o, hU, ho⟩ := hj
        have e := dres_of w0 wa wz na hU
        unfold dres at e
        rw [hdv]
        by_cases c : M + 1 ≤ N
        · rw [if_pos c] at e ⊢
          rcases ho with ⟨e2, _⟩ | ⟨q, u, e2, rfl, ku, _⟩
          · rw [e] at e2; cases e2
          · rw [e] at e2
            cases e2
            exact .strs ku.z.q LH.t (by omega)
        · rw [if_neg c] at e ⊢
          by_cases c2 : z = "*"
          · rw [if_pos c2] at e ⊢
            rcases ho with ⟨e2, _⟩ | ⟨q, u, e2, rfl, ku, _⟩
            · rw [e] at e2; cases e2
            · rw [e] at e2
              cases e2
              exact .strs ku.z.q LH.s (by omega)
          · rw [if_neg c2] at e ⊢
            rcases ho with ⟨_, rfl, _⟩ | ⟨q, u, e2, _⟩
            · exact .non
            · rw [e] at e2; cases e2
      refine ⟨_, rfl, _, _, rfl, .inl ⟨eqn.succ, fun H26 s26 => ?_⟩⟩
      refine ⟨_, rfl, ifn (by decide) ?_⟩
      have LI := LH.same s26
      clear LG1 LH hj eqn
      -- common
      refine ⟨_, rfl, _, rfl, _, rfl, [.ref b, .ref t1], [.ref t2], rfl, rfl, le_line (show 1 ≤ 100000 by decide), com_go (ms := [Mth.chn n0 N z]) (us := [t2]) LI.b R LI.s O1 ⟨rfl, fun i t y a b => by
        match i, a, b with
        | 0, a, b => cases a; cases b; exact LI.t
        | i + 1, a, _ => simp at a⟩ (fun y hy => by rw [List.mem_singleton.mp hy]; exact O2) (by simp) fun H27 sh cs s27 hsh _ ocs hC _ => ?_⟩
      have LJ := LI.same s27
      have ecs : cs = Mth.chn n0 (min (M + 1) N) "*" := Mth.Com.uniq w0 (fun l h => h) (fun l h => h) (fun l hl => by
        rcases List.mem_cons.mp hl with e | e
        · rw [e]; exact O1.f
        · rw [List.mem_singleton.mp e]; exact O2.f) (by simp) hC (Mth.chn_com w0 wa wz)
      subst ecs
      refine ⟨_, rfl, _, rfl, D, _, _, _, rfl, rfl, SqL.of LJ.d, at3.1, le_line (show 1 ≤ 100000 by decide), fun u7 hu7 => ?_⟩
      have sa := (Same.refl H27).upd_new (o := .tup [.str n0]) hu7
      refine ⟨_, rfl, _, rfl, le_line (show 2 ≤ 100000 by decide), fun L4 hL4 => ?_⟩
      have sb := (Same.refl (upd H27 u7 (.tup [.str n0]))).upd_new (o := .lst [.int (1 + (M : Int)), .int (N : Int)]) hL4
      have hu71 : Tq (upd (upd H27 u7 (.tup [.str n0])) L4 (.lst [.int (1 + (M : Int)), .int (N : Int)])) u7 [.str n0] := (Tq.of upd_same).same sb
      refine ⟨_, rfl, _, rfl, _, _, rfl, rfl, .inr ⟨_, rfl, ?_⟩⟩
      have emin : atI [V.int (1 + (M : Int)), .int (N : Int)] (if decide ((N : Int) < 1 + (M : Int)) = true then 1 else 0) = some (.int ((min (M + 1) N : Nat) : Int)) := by
        by_cases c : (N : Int) < 1 + (M : Int)
        · rw [if_pos (decide_eq_true c), show min (M + 1) N = N by omega]
          rfl
        · rw [if_neg (fun q => c (of_decide_eq_true q)), show ((min (M + 1) N : Nat) : Int) = 1 + (M : Int) by omega]
          rfl
      refine ⟨L4, _, _, _, rfl, rfl, SqL.of upd_same, emin, ?_⟩
      refine repG_of hu71 (by omega) (by omega) fun v5 H28 s28 hv5 => ?_
      rw [Int.toNat_natCast] at hv5
      refine ⟨le_line (show 1 ≤ 100000 by decide), fun u8 hu8 => ?_⟩
      have sc := (Same.refl H28).upd_new (o := .tup [.str "*"]) hu8
      refine catA_of (hv5.same sc) (.of upd_same) (by rw [List.length_replicate]; show min (M + 1) N + 1 ≤ 100000; omega) fun v6 H29 s29 hv6 => ?_
      rw [sV_chn] at hv6
      have sd := ((((sa.trans sb).trans s28).trans sc).trans s29)
      refine ⟨_, _, rfl, .inl ⟨(Eqs.strs (hsh.same sd) hv6 (by have := ocs.sz; omega)).succ, fun H30 s30 => ?_⟩⟩
      refine ⟨_, rfl, ifn (by decide) ?_⟩
      have LK := (LJ.same sd).same s30
      clear LI LJ hC sa sb sc sd hu71 hv5 hv6 s28 s29 hu7 hL4 hu8 hsh
      -- holes
      refine ⟨_, rfl, _, rfl, b, t1, rows, _, rfl, LK.b, R, LK.s, by omega, ?_⟩
      rw [okdue R O1]
      rintro H31 hq s31 ⟨hts, hh1, hh2⟩
      refine ⟨le_line (show 1 ≤ 100000 by decide), fun u9 hu9 => ?_⟩
      have sa := (Same.refl H31).upd_new (o := .tup [.int 0]) hu9
      refine ⟨_, rfl, repG_of (.of upd_same) (by show (0 : Int) ≤ 1 + (M : Int); omega) (by show (1 : Int) + (M : Int) ≤ 4000; omega) fun v7 H32 s32 hv7 => ?_⟩
      rw [em] at hv7
      refine ⟨le_line (show 1 ≤ 100000 by decide), fun w1 hw1 => ?_⟩
      have sb := (Same.refl H32).upd_new (o := .tup [.ref v7]) hw1
      have ehp : (Mth.hps ("*" : Str) (Mth.chn n0 (M + 1) "*")).map (Mth.pth (wR rows) (Mth.chn n0 (M + 1) "*")) = [List.replicate (M + 1) 0] := by
        rw [Mth.chn_hps na, List.map_singleton, Mth.chn_pth wa w0 (Nat.le_refl _)]
      rw [ehp] at hh2
      have epv : pV (List.replicate (M + 1) 0) = List.replicate (M + 1) (V.int 0) := by
        unfold pV
        rw [List.map_replicate]
        rfl
      have sc := (sa.trans s32).trans sb
      refine ⟨_, _, rfl, .inl ⟨Eqs.paths (us := [v7]) (ps := [List.replicate (M + 1) 0]) ((Tq.of hh1).same sc) (.of upd_same) (hh2.keep (TQ.of_same sc)) ⟨rfl, fun i t y a b => by
        match i, a, b with
        | 0, a, b => cases a; cases b; rw [epv]; exact hv7.same sb
        | i + 1, a, _ => simp at a⟩ (show 1 ≤ 100000 by decide) (fun y hy => by rw [List.mem_singleton.mp hy, List.length_replicate]; omega), fun H33 s33 => ?_⟩⟩
      refine ⟨_, rfl, ifn (by decide) ?_⟩
      have LL := ((LK.same s31).same sc).same s33
      clear LK sa sb sc s31 s32 s33 hh1 hh2 hv7 hu9 hw1
      -- whole
      refine ⟨_, rfl, D, _, _, _, rfl, rfl, SqL.of LL.d, at3.2.2, le_line (show 1 ≤ 100000 by decide), fun u10 hu10 => ?_⟩
      have sa := (Same.refl H33).upd_new (o := .tup [.str n2]) hu10
      refine ⟨_, rfl, catA_of (.of upd_same) (LL.s.same sa) (by unfold sV; rw [List.length_map]; show 1 + _ ≤ 100000; omega) fun v8 H34 s34 hv8 => ?_⟩
      have LM := (LL.same sa).same s34
      refine ⟨_, rfl, catA_of hv8 LM.t (by unfold sV; rw [List.length_append, List.length_map, List.length_map]; show 1 + _ + _ ≤ 100000; omega) fun wh H35 s35 hwh => ?_⟩
      have LN := LM.same s35
      have ewh : [V.str n2] ++ sV (Mth.chn n0 (M + 1) "*") ++ sV (Mth.chn n0 N z) = sV (n2 :: (Mth.chn n0 (M + 1) "*" ++ Mth.chn n0 N z)) := by
        unfold sV
        rw [List.map_cons, List.map_append]
        rfl
      rw [ewh] at hwh
      have lW : (n2 :: (Mth.chn n0 (M + 1) "*" ++ Mth.chn n0 N z)).length = M + N + 4 := by rw [List.length_cons, List.length_append]; omega
      have lWV : (sV (n2 :: (Mth.chn n0 (M + 1) "*" ++ Mth.chn n0 N z))).length = M + N + 4 := by unfold sV; rw [List.length_map]; exact lW
      clear LL LM sa s34 s35 hv8 hu10
      generalize hW : n2 :: (Mth.chn n0 (M + 1) "*" ++ Mth.chn n0 N z) = W at hwh lW lWV
      -- due
      refine ⟨_, rfl, le_line (show 2 ≤ 100000 by decide), fun d1 hd1 => ?_⟩
      have sa := (Same.refl H35).upd_new (o := .tup [.str "told", .ref wh]) hd1
      have hd11 : Tq (upd H35 d1 (.tup [.str "told", .ref wh])) d1 [.str "told", .ref wh] := .of upd_same
      have LO := LN.same sa
      have hwo := hwh.same sa
      generalize upd H35 d1 (.tup [.str "told", .ref wh]) = H36 at sa hd11 LO hwo
      refine ⟨fun σ' H' => ∃ dw : Addr, σ' = [some (.ref a), some (.ref D), x, some (.ref L), some (.ref b), some (.int (1 + (M : Int))), some (.int (N : Int)), some (.str z), some (.ref t1), some (.ref t2), some (.bl (decide (M + 1 ≤ N))), some (.ref pc), some (.ref dw), some (.ref sh), some (.ref wh), none] ∧ Same H36 H' ∧ ((2000 < W.length ∧ Tq H' dw [.str "many", .str "knots", .int 2000]) ∨ (W.length ≤ 2000 ∧ Tq H' dw [.str "told", .ref wh])), ?_, ?_⟩
      · refine ⟨_, rfl, wh, _, rfl, .inr hwo.sq, _, _, rfl, rfl, _, rfl, ?_⟩
        by_cases c : 2000 < W.length
        · refine ifp (by rw [lWV]; exact decide_eq_true (by show (2000 : Int) < ((M + N + 4 : Nat) : Int); omega)) ?_
          exact ⟨le_line (show 3 ≤ 100000 by decide), fun d2 hd2 => ⟨d2, rfl, (Same.refl H36).upd_new hd2, .inl ⟨c, .of upd_same⟩⟩⟩
        · refine ifn (fun q => c (by rw [lWV] at q; have : (2000 : Int) < ((M + N + 4 : Nat) : Int) := of_decide_eq_true q; omega)) ?_
          exact ⟨d1, rfl, Same.refl H36, .inr ⟨by omega, hd11⟩⟩
      rintro _ H37 ⟨dw, rfl, s37, hdw⟩
      have LP := LO.same s37
      have hwp := hwo.same s37
      clear LN LO hwh hwo sa hd11 hd1
      have met : ∀ {H' : Hp} {v : V}, Same H37 H' → MetV H' v W → Eqs 3 H' v (.ref dw) := fun {H' v} q h => MetV.eqs h (hwp.same q) (by omega) (by
        rcases hdw with ⟨c, e⟩ | ⟨c, e⟩
        · exact .inl ⟨c, e.same q⟩
        · exact .inr ⟨c, e.same q⟩)
      -- fork
      refine ⟨_, rfl, D, _, _, _, rfl, rfl, SqL.of LP.d, at3.2.2, le_line (show 3 ≤ 100000 by decide), fun fk o hfk ho => ?_⟩
      have sa := (Same.refl H37).upd_new (o := .frz o (.tup [.str n2, .str "*", .str "*"])) hfk
      have zfk : Tz (upd H37 fk (.frz o (.tup [.str n2, .str "*", .str "*"]))) fk (([n2, "*", "*"] : List Str).map V.str) := ⟨o, upd_same, ho⟩
      have LQ := LP.same sa
      generalize upd H37 fk (.frz o (.tup [.str n2, .str "*", .str "*"])) = H38 at sa zfk LQ
      have Of : StumpOk rows ([n2, "*", "*"] : List Str) := ⟨by
        show Mth.forest (wR rows) ["*", "*"] (wR rows n2 + 0) = true
        rw [wc]
        show Mth.forest (wR rows) ["*"] (wR rows "*" + 1) = true
        rw [w0]
        show Mth.forest (wR rows) [] (wR rows "*" + 0) = true
        rw [w0]
        rfl, fun y hy => by
          rcases List.mem_cons.mp hy with e | hy
          · exact kin y (.inr (.inr e))
          · rcases List.mem_cons.mp hy with e | hy
            · exact .inl e
            · exact .inl (List.mem_singleton.mp hy), (show 3 ≤ 2000 by decide)⟩
      have nc : n2 ≠ "*" := fun e => by rw [e, w0] at wc; cases wc
      have efl : fill [Mth.chn n0 (M + 1) "*", Mth.chn n0 N z] ([n2, "*", "*"] : List Str) = W := by
        rw [fill_flr, Mth.flr_cons, if_neg nc, Mth.flr_cons, if_pos rfl, Mth.flr_cons, if_pos rfl, ← hW]
        show n2 :: (Mth.chn n0 (M + 1) "*" ++ (Mth.chn n0 N z ++ [])) = _
        rw [List.append_nil]
      have hcf : ([n2, "*", "*"] : List Str).count ("*" : Str) = 2 := by
        rw [List.count_cons, if_neg (fun q => nc (beq_iff_eq.mp q))]
        rfl
      refine ⟨_, rfl, _, rfl, _, rfl, _, rfl, _, rfl, le_line (show 2 ≤ 100000 by decide), fun cl hcl => ?_⟩
      have sb := (Same.refl H38).upd_new (o := .lst [.ref t1, .ref t2]) hcl
      refine ⟨b, fk, fk, cl, 0, rows, _, _, W, rfl, (LQ.same sb).b, R, (zfk.same sb).q, Of, (zfk.same sb).q, Of, .inl ⟨rfl, zfk.same sb, t1, t2, _, _, upd_same, (LQ.same sb).s, (LQ.same sb).t, O1, O2, hcf, efl.symm⟩, fun H39 v39 s39 hm39 => ?_⟩
      refine ⟨_, rfl, _, _, rfl, .inl ⟨met ((sa.trans sb).trans s39) hm39, fun H40 s40 => ?_⟩⟩
      refine ⟨_, rfl, ifn (by decide) ?_⟩
      have sc := (sb.trans s39).trans s40
      have LR := LQ.same sc
      -- the union under a fork
      refine ⟨_, rfl, _, rfl, D, _, _, _, rfl, rfl, SqL.of LR.d, at3.2.2, le_line (show 1 ≤ 100000 by decide), fun u11 hu11 => ?_⟩
      have sd := (Same.refl H40).upd_new (o := .tup [.str n2]) hu11
      refine ⟨_, rfl, catA_of (.of upd_same) (LR.s.same sd) (by unfold sV; rw [List.length_map]; show 1 + _ ≤ 100000; omega) fun v9 H41 s41 hv9 => ?_⟩
      refine ⟨le_line (show 1 ≤ 100000 by decide), fun u12 hu12 => ?_⟩
      have se := (Same.refl H41).upd_new (o := .tup [.str "*"]) hu12
      refine catA_of (hv9.same se) (.of upd_same) (by unfold sV; rw [List.length_append, List.length_map]; show 1 + _ + 1 ≤ 100000; omega) fun x1 H42 s42 hx1 => ?_
      have sf := ((sd.trans s41).trans se).trans s42
      have LS1 := LR.same sf
      refine ⟨_, rfl, D, _, _, _, rfl, rfl, SqL.of LS1.d, at3.2.2, le_line (show 2 ≤ 100000 by decide), fun u13 hu13 => ?_⟩
      have sg := (Same.refl H42).upd_new (o := .tup [.str n2, .str "*"]) hu13
      refine ⟨_, rfl, catA_of (.of upd_same) (LS1.t.same sg) (by unfold sV; rw [List.length_map]; show 2 + _ ≤ 100000; omega) fun x2 H43 s43 hx2 => ?_⟩
      refine ⟨le_line (show 0 ≤ 100000 by decide), fun cl2 hcl2 => ?_⟩
      have sh' := (Same.refl H43).upd_new (o := .lst []) hcl2
      have ex1 : [V.str n2] ++ sV (Mth.chn n0 (M + 1) "*") ++ [.str "*"] = sV (n2 :: (Mth.chn n0 (M + 1) "*" ++ [("*" : Str)])) := by
        unfold sV
        rw [List.map_cons, List.map_append]
        rfl
      have ex2 : [V.str n2, .str "*"] ++ sV (Mth.chn n0 N z) = sV (n2 :: ("*" :: Mth.chn n0 N z)) := by
        unfold sV
        rw [List.map_cons, List.map_cons]
        rfl
      rw [ex1] at hx1
      rw [ex2] at hx2
      have O3 : StumpOk rows (n2 :: (Mth.chn n0 (M + 1) "*" ++ [("*" : Str)])) := ⟨by
        show Mth.forest (wR rows) (Mth.chn n0 (M + 1) "*" ++ [("*" : Str)]) (wR rows n2 + 0) = true
        rw [wc]
        exact Mth.forest_app (wR rows) _ _ 1 1 O1.f (Mth.star_one w0), fun y hy => by
          rcases List.mem_cons.mp hy with e | hy
          · exact kin y (.inr (.inr e))
          · rcases List.mem_append.mp hy with hy | hy
            · exact O1.k y hy
            · exact .inl (List.mem_singleton.mp hy), by rw [List.length_cons, List.length_append, l1]; show M + 2 + 1 + 1 ≤ 2000; omega⟩
      have O4 : StumpOk rows (n2 :: ("*" :: Mth.chn n0 N z)) := ⟨by
        show Mth.forest (wR rows) ("*" :: Mth.chn n0 N z) (wR rows n2 + 0) = true
        rw [wc]
        show Mth.forest (wR rows) (Mth.chn n0 N z) (wR rows "*" + 1) = true
        rw [w0]
        exact O2.f, fun y hy => by
          rcases List.mem_cons.mp hy with e | hy
          · exact kin y (.inr (.inr e))
          · rcases List.mem_cons.mp hy with e | hy
            · exact .inl e
            · exact O2.k y hy, by rw [List.length_cons, List.length_cons, l2]; omega⟩
      have hUn : Un (wR rows) (n2 :: (Mth.chn n0 (M + 1) "*" ++ [("*" : Str)])) (n2 :: ("*" :: Mth.chn n0 N z)) (some W) := by
        obtain ⟨N', rfl⟩ : ∃ N', N = N' + 1 := ⟨N - 1, by omega⟩
        rw [← hW]
        exact Mth.fork_un w0 wa wz M N'
      have si := (sg.trans s43).trans sh'
      refine ⟨b, x1, x2, cl2, 1, rows, _, _, W, rfl, (LS1.same si).b, R, hx1.same si, O3, hx2.same sh', O4, .inr ⟨rfl, hUn⟩, fun H44 v44 s44 hm44 => ?_⟩
      have sj := ((sa.trans sc).trans sf).trans (si.trans s44)
      refine ⟨_, rfl, _, _, rfl, .inl ⟨met sj hm44, fun H45 s45 => ?_⟩⟩
      refine ⟨_, rfl, ifn (by decide) ?_⟩
      have sk := sj.trans s45
      have LT := LP.same sk
      have hwt := hwp.same sk
      have zft := zfk.same (((sc.trans sf).trans (si.trans s44)).trans s45)
      refine ⟨_, rfl, wh, _, rfl, .inr hwt.sq, _, _, rfl, rfl, _, rfl, ?_⟩
      rw [lWV]
      by_cases c : 2000 < W.length
      · refine ifp (decide_eq_true (by show (2000 : Int) < ((M + N + 4 : Nat) : Int); omega)) ?_
        have e : decide ((2000 : Int) < ((M + N + 4 : Nat) : Int)) = true := decide_eq_true (by omega)
        first
          | exact k _
          | (rw [e]; exact k _)
      · refine ifn (fun q => c (by have : (2000 : Int) < ((M + N + 4 : Nat) : Int) := of_decide_eq_true q; omega)) ?_
        have OW : StumpOk rows W := by
          rw [← efl]
          exact fill_ok R Of (fun y hy => by
            rcases List.mem_cons.mp hy with e | hy
            · rw [e]; exact O1
            · rw [List.mem_singleton.mp hy]; exact O2) hcf (by rw [efl]; omega)
        refine ⟨_, rfl, _, rfl, _, rfl, b, fk, wh, rows, _, W, rfl, LT.b, R, zft.q, (show 3 ≤ 6000 by decide), hwt, by omega, ?_⟩
        rw [fbad2ok R Of OW]
        have hp : parts rows ([n2, "*", "*"] : List Str) W = some [Mth.chn n0 (M + 1) "*", Mth.chn n0 N z] := by
          rw [← efl, fill_flr]
          exact Mth.prt_flr w0 _ _ 0 [] (Nat.zero_le _) rfl (fun y hy => by
            rcases List.mem_cons.mp hy with e | hy
            · rw [e]; exact O1.f
            · rw [List.mem_singleton.mp hy]; exact O2.f) hcf
        intro H46 v46 s46 hv46
        rw [hp] at hv46
        obtain ⟨p, us, rfl, p1, p2⟩ := hv46
        refine ⟨_, rfl, _, rfl, le_line (show 2 ≤ 100000 by decide), fun q hq => ?_⟩
        have sl := (Same.refl H46).upd_new (o := .tup [.ref t1, .ref t2]) hq
        have LU := (LT.same s46).same sl
        refine ⟨_, _, rfl, .inl ⟨Eqs.rows (us := [t1, t2]) ((Tq.of p1).same sl) (.of upd_same) (p2.keep (TQ.of_same sl)) (two_at LU.s LU.t) (show 2 ≤ 100000 by decide) (fun y hy => ?_), fun H47 s47 => k _⟩⟩
        rcases List.mem_cons.mp hy with e | hy
        · rw [e]; omega
        · rw [List.mem_singleton.mp hy]; omega
end
end Sh
end
section
set_option Elab.async false
set_option linter.all false
set_option maxRecDepth 100000
set_option maxHeartbeats 4000000
set_option autoImplicit false
namespace Sh
open PySem PySem.Spec PyProof.Rows L2
open C8 (pss_cut tCut)
open Evl (ixN_nat)
def spLaw (K : PySem.W.Frag) : Sp := fun vs H Q _ => ∃ (s : Addr) (ns : List Int), vs = [.ref s] ∧ SqL K H s (ns.map V.int) ∧ ns.length ≤ 63 ∧ ∀ H', Q (.bl true) H'
theorem fnOk0 {P : Program} {w : World} {K : PySem.W.Frag} {mg : Str → Option Value} {base : Heap} {k : Nat} {x : Str} {sp : Sp} {st : Stmt} {N ps : List Str} {f0 : Addr} {fd : FuncData} (F : FunD K x x (defArgs st) (defBody st) (defScope st) [] [] f0 fd) (S : FnScope N ps (defScope st)) (len : ∀ vs H Q E, sp vs H Q E → vs.length = ps.length)
    (hbody : ∀ (cdv : Value) (A : Around) (outer : List Env) (s : Shared) (H : Hp) (vs : List V) (Q : VK) (E : XK), Room k (A.deeper (envOfC x (defScope st) s.heap.objs.size f0 cdv)) → sp vs H Q E →
      ∃ t, PSs (cxOf CX0 P w K mg base N x (defScope st) f0 cdv A outer s H E).nox (defBody st) t ∧ t { nx := fun _ H' => Q .non H', rt := Q } (start N vs) H) : FnOk P w K mg base CX0 (k + 1) f0 fd ps sp :=
  F.ok S len fun cdv A outer s H vs Q E hr h => by
    obtain ⟨t, a, b⟩ := hbody cdv A outer s H vs Q E hr h
    exact ⟨t, a.nox, b⟩
abbrev s_law : Stmt := top 75
abbrev N_law : List Str := ["script", "bag"]
theorem sc_law : FnScope N_law ["script"] (defScope s_law) := ⟨rfl, rfl, rfl, by decide +kernel, rfl, by decide +kernel, by decide +kernel⟩
section
variable {P : Program} {w : World} {K : PySem.W.Frag} {mg : Str → Option Value} {base : Heap} {C CN CT : Addr}
theorem ok_law (T : Bk mg) (c_law_bag : DefOk P w K mg base CX0 1 "_law_bag" (spBag K)) (c_law_draw : DefOk P w K mg base CX0 1 "_law_draw" spDraw) (c_law_long_right : DefOk P w K mg base CX0 8 "_law_long_right" spBagT) (c_law_short_right : DefOk P w K mg base CX0 8 "_law_short_right" spBagT) {f0 : Addr} {fd : FuncData} (F0 : FunD K "law" "law" (defArgs s_law) (defBody s_law) (defScope s_law) [] [] f0 fd) : FnOk P w K mg base CX0 11 f0 fd ["script"] (spLaw K) := by
  refine fnOk0 F0 sc_law (fun vs H Q E h => ?_) (fun cdv A outer s H vs Q E hr h => ?_)
  · obtain ⟨sc, ns, rfl, _⟩ := h
    rfl
  · obtain ⟨sc, ns, rfl, hS, hn, k⟩ := h
    refine ⟨_, (pss_cons (ps_set (i := 1) sc_law.nd rfl (Or.inl rfl) (pe_d c_law_bag (hr.mono (by decide)) pass0 (pa_cons (pv 0) pa_nil)))
      (pss_cons (ps_if (pt_cmpR op_ne (pe_cS (by rfl) T.c_HOLE) pe_str (nomark _))
        (pss_one (ps_ret pe_bl))
        pss_nil)
      (pss_cons (ps_if (pt_cmpR op_eq (pe_d c_law_draw (hr.mono (by decide)) pass0 (pa_cons (pv 1) (pa_cons pe_int pa_nil))) pe_int (nomark _))
        (pss_one (ps_ret (pe_d c_law_long_right (hr.mono (by decide)) pass0 (pa_cons (pv 1) pa_nil))))
        pss_nil)
      (pss_one (ps_ret (pe_d c_law_short_right (hr.mono (by decide)) pass0 (pa_cons (pv 1) pa_nil))))))), ?_⟩
    refine ⟨_, rfl, sc, ns, rfl, hS, hn, fun H1 a s1 ha b1 => ?_⟩
    refine ⟨rfl, _, rfl, ifn (by decide) ?_⟩
    refine ⟨_, rfl, a, 8, rfl, b1, by decide, by decide, fun H2 d k2 b2 d0 d8 => ?_⟩
    refine ⟨rfl, _, rfl, ite2 (fun _ => ?_) (fun _ => ?_)⟩
    · exact ⟨_, rfl, a, rfl, b2, k⟩
    · exact ⟨_, rfl, a, rfl, b2, k⟩
end
end Sh
end
section
set_option Elab.async false
set_option linter.all false
set_option maxRecDepth 100000
set_option maxHeartbeats 2000000
set_option autoImplicit false
/-! The hook of HookX that also tells which own exception class is which, and what isinstance asks of them. -/
namespace Hx
open PySem PySem.Spec PyProof.Rows L2 He PySem.W
def exB (K : Frag) (C : Addr) : Bool := xfB K C && (eqO (findIn K (.ref C) "__class__") (some (some (.builtin "object.__class__"))) && (eqO (specialIn K (.builtin "object.__class__") "__get__") (some (some (.builtin "getset_descriptor.__get__"))) && (decide (takesIn K (.builtin "object.__class__") = some true) && (decide (mroIn K C (.type "object") = some true) && (clsIn K C).isSome))))
theorem exB_ok {K : Frag} {C : Addr} (h : exB K C = true) : ExcD K C := by
  unfold exB at h
  obtain ⟨h1, h⟩ := ba h
  obtain ⟨h2, h⟩ := ba h
  obtain ⟨h3, h⟩ := ba h
  obtain ⟨h4, h⟩ := ba h
  obtain ⟨h5, h6⟩ := ba h
  have f := xfB_ok h1
  exact ⟨⟨f.ga, f.gg, f.exC, f.hdC, eqO_ok h2, eqO_ok h3, of_decide_eq_true h4, of_decide_eq_true h5⟩, h6⟩
def yB (K : Frag) (base : Str) (ns : List Str) (x : Str) : Bool := exB K (ga K x) && (decide (kitOne K (.ref (ga K x)) (.type "ValueError") = some true) && (decide (exmOne K (.ref (ga K x)) (.ref (ga K base)) = some true) && ns.all fun y => decide (kitOne K (.ref (ga K x)) (.ref (ga K y)) = some (decide (x = y)))))
structure YFacts (K : Frag) (base : Str) (ns : List Str) (x : Str) : Prop where
  ex : ExcD K (ga K x)
  kv : kitOne K (.ref (ga K x)) (.type "ValueError") = some true
  me : exmOne K (.ref (ga K x)) (.ref (ga K base)) = some true
  ki : ∀ y ∈ ns, kitOne K (.ref (ga K x)) (.ref (ga K y)) = some (decide (x = y))
theorem yB_ok {K : Frag} {base : Str} {ns : List Str} {x : Str} (h : yB K base ns x = true) : YFacts K base ns x := by
  unfold yB at h
  obtain ⟨h1, h⟩ := ba h
  obtain ⟨h2, h⟩ := ba h
  obtain ⟨h3, h4⟩ := ba h
  exact ⟨exB_ok h1, of_decide_eq_true h2, of_decide_eq_true h3, fun y hy => of_decide_eq_true (List.all_eq_true.mp h4 y hy)⟩
/-- what can be reached in n steps, twice told where it is reached twice -/
def bfs (g : Addr → Option Obj) : Nat → List Addr → List Addr
  | 0, l => l
  | n + 1, l => l ++ bfs g n (l.flatMap fun a => match g a with
    | some o => refsD o
    | none => [])
def frY (n : Nat) (g : Addr → Option Obj) : Frag := frG g (bfs g n [mainGlobals] ++ [cStatics])
abbrev AlY : Type := (AlD × (Bool × List XV)) × Bool
def obsY (file : Str) (n : Nat) (fa : List Fa) (fn : List DefD) (xs : List XDef) (base : Str) (ns : List Str) (g : Addr → Option Obj) : AlY :=
  ((obsD fa fn (frY n g), (xs.all fun d => d.ok file (frY n g), xs.map fun d => xvOf (frY n g) d.x)), ns.all fun x => yB (frY n g) base ns x)
def hookY (file : Str) (n : Nat) (fa : List Fa) (fn : List DefD) (xs : List XDef) (base : Str) (ns : List Str) : PySem.W.Hook where
  α := AlY
  obs := fun s => obsY file n fa fn xs base ns s.heap.get?
  val := fun _ => ((valD fn, (true, xs.map XDef.val)), true)
  says := fun _ h => ∃ K : Frag, K.In h ∧ SaysD fa fn K ∧ (xs.all fun d => d.ok file K) = true ∧ (xs.map fun d => xvOf K d.x) = xs.map XDef.val ∧ (ns.all fun x => yB K base ns x) = true
  of := fun _ _ e => ⟨_, frG_in, congrArg (fun z : AlY => z.1.1) e, congrArg (fun z : AlY => z.1.2.1) e, congrArg (fun z : AlY => z.1.2.2) e, congrArg (fun z : AlY => z.2) e⟩
  keeps := fun _ _ _ ⟨K, hK, c⟩ k => ⟨K, PySem.W.Frag.In.keeps hK k, c⟩
theorem obsY_eq {file : Str} {n : Nat} {fa : List Fa} {fn : List DefD} {xs : List XDef} {base : Str} {ns : List Str} {g : Addr → Option Obj} {s : Shared} (h : ∀ a, g a = s.heap.get? a) : obsY file n fa fn xs base ns g = (hookY file n fa fn xs base ns).obs s := by
  have e : g = s.heap.get? := funext h
  rw [e] <;> rfl
end Hx
end
section
set_option Elab.async false
set_option linter.all false
set_option maxRecDepth 100000
set_option maxHeartbeats 0
namespace Sh
open PySem PySem.Spec PyProof.Rows L2
abbrev TL : PySem.W.OpenLaw := PySem.Challenge.rw_shearyard_k03_whole_common_and_united_st
abbrev R : PySem.W.OpenRow := PySem.W.OpenLaw.row TL
def dOf (n : PySem.Str) (st : Stmt) : He.DefD := ⟨(n, none), n, n, defArgs st, defBody st, defScope st, [], []⟩
def dM (c m q : PySem.Str) (st : Stmt) : He.DefD := ⟨(c, some m), m, q, defArgs st, defBody st, defScope st, [], []⟩
def s_TooMany : Stmt := inClass (top 7) 0
def s_InvalidStump : Stmt := inClass (top 4) 0
def s_UnknownKind : Stmt := inClass (top 6) 0
def s_WrongBranches : Stmt := inClass (top 8) 0
def fn : List He.DefD := [dOf "check_size" s_check_size, dOf "fault_place" s_fault_place, dOf "ends_of" s_ends_of, dOf "paths_of" s_paths_of, dOf "check_stump" s_check_stump, dOf "check_stumps" s_check_stumps, dOf "stump_key" s_stump_key, dOf "holes" s_holes, dOf "filled" s_filled, dOf "filled_holes" s_filled_holes, dOf "begins" s_begins, dOf "parts" s_parts, dOf "parts_in" s_parts_in, dOf "parts_from" s_parts_from, dOf "common" s_common, dOf "shared_stump" s_shared_stump, dOf "compared" s_compared, dOf "united" s_united, dOf "union_of" s_union_of, dOf "all_letters" s_all_letters, dOf "is_name" s_is_name, dOf "check_pairs" s_check_pairs, dOf "_law_bag" s_law_bag, dOf "_law_draw" s_law_draw, dOf "_law_word" s_law_word, dOf "_law_name" s_law_name, dOf "_law_rows" s_law_rows, dOf "_law_bed" s_law_bed, dOf "_law_number" s_law_number, dOf "_law_plant" s_law_plant, dOf "_law_ends" s_law_ends, dOf "_law_fault" s_law_fault, dOf "_law_same" s_law_same, dOf "_law_stump" s_law_stump, dOf "_law_paths" s_law_paths, dOf "_law_kinds" s_law_kinds, dOf "_law_is_begun" s_law_is_begun, dOf "_law_hole_paths" s_law_hole_paths, dOf "_law_branches_at" s_law_branches_at, dOf "_law_cut_down" s_law_cut_down, dOf "_law_pieces" s_law_pieces, dOf "_law_with_pieces" s_law_with_pieces, dOf "_law_related" s_law_related, dOf "_law_filled" s_law_filled, dOf "_law_common" s_law_common, dOf "_law_common_right" s_law_common_right, dOf "_law_united_right" s_law_united_right, dOf "_law_pair_right" s_law_pair_right, dOf "_law_alone_right" s_law_alone_right, dOf "_law_fill_right" s_law_fill_right, dOf "_law_short_right" s_law_short_right, dOf "_law_long_met" s_law_long_met, dOf "_law_long_right" s_law_long_right, dOf "law" s_law] ++ [dM "Bed" "__init__" "Bed.__init__" s_init__, dM "Bed" "branches" "Bed.branches" s_branches]
def fa : List He.Fa := [.glo "check_size", .glo "fault_place", .glo "ends_of", .glo "paths_of", .glo "check_stump", .glo "check_stumps", .glo "stump_key", .glo "holes", .glo "filled", .glo "filled_holes", .glo "begins", .glo "parts", .glo "parts_in", .glo "parts_from", .glo "common", .glo "shared_stump", .glo "compared", .glo "united", .glo "union_of", .glo "all_letters", .glo "is_name", .glo "check_pairs", .glo "_law_bag", .glo "_law_draw", .glo "_law_word", .glo "_law_name", .glo "_law_rows", .glo "_law_bed", .glo "_law_number", .glo "_law_plant", .glo "_law_ends", .glo "_law_fault", .glo "_law_same", .glo "_law_stump", .glo "_law_paths", .glo "_law_kinds", .glo "_law_is_begun", .glo "_law_hole_paths", .glo "_law_branches_at", .glo "_law_cut_down", .glo "_law_pieces", .glo "_law_with_pieces", .glo "_law_related", .glo "_law_filled", .glo "_law_common", .glo "_law_common_right", .glo "_law_united_right", .glo "_law_pair_right", .glo "_law_alone_right", .glo "_law_fill_right", .glo "_law_short_right", .glo "_law_long_met", .glo "_law_long_right", .glo "law"] ++ [.glo "Bed", .cls "Bed", .mkr "Bed", .meth "Bed" "branches", .noat "Bed" "rows", .noat "Bed" "kinds", .noat "Bed" "widths", .noat "Bed" "ranks", .free "len", .free "range", .free "abs", .free "int", .free "max", .free "all", .free "isinstance", .free "set", .free "list", .free "tuple", .free "bool", .free "str", .free "enumerate", .free "super", .int "MOST_KINDS" 8, .int "MOST_BRANCHES" 3, .int "MOST_KNOTS" 2000, .int "LONGEST_NAME" 8, .str "LETTERS" "abcdefghijklmnopqrstuvwxyz", .free "zip", .free "ValueError", .str "HOLE" "*", .glo "YardError"]
def xTooMany : Hx.XDef := ⟨"TooMany", ["what", "limit"], "TooMany.__init__", defArgs s_TooMany, defBody s_TooMany, defScope s_TooMany⟩
def xInvalidStump : Hx.XDef := ⟨"InvalidStump", ["place"], "InvalidStump.__init__", defArgs s_InvalidStump, defBody s_InvalidStump, defScope s_InvalidStump⟩
def xUnknownKind : Hx.XDef := ⟨"UnknownKind", ["kind"], "UnknownKind.__init__", defArgs s_UnknownKind, defBody s_UnknownKind, defScope s_UnknownKind⟩
def xWrongBranches : Hx.XDef := ⟨"WrongBranches", ["wanted", "given"], "WrongBranches.__init__", defArgs s_WrongBranches, defBody s_WrongBranches, defScope s_WrongBranches⟩
def xs : List Hx.XDef := [xTooMany, xInvalidStump, xUnknownKind, xWrongBranches]
def nsX : List PySem.Str := ["TooMany", "InvalidStump", "UnknownKind", "WrongBranches"]
abbrev hk : PySem.W.Hook := Hx.hookY TL.prog.main.file 4 fa fn xs "YardError" nsX
def ob (s : PySem.W.SharedT) : Hx.AlY := Hx.obsY TL.prog.main.file 4 fa fn xs "YardError" nsX (HandSHeadRun.getT s)
def names : List PySem.Str := (["_wall", "YardError", "InvalidBed", "InvalidStump", "InvalidText", "UnknownKind", "TooMany", "WrongBranches", "MOST_KINDS", "MOST_BRANCHES", "MOST_KNOTS", "check_size", "fault_place", "ends_of", "paths_of", "HOLE", "check_stump", "check_stumps", "stump_key", "holes", "filled", "filled_holes", "begins", "parts", "parts_in"] : List PySem.Str) ++ (["parts_from", "common", "shared_stump", "compared", "united", "union_of", "LETTERS", "LONGEST_NAME", "all_letters", "is_name", "DIGITS", "check_pairs", "Bed", "_law_bag", "_law_draw", "_law_word", "_law_name", "_law_rows", "_law_bed", "_law_number", "_law_plant", "_law_ends", "_law_fault", "_law_same", "_law_stump"] : List PySem.Str) ++ (["_law_paths", "_law_kinds", "_law_is_begun", "_law_hole_paths", "_law_branches_at", "_law_cut_down", "_law_pieces", "_law_with_pieces", "_law_related", "_law_filled", "_law_common", "_law_common_right", "_law_united_right", "_law_pair_right", "_law_alone_right", "_law_fill_right", "_law_short_right", "_law_long_met", "_law_long_right"] : List PySem.Str)
end Sh
end
section
set_option Elab.async false
set_option linter.all false
set_option maxRecDepth 100000
set_option maxHeartbeats 0
namespace Sh
open PySem PySem.W PySem.Spec PyProof.Rows L2 HandSHeadRun
theorem pa (w : World) (os : OsState) : (HandSHeadRun.endF (stepQ (denQ tabQ) R.prog w) 9000 R.prog w os).map (fun s => (looksF R.prog (boot_heap w.params) s.abs, seenQ (PySem.W.view R.prog [75]) names (importedModules R.prog.main.body) (fun s => xlAt (PySem.W.view R.prog [75]) [] s && recOk R.toRowW.records s) s.abs, He.obsD fa fn (Hx.frY 4 (HandSHeadRun.getT s)))) = some (true, openGood (PySem.W.view R.prog [75]) names, He.valD fn) := by
  kernel_rfl
theorem pb (w : World) (os : OsState) : (HandSHeadRun.endF (stepQ (denQ tabQ) R.prog w) 9000 R.prog w os).map (fun s => ((xs.all fun d => d.ok TL.prog.main.file (Hx.frY 4 (HandSHeadRun.getT s))), (xs.map fun d => Hx.xvOf (Hx.frY 4 (HandSHeadRun.getT s)) d.x))) = some (true, xs.map Hx.XDef.val) := by
  kernel_rfl
theorem pc (w : World) (os : OsState) : (HandSHeadRun.endF (stepQ (denQ tabQ) R.prog w) 9000 R.prog w os).map (fun s => (nsX.all fun x => Hx.yB (Hx.frY 4 (HandSHeadRun.getT s)) "YardError" nsX x)) = some true := by
  kernel_rfl
theorem glue {α A B C D E : Type} {e : Option α} {f : α → A} {g : α → B} {d : α → C} {x : α → D} {y : α → E} {a : A} {b : B} {c : C} {x0 : D} {y0 : E} (h1 : e.map (fun s => (f s, g s, d s)) = some (a, b, c)) (h2 : e.map x = some x0) (h3 : e.map y = some y0) : e.map (fun s => (f s, g s, ((d s, x s), y s))) = some (a, b, ((c, x0), y0)) := by
  cases e with
  | none => cases h1
  | some s =>
    have e1 := Option.some.inj h1
    have e2 : x s = x0 := Option.some.inj h2
    have e3 : y s = y0 := Option.some.inj h3
    have e4 : f s = a := congrArg (fun z => z.1) e1
    have e5 : g s = b := congrArg (fun z => z.2.1) e1
    have e6 : d s = c := congrArg (fun z => z.2.2) e1
    show some (f s, g s, ((d s, x s), y s)) = _
    rw [e2, e3, e4, e5, e6]
theorem run (w : World) : HandSHeadRun.RunEq R (PySem.W.view R.prog [75]) hk ob 9000 names w := fun os => glue (pa w os) (pb w os) (pc w os)
end Sh
end
section
set_option Elab.async false
set_option linter.all false
set_option maxRecDepth 100000
set_option maxHeartbeats 2000000
set_option autoImplicit false
namespace Sh
open PySem PySem.Spec PyProof.Rows L2
/-! ### the exception classes -/
theorem acc_le {x y : Str} {n m : Nat} (hx : x.length ≤ n) (hy : y.length ≤ m) (h : n + m ≤ 100000) : (x ++ y).length ≤ sizeLine := by rw [app_len]; exact le_line (by omega)
theorem acc_n {x y : Str} {n m : Nat} (hx : x.length ≤ n) (hy : y.length ≤ m) : (x ++ y).length ≤ n + m := by rw [app_len]; omega
theorem len_i {i : Nat} (h : i ≤ 10000) : (Str.ofString (toString ((i : Nat) : Int))).length ≤ 6 := by
  have e := int_text_length_le10 (a := ((i : Nat) : Int)) (k := 5) (by decide) (by omega)
  rw [PySem.ofString_length]
  exact e
theorem log_i {i : Nat} (h : i ≤ 10000) : (((i : Nat) : Int)).natAbs.log2 < 1920 := by
  rw [Int.natAbs_natCast]
  have : i.log2 ≤ i := Nat.log2_le_self i
  by_cases h0 : i = 0
  · subst h0; decide
  · have h14 : i.log2 < 14 := (Nat.log2_lt h0).mpr (by omega)
    omega
def q0 : Pos := ⟨0, 0, 0, 0⟩
def stpOf : Stmt → SupX.StP
  | .Assign [.Attribute (.Name _ q1) f q2] (.Name _ q3) q4 => ⟨f, q1, q2, q3, q4⟩
  | _ => ⟨"", q0, q0, q0, q0⟩
def headOf : List Stmt → Expr × Pos × Pos × Pos × Pos × Pos
  | .Expr (.Call (.Attribute (.Call (.Name _ p0) [] [] p1) _ p2) [msg] [] p3) p4 :: _ => (msg, p0, p1, p2, p3, p4)
  | _ => (.Name "" q0, q0, q0, q0, q0, q0)
def bodyTooMany : List Stmt := defBody s_TooMany
def zTooMany0 : SupX.StP := stpOf (bodyTooMany.getD 1 (.Pass q0))
def zTooMany1 : SupX.StP := stpOf (bodyTooMany.getD 2 (.Pass q0))
theorem eTooMany : defBody s_TooMany = SupX.iB (headOf bodyTooMany).1 (headOf bodyTooMany).2.1 (headOf bodyTooMany).2.2.1 (headOf bodyTooMany).2.2.2.1 (headOf bodyTooMany).2.2.2.2.1 (headOf bodyTooMany).2.2.2.2.2 [zTooMany0, zTooMany1] := rfl
theorem scTooMany : SupX.SupScope (defScope s_TooMany) [zTooMany0, zTooMany1] := ⟨rfl, rfl, rfl, by decide +kernel, rfl, rfl, rfl, fun z hz => by
  rcases List.mem_cons.mp hz with h | h
  · rw [h]; exact ⟨rfl, by decide +kernel⟩
  · rw [List.mem_singleton.mp h]; exact ⟨rfl, by decide +kernel⟩, by decide +kernel⟩
theorem ppTooMany (fI : Addr) : SupX.SupPos "TooMany.__init__" (defScope s_TooMany) fI (headOf bodyTooMany).1 (headOf bodyTooMany).2.1 (headOf bodyTooMany).2.2.1 (headOf bodyTooMany).2.2.2.1 (headOf bodyTooMany).2.2.2.2.1 (headOf bodyTooMany).2.2.2.2.2 := ⟨fun _ _ _ => ⟨_, rfl⟩, fun _ _ _ => rfl, fun _ _ _ => rfl⟩
def bodyInvalidStump : List Stmt := defBody s_InvalidStump
def zInvalidStump0 : SupX.StP := stpOf (bodyInvalidStump.getD 1 (.Pass q0))
theorem eInvalidStump : defBody s_InvalidStump = SupX.iB (headOf bodyInvalidStump).1 (headOf bodyInvalidStump).2.1 (headOf bodyInvalidStump).2.2.1 (headOf bodyInvalidStump).2.2.2.1 (headOf bodyInvalidStump).2.2.2.2.1 (headOf bodyInvalidStump).2.2.2.2.2 [zInvalidStump0] := rfl
theorem scInvalidStump : SupX.SupScope (defScope s_InvalidStump) [zInvalidStump0] := ⟨rfl, rfl, rfl, by decide +kernel, rfl, rfl, rfl, fun z hz => by
  rw [List.mem_singleton.mp hz]; exact ⟨rfl, by decide +kernel⟩, by decide +kernel⟩
theorem ppInvalidStump (fI : Addr) : SupX.SupPos "InvalidStump.__init__" (defScope s_InvalidStump) fI (headOf bodyInvalidStump).1 (headOf bodyInvalidStump).2.1 (headOf bodyInvalidStump).2.2.1 (headOf bodyInvalidStump).2.2.2.1 (headOf bodyInvalidStump).2.2.2.2.1 (headOf bodyInvalidStump).2.2.2.2.2 := ⟨fun _ _ _ => ⟨_, rfl⟩, fun _ _ _ => rfl, fun _ _ _ => rfl⟩
def bodyUnknownKind : List Stmt := defBody s_UnknownKind
def zUnknownKind0 : SupX.StP := stpOf (bodyUnknownKind.getD 1 (.Pass q0))
theorem eUnknownKind : defBody s_UnknownKind = SupX.iB (headOf bodyUnknownKind).1 (headOf bodyUnknownKind).2.1 (headOf bodyUnknownKind).2.2.1 (headOf bodyUnknownKind).2.2.2.1 (headOf bodyUnknownKind).2.2.2.2.1 (headOf bodyUnknownKind).2.2.2.2.2 [zUnknownKind0] := rfl
theorem scUnknownKind : SupX.SupScope (defScope s_UnknownKind) [zUnknownKind0] := ⟨rfl, rfl, rfl, by decide +kernel, rfl, rfl, rfl, fun z hz => by
  rw [List.mem_singleton.mp hz]; exact ⟨rfl, by decide +kernel⟩, by decide +kernel⟩
theorem ppUnknownKind (fI : Addr) : SupX.SupPos "UnknownKind.__init__" (defScope s_UnknownKind) fI (headOf bodyUnknownKind).1 (headOf bodyUnknownKind).2.1 (headOf bodyUnknownKind).2.2.1 (headOf bodyUnknownKind).2.2.2.1 (headOf bodyUnknownKind).2.2.2.2.1 (headOf bodyUnknownKind).2.2.2.2.2 := ⟨fun _ _ _ => ⟨_, rfl⟩, fun _ _ _ => rfl, fun _ _ _ => rfl⟩
def bodyWrongBranches : List Stmt := defBody s_WrongBranches
def zWrongBranches0 : SupX.StP := stpOf (bodyWrongBranches.getD 1 (.Pass q0))
def zWrongBranches1 : SupX.StP := stpOf (bodyWrongBranches.getD 2 (.Pass q0))
theorem eWrongBranches : defBody s_WrongBranches = SupX.iB (headOf bodyWrongBranches).1 (headOf bodyWrongBranches).2.1 (headOf bodyWrongBranches).2.2.1 (headOf bodyWrongBranches).2.2.2.1 (headOf bodyWrongBranches).2.2.2.2.1 (headOf bodyWrongBranches).2.2.2.2.2 [zWrongBranches0, zWrongBranches1] := rfl
theorem scWrongBranches : SupX.SupScope (defScope s_WrongBranches) [zWrongBranches0, zWrongBranches1] := ⟨rfl, rfl, rfl, by decide +kernel, rfl, rfl, rfl, fun z hz => by
  rcases List.mem_cons.mp hz with h | h
  · rw [h]; exact ⟨rfl, by decide +kernel⟩
  · rw [List.mem_singleton.mp h]; exact ⟨rfl, by decide +kernel⟩, by decide +kernel⟩
theorem ppWrongBranches (fI : Addr) : SupX.SupPos "WrongBranches.__init__" (defScope s_WrongBranches) fI (headOf bodyWrongBranches).1 (headOf bodyWrongBranches).2.1 (headOf bodyWrongBranches).2.2.1 (headOf bodyWrongBranches).2.2.2.1 (headOf bodyWrongBranches).2.2.2.2.1 (headOf bodyWrongBranches).2.2.2.2.2 := ⟨fun _ _ _ => ⟨_, rfl⟩, fun _ _ _ => rfl, fun _ _ _ => rfl⟩
section
variable {w : World} {K : PySem.W.Frag} {mg : Str → Option Value}
theorem msg_TooMany {prog : Program} {x L fI : Addr} {cda cc : Addr} {vs : List V} {us : List Value} (rv : Vals vs us) (hP : tmP vs) : SupX.MsgOk prog w (PySem.W.ksEnv "TooMany.__init__" (defScope s_TooMany) L fI (.ref cda) cc) (fun y => (((("self" : Str) :: [zTooMany0, zTooMany1].map (·.f)).zip (.ref x :: us)).reverse).lookup y) (headOf bodyTooMany).1 := by
  subst hP
  obtain ⟨u1, u2, rfl, ⟨t1, rfl⟩, ⟨t2, rfl⟩⟩ := vals2 rv
  intro A E s Q hn hq
  have e1 : (((("self" : Str) :: [zTooMany0, zTooMany1].map (·.f)).zip [Value.ref x, .str "knots" t1, .int 2000 t2]).reverse).lookup ("what" : Str) = some (.str "knots" t1) := rfl
  have e2 : (((("self" : Str) :: [zTooMany0, zTooMany1].map (·.f)).zip [Value.ref x, .str "knots" t1, .int 2000 t2]).reverse).lookup ("limit" : Str) = some (.int 2000 t2) := rfl
  show wpAny _ _ (eval (.JoinedStr [.Constant (.str "too many ") _ _, .FormattedValue (.Name "what" _) (-1) none _, .Constant (.str ": the limit is ") _ _, .FormattedValue (.Name "limit" _) (-1) none _] _) _) Q E s
  refine wpAny_JoinedStr ?_
  refine wpAny_Constant_str ⟨_, _, rfl, le_line (by decide +kernel), ?_⟩
  refine wpAny_FormattedValue_plain (SupX.ldK hn e1 ?_ rfl rfl (by decide +kernel))
  refine wpAny_formatField_str ⟨_, _, rfl, le_line (by decide +kernel), ?_⟩ ⟨_, _, rfl, le_line (by decide +kernel), ?_⟩ (le_line (by decide +kernel))
  all_goals
    refine wpAny_Constant_str ⟨_, _, rfl, le_line (by decide +kernel), ?_⟩
    refine wpAny_FormattedValue_plain (SupX.ldK hn e2 ?_ rfl rfl (by decide +kernel))
    refine wpAny_formatField_int (by decide +kernel) ⟨_, _, rfl, le_line (by decide +kernel), ?_⟩
    exact ⟨le_line (by decide +kernel), hq _ _⟩
theorem msg_InvalidStump {prog : Program} {x L fI : Addr} {cda cc : Addr} {vs : List V} {us : List Value} (rv : Vals vs us) (hP : plP vs) : SupX.MsgOk prog w (PySem.W.ksEnv "InvalidStump.__init__" (defScope s_InvalidStump) L fI (.ref cda) cc) (fun y => (((("self" : Str) :: [zInvalidStump0].map (·.f)).zip (.ref x :: us)).reverse).lookup y) (headOf bodyInvalidStump).1 := by
  obtain ⟨i, rfl, hi⟩ := hP
  obtain ⟨u1, rfl, ⟨t1, rfl⟩⟩ := vals1 rv
  intro A E s Q hn hq
  have e1 : (((("self" : Str) :: [zInvalidStump0].map (·.f)).zip [Value.ref x, .int ((i : Nat) : Int) t1]).reverse).lookup ("place" : Str) = some (.int ((i : Nat) : Int) t1) := rfl
  show wpAny _ _ (eval (.JoinedStr [.Constant (.str "invalid stump at ") _ _, .FormattedValue (.Name "place" _) (-1) none _] _) _) Q E s
  refine wpAny_JoinedStr ?_
  refine wpAny_Constant_str ⟨_, _, rfl, le_line (by decide +kernel), ?_⟩
  refine wpAny_FormattedValue_plain (SupX.ldK hn e1 ?_ rfl rfl (by decide +kernel))
  have hl := acc_le (x := Str.empty ++ ("invalid stump at " : Str)) (n := 17) (by decide +kernel) (len_i hi) (by decide)
  refine wpAny_formatField_int (log_i hi) ⟨_, _, rfl, hl, ?_⟩
  exact ⟨hl, hq _ _⟩
theorem msg_UnknownKind {prog : Program} {x L fI : Addr} {cda cc : Addr} {vs : List V} {us : List Value} (rv : Vals vs us) (hP : ukP vs) : SupX.MsgOk prog w (PySem.W.ksEnv "UnknownKind.__init__" (defScope s_UnknownKind) L fI (.ref cda) cc) (fun y => (((("self" : Str) :: [zUnknownKind0].map (·.f)).zip (.ref x :: us)).reverse).lookup y) (headOf bodyUnknownKind).1 := by
  obtain ⟨z, rfl, hz, hc⟩ := hP
  obtain ⟨u1, rfl, ⟨t1, rfl⟩⟩ := vals1 rv
  intro A E s Q hn hq
  have e1 : (((("self" : Str) :: [zUnknownKind0].map (·.f)).zip [Value.ref x, .str z t1]).reverse).lookup ("kind" : Str) = some (.str z t1) := rfl
  have hr : (reprText z).length ≤ 1002 := by have := StrLaws.reprText_len z hc; omega
  show wpAny _ _ (eval (.JoinedStr [.Constant (.str "unknown kind: ") _ _, .FormattedValue (.Name "kind" _) 114 none _] _) _) Q E s
  refine wpAny_JoinedStr ?_
  refine wpAny_Constant_str ⟨_, _, rfl, le_line (by decide +kernel), ?_⟩
  refine wpAny_FormattedValue_repr (SupX.ldK hn e1 ?_ rfl rfl (by decide +kernel))
  have hl := acc_le (x := Str.empty ++ ("unknown kind: " : Str)) (n := 14) (by decide +kernel) hr (by decide)
  refine pyReprObj_str ?_ (le_line (by omega))
  refine wpAny_formatField_str ⟨_, _, rfl, hl, ?_⟩ ⟨_, _, rfl, hl, ?_⟩ (le_line (by omega))
  all_goals exact ⟨hl, hq _ _⟩
theorem msg_WrongBranches {prog : Program} {x L fI : Addr} {cda cc : Addr} {vs : List V} {us : List Value} (rv : Vals vs us) (hP : wrP vs) : SupX.MsgOk prog w (PySem.W.ksEnv "WrongBranches.__init__" (defScope s_WrongBranches) L fI (.ref cda) cc) (fun y => (((("self" : Str) :: [zWrongBranches0, zWrongBranches1].map (·.f)).zip (.ref x :: us)).reverse).lookup y) (headOf bodyWrongBranches).1 := by
  obtain ⟨i, j, rfl, hi, hj⟩ := hP
  obtain ⟨u1, u2, rfl, ⟨t1, rfl⟩, ⟨t2, rfl⟩⟩ := vals2 rv
  intro A E s Q hn hq
  have e1 : (((("self" : Str) :: [zWrongBranches0, zWrongBranches1].map (·.f)).zip [Value.ref x, .int ((i : Nat) : Int) t1, .int ((j : Nat) : Int) t2]).reverse).lookup ("wanted" : Str) = some (.int ((i : Nat) : Int) t1) := rfl
  have e2 : (((("self" : Str) :: [zWrongBranches0, zWrongBranches1].map (·.f)).zip [Value.ref x, .int ((i : Nat) : Int) t1, .int ((j : Nat) : Int) t2]).reverse).lookup ("given" : Str) = some (.int ((j : Nat) : Int) t2) := rfl
  show wpAny _ _ (eval (.JoinedStr [.FormattedValue (.Name "wanted" _) (-1) none _, .Constant (.str " wanted, ") _ _, .FormattedValue (.Name "given" _) (-1) none _, .Constant (.str " given") _ _] _) _) Q E s
  have a1 := acc_n (x := Str.empty) (n := 0) (by decide +kernel) (len_i hi)
  have a2 := acc_n a1 (show (" wanted, " : Str).length ≤ 9 by decide +kernel)
  have a3 := acc_n a2 (len_i hj)
  have a4 := acc_n a3 (show (" given" : Str).length ≤ 6 by decide +kernel)
  refine wpAny_JoinedStr ?_
  refine wpAny_FormattedValue_plain (SupX.ldK hn e1 ?_ rfl rfl (by decide +kernel))
  refine wpAny_formatField_int (log_i hi) ⟨_, _, rfl, le_line (by omega), ?_⟩
  refine wpAny_Constant_str ⟨_, _, rfl, le_line (by omega), ?_⟩
  refine wpAny_FormattedValue_plain (SupX.ldK hn e2 ?_ rfl rfl (by decide +kernel))
  refine wpAny_formatField_int (log_i hj) ⟨_, _, rfl, le_line (by omega), ?_⟩
  refine wpAny_Constant_str ⟨_, _, rfl, le_line (by omega), ?_⟩
  exact ⟨le_line (by omega), hq _ _⟩
theorem sup_TooMany {h : Heap} (X : K.In h) (G : h.Ns mainGlobals mg) (gs : mg "super" = none) (F : Hx.XFacts TL.prog K xTooMany [zTooMany0, zTooMany1]) : PySem.SupX.SupCls TL.prog w K mg "TooMany" (He.ga K "TooMany") ["what", "limit"] tmP := by
  have T := F.txt
  have T2 : SupX.SupTxt TL.prog K (He.ga K "TooMany") (Hx.iOf K "TooMany") "TooMany.__init__" (defArgs s_TooMany) (SupX.iB (headOf bodyTooMany).1 (headOf bodyTooMany).2.1 (headOf bodyTooMany).2.2.1 (headOf bodyTooMany).2.2.2.1 (headOf bodyTooMany).2.2.2.2.1 (headOf bodyTooMany).2.2.2.2.2 [zTooMany0, zTooMany1]) (defScope s_TooMany) [zTooMany0, zTooMany1] := by
    rw [← eTooMany]
    exact T
  refine ⟨PySem.W.mg_of X G F.gl, gs, T.kC, T.exC, T.tyC, fun A s R mb vs us rv hP hl K1 hlim hG hB hbs hroom hq => ?_⟩
  exact SupX.sup_made (ppTooMany _) T2 scTooMany (by decide +kernel) ⟨_, rfl, rfl⟩ (fun _ _ _ _ _ _ _ us hu => match us, hu with | [_, _, _], _ => rfl) K1 hlim hG gs hB hbs (by rw [← rv.length, hl]; rfl) hroom (by decide) (fun x L cda cc => msg_TooMany rv hP) hq
theorem sup_InvalidStump {h : Heap} (X : K.In h) (G : h.Ns mainGlobals mg) (gs : mg "super" = none) (F : Hx.XFacts TL.prog K xInvalidStump [zInvalidStump0]) : PySem.SupX.SupCls TL.prog w K mg "InvalidStump" (He.ga K "InvalidStump") ["place"] plP := by
  have T := F.txt
  have T2 : SupX.SupTxt TL.prog K (He.ga K "InvalidStump") (Hx.iOf K "InvalidStump") "InvalidStump.__init__" (defArgs s_InvalidStump) (SupX.iB (headOf bodyInvalidStump).1 (headOf bodyInvalidStump).2.1 (headOf bodyInvalidStump).2.2.1 (headOf bodyInvalidStump).2.2.2.1 (headOf bodyInvalidStump).2.2.2.2.1 (headOf bodyInvalidStump).2.2.2.2.2 [zInvalidStump0]) (defScope s_InvalidStump) [zInvalidStump0] := by
    rw [← eInvalidStump]
    exact T
  refine ⟨PySem.W.mg_of X G F.gl, gs, T.kC, T.exC, T.tyC, fun A s R mb vs us rv hP hl K1 hlim hG hB hbs hroom hq => ?_⟩
  exact SupX.sup_made (ppInvalidStump _) T2 scInvalidStump (by decide +kernel) ⟨_, rfl, rfl⟩ (fun _ _ _ _ _ _ _ us hu => match us, hu with | [_, _], _ => rfl) K1 hlim hG gs hB hbs (by rw [← rv.length, hl]; rfl) hroom (by decide) (fun x L cda cc => msg_InvalidStump rv hP) hq
theorem sup_UnknownKind {h : Heap} (X : K.In h) (G : h.Ns mainGlobals mg) (gs : mg "super" = none) (F : Hx.XFacts TL.prog K xUnknownKind [zUnknownKind0]) : PySem.SupX.SupCls TL.prog w K mg "UnknownKind" (He.ga K "UnknownKind") ["kind"] ukP := by
  have T := F.txt
  have T2 : SupX.SupTxt TL.prog K (He.ga K "UnknownKind") (Hx.iOf K "UnknownKind") "UnknownKind.__init__" (defArgs s_UnknownKind) (SupX.iB (headOf bodyUnknownKind).1 (headOf bodyUnknownKind).2.1 (headOf bodyUnknownKind).2.2.1 (headOf bodyUnknownKind).2.2.2.1 (headOf bodyUnknownKind).2.2.2.2.1 (headOf bodyUnknownKind).2.2.2.2.2 [zUnknownKind0]) (defScope s_UnknownKind) [zUnknownKind0] := by
    rw [← eUnknownKind]
    exact T
  refine ⟨PySem.W.mg_of X G F.gl, gs, T.kC, T.exC, T.tyC, fun A s R mb vs us rv hP hl K1 hlim hG hB hbs hroom hq => ?_⟩
  exact SupX.sup_made (ppUnknownKind _) T2 scUnknownKind (by decide +kernel) ⟨_, rfl, rfl⟩ (fun _ _ _ _ _ _ _ us hu => match us, hu with | [_, _], _ => rfl) K1 hlim hG gs hB hbs (by rw [← rv.length, hl]; rfl) hroom (by decide) (fun x L cda cc => msg_UnknownKind rv hP) hq
theorem sup_WrongBranches {h : Heap} (X : K.In h) (G : h.Ns mainGlobals mg) (gs : mg "super" = none) (F : Hx.XFacts TL.prog K xWrongBranches [zWrongBranches0, zWrongBranches1]) : PySem.SupX.SupCls TL.prog w K mg "WrongBranches" (He.ga K "WrongBranches") ["wanted", "given"] wrP := by
  have T := F.txt
  have T2 : SupX.SupTxt TL.prog K (He.ga K "WrongBranches") (Hx.iOf K "WrongBranches") "WrongBranches.__init__" (defArgs s_WrongBranches) (SupX.iB (headOf bodyWrongBranches).1 (headOf bodyWrongBranches).2.1 (headOf bodyWrongBranches).2.2.1 (headOf bodyWrongBranches).2.2.2.1 (headOf bodyWrongBranches).2.2.2.2.1 (headOf bodyWrongBranches).2.2.2.2.2 [zWrongBranches0, zWrongBranches1]) (defScope s_WrongBranches) [zWrongBranches0, zWrongBranches1] := by
    rw [← eWrongBranches]
    exact T
  refine ⟨PySem.W.mg_of X G F.gl, gs, T.kC, T.exC, T.tyC, fun A s R mb vs us rv hP hl K1 hlim hG hB hbs hroom hq => ?_⟩
  exact SupX.sup_made (ppWrongBranches _) T2 scWrongBranches (by decide +kernel) ⟨_, rfl, rfl⟩ (fun _ _ _ _ _ _ _ us hu => match us, hu with | [_, _, _], _ => rfl) K1 hlim hG gs hB hbs (by rw [← rv.length, hl]; rfl) hroom (by decide) (fun x L cda cc => msg_WrongBranches rv hP) hq
end
end Sh
end
section
set_option Elab.async false
set_option linter.all false
set_option maxRecDepth 100000
set_option maxHeartbeats 4000000
set_option autoImplicit false
namespace Sh
open PySem PySem.Spec PyProof.Rows L2
theorem ob_eq (s : PySem.W.SharedT) : ob s = hk.obs s.abs := Hx.obsY_eq (HandSHeadRun.getT_eq s)
def AK (K : PySem.W.Frag) : XA := ⟨He.ga K "TooMany", He.ga K "InvalidPlant", He.ga K "InvalidStump", He.ga K "NoPath", He.ga K "UnknownKind", He.ga K "WrongBranches"⟩
theorem facts {w : World} {K : PySem.W.Frag} {h : Heap} {mg : Str → Option Value} {f : Addr} (X : K.In h) (G : h.Ns mainGlobals mg) (hfa : mg ("law" : Str) = some (.ref f)) (c : He.SaysD fa fn K) (x1 : (xs.all fun d => d.ok TL.prog.main.file K) = true) (x2 : (xs.map fun d => Hx.xvOf K d.x) = xs.map Hx.XDef.val) (x3 : (nsX.all fun x => Hx.yB K "YardError" nsX x) = true) :
    ∃ fd : FuncData, (∀ (s : Shared) (v : Value), BindsTo s fd ⟨[v], []⟩ [("script", v)]) ∧ ∀ base : Heap, K.In base → base.Ns mainGlobals mg → FnOk TL.prog w K mg base CX0 11 f fd ["script"] (spLaw K) := by
  have D_check_size : Def0 K mg "check_size" s_check_size := by
    obtain ⟨fd, F⟩ := c.def_ 0 (d := dOf "check_size" s_check_size) rfl
    exact ⟨_, fd, He.glo_ok X G (c.fact 0 (f := .glo "check_size") rfl), F⟩
  have D_fault_place : Def0 K mg "fault_place" s_fault_place := by
    obtain ⟨fd, F⟩ := c.def_ 1 (d := dOf "fault_place" s_fault_place) rfl
    exact ⟨_, fd, He.glo_ok X G (c.fact 1 (f := .glo "fault_place") rfl), F⟩
  have D_ends_of : Def0 K mg "ends_of" s_ends_of := by
    obtain ⟨fd, F⟩ := c.def_ 2 (d := dOf "ends_of" s_ends_of) rfl
    exact ⟨_, fd, He.glo_ok X G (c.fact 2 (f := .glo "ends_of") rfl), F⟩
  have D_paths_of : Def0 K mg "paths_of" s_paths_of := by
    obtain ⟨fd, F⟩ := c.def_ 3 (d := dOf "paths_of" s_paths_of) rfl
    exact ⟨_, fd, He.glo_ok X G (c.fact 3 (f := .glo "paths_of") rfl), F⟩
  have D_check_stump : Def0 K mg "check_stump" s_check_stump := by
    obtain ⟨fd, F⟩ := c.def_ 4 (d := dOf "check_stump" s_check_stump) rfl
    exact ⟨_, fd, He.glo_ok X G (c.fact 4 (f := .glo "check_stump") rfl), F⟩
  have D_check_stumps : Def0 K mg "check_stumps" s_check_stumps := by
    obtain ⟨fd, F⟩ := c.def_ 5 (d := dOf "check_stumps" s_check_stumps) rfl
    exact ⟨_, fd, He.glo_ok X G (c.fact 5 (f := .glo "check_stumps") rfl), F⟩
  have D_stump_key : Def0 K mg "stump_key" s_stump_key := by
    obtain ⟨fd, F⟩ := c.def_ 6 (d := dOf "stump_key" s_stump_key) rfl
    exact ⟨_, fd, He.glo_ok X G (c.fact 6 (f := .glo "stump_key") rfl), F⟩
  have D_holes : Def0 K mg "holes" s_holes := by
    obtain ⟨fd, F⟩ := c.def_ 7 (d := dOf "holes" s_holes) rfl
    exact ⟨_, fd, He.glo_ok X G (c.fact 7 (f := .glo "holes") rfl), F⟩
  have D_filled : Def0 K mg "filled" s_filled := by
    obtain ⟨fd, F⟩ := c.def_ 8 (d := dOf "filled" s_filled) rfl
    exact ⟨_, fd, He.glo_ok X G (c.fact 8 (f := .glo "filled") rfl), F⟩
  have D_filled_holes : Def0 K mg "filled_holes" s_filled_holes := by
    obtain ⟨fd, F⟩ := c.def_ 9 (d := dOf "filled_holes" s_filled_holes) rfl
    exact ⟨_, fd, He.glo_ok X G (c.fact 9 (f := .glo "filled_holes") rfl), F⟩
  have D_begins : Def0 K mg "begins" s_begins := by
    obtain ⟨fd, F⟩ := c.def_ 10 (d := dOf "begins" s_begins) rfl
    exact ⟨_, fd, He.glo_ok X G (c.fact 10 (f := .glo "begins") rfl), F⟩
  have D_parts : Def0 K mg "parts" s_parts := by
    obtain ⟨fd, F⟩ := c.def_ 11 (d := dOf "parts" s_parts) rfl
    exact ⟨_, fd, He.glo_ok X G (c.fact 11 (f := .glo "parts") rfl), F⟩
  have D_parts_in : Def0 K mg "parts_in" s_parts_in := by
    obtain ⟨fd, F⟩ := c.def_ 12 (d := dOf "parts_in" s_parts_in) rfl
    exact ⟨_, fd, He.glo_ok X G (c.fact 12 (f := .glo "parts_in") rfl), F⟩
  have D_parts_from : Def0 K mg "parts_from" s_parts_from := by
    obtain ⟨fd, F⟩ := c.def_ 13 (d := dOf "parts_from" s_parts_from) rfl
    exact ⟨_, fd, He.glo_ok X G (c.fact 13 (f := .glo "parts_from") rfl), F⟩
  have D_common : Def0 K mg "common" s_common := by
    obtain ⟨fd, F⟩ := c.def_ 14 (d := dOf "common" s_common) rfl
    exact ⟨_, fd, He.glo_ok X G (c.fact 14 (f := .glo "common") rfl), F⟩
  have D_shared_stump : Def0 K mg "shared_stump" s_shared_stump := by
    obtain ⟨fd, F⟩ := c.def_ 15 (d := dOf "shared_stump" s_shared_stump) rfl
    exact ⟨_, fd, He.glo_ok X G (c.fact 15 (f := .glo "shared_stump") rfl), F⟩
  have D_compared : Def0 K mg "compared" s_compared := by
    obtain ⟨fd, F⟩ := c.def_ 16 (d := dOf "compared" s_compared) rfl
    exact ⟨_, fd, He.glo_ok X G (c.fact 16 (f := .glo "compared") rfl), F⟩
  have D_united : Def0 K mg "united" s_united := by
    obtain ⟨fd, F⟩ := c.def_ 17 (d := dOf "united" s_united) rfl
    exact ⟨_, fd, He.glo_ok X G (c.fact 17 (f := .glo "united") rfl), F⟩
  have D_union_of : Def0 K mg "union_of" s_union_of := by
    obtain ⟨fd, F⟩ := c.def_ 18 (d := dOf "union_of" s_union_of) rfl
    exact ⟨_, fd, He.glo_ok X G (c.fact 18 (f := .glo "union_of") rfl), F⟩
  have D_all_letters : Def0 K mg "all_letters" s_all_letters := by
    obtain ⟨fd, F⟩ := c.def_ 19 (d := dOf "all_letters" s_all_letters) rfl
    exact ⟨_, fd, He.glo_ok X G (c.fact 19 (f := .glo "all_letters") rfl), F⟩
  have D_is_name : Def0 K mg "is_name" s_is_name := by
    obtain ⟨fd, F⟩ := c.def_ 20 (d := dOf "is_name" s_is_name) rfl
    exact ⟨_, fd, He.glo_ok X G (c.fact 20 (f := .glo "is_name") rfl), F⟩
  have D_check_pairs : Def0 K mg "check_pairs" s_check_pairs := by
    obtain ⟨fd, F⟩ := c.def_ 21 (d := dOf "check_pairs" s_check_pairs) rfl
    exact ⟨_, fd, He.glo_ok X G (c.fact 21 (f := .glo "check_pairs") rfl), F⟩
  have D__law_bag : Def0 K mg "_law_bag" s_law_bag := by
    obtain ⟨fd, F⟩ := c.def_ 22 (d := dOf "_law_bag" s_law_bag) rfl
    exact ⟨_, fd, He.glo_ok X G (c.fact 22 (f := .glo "_law_bag") rfl), F⟩
  have D__law_draw : Def0 K mg "_law_draw" s_law_draw := by
    obtain ⟨fd, F⟩ := c.def_ 23 (d := dOf "_law_draw" s_law_draw) rfl
    exact ⟨_, fd, He.glo_ok X G (c.fact 23 (f := .glo "_law_draw") rfl), F⟩
  have D__law_word : Def0 K mg "_law_word" s_law_word := by
    obtain ⟨fd, F⟩ := c.def_ 24 (d := dOf "_law_word" s_law_word) rfl
    exact ⟨_, fd, He.glo_ok X G (c.fact 24 (f := .glo "_law_word") rfl), F⟩
  have D__law_name : Def0 K mg "_law_name" s_law_name := by
    obtain ⟨fd, F⟩ := c.def_ 25 (d := dOf "_law_name" s_law_name) rfl
    exact ⟨_, fd, He.glo_ok X G (c.fact 25 (f := .glo "_law_name") rfl), F⟩
  have D__law_rows : Def0 K mg "_law_rows" s_law_rows := by
    obtain ⟨fd, F⟩ := c.def_ 26 (d := dOf "_law_rows" s_law_rows) rfl
    exact ⟨_, fd, He.glo_ok X G (c.fact 26 (f := .glo "_law_rows") rfl), F⟩
  have D__law_bed : Def0 K mg "_law_bed" s_law_bed := by
    obtain ⟨fd, F⟩ := c.def_ 27 (d := dOf "_law_bed" s_law_bed) rfl
    exact ⟨_, fd, He.glo_ok X G (c.fact 27 (f := .glo "_law_bed") rfl), F⟩
  have D__law_number : Def0 K mg "_law_number" s_law_number := by
    obtain ⟨fd, F⟩ := c.def_ 28 (d := dOf "_law_number" s_law_number) rfl
    exact ⟨_, fd, He.glo_ok X G (c.fact 28 (f := .glo "_law_number") rfl), F⟩
  have D__law_plant : Def0 K mg "_law_plant" s_law_plant := by
    obtain ⟨fd, F⟩ := c.def_ 29 (d := dOf "_law_plant" s_law_plant) rfl
    exact ⟨_, fd, He.glo_ok X G (c.fact 29 (f := .glo "_law_plant") rfl), F⟩
  have D__law_ends : Def0 K mg "_law_ends" s_law_ends := by
    obtain ⟨fd, F⟩ := c.def_ 30 (d := dOf "_law_ends" s_law_ends) rfl
    exact ⟨_, fd, He.glo_ok X G (c.fact 30 (f := .glo "_law_ends") rfl), F⟩
  have D__law_fault : Def0 K mg "_law_fault" s_law_fault := by
    obtain ⟨fd, F⟩ := c.def_ 31 (d := dOf "_law_fault" s_law_fault) rfl
    exact ⟨_, fd, He.glo_ok X G (c.fact 31 (f := .glo "_law_fault") rfl), F⟩
  have D__law_same : Def0 K mg "_law_same" s_law_same := by
    obtain ⟨fd, F⟩ := c.def_ 32 (d := dOf "_law_same" s_law_same) rfl
    exact ⟨_, fd, He.glo_ok X G (c.fact 32 (f := .glo "_law_same") rfl), F⟩
  have D__law_stump : Def0 K mg "_law_stump" s_law_stump := by
    obtain ⟨fd, F⟩ := c.def_ 33 (d := dOf "_law_stump" s_law_stump) rfl
    exact ⟨_, fd, He.glo_ok X G (c.fact 33 (f := .glo "_law_stump") rfl), F⟩
  have D__law_paths : Def0 K mg "_law_paths" s_law_paths := by
    obtain ⟨fd, F⟩ := c.def_ 34 (d := dOf "_law_paths" s_law_paths) rfl
    exact ⟨_, fd, He.glo_ok X G (c.fact 34 (f := .glo "_law_paths") rfl), F⟩
  have D__law_kinds : Def0 K mg "_law_kinds" s_law_kinds := by
    obtain ⟨fd, F⟩ := c.def_ 35 (d := dOf "_law_kinds" s_law_kinds) rfl
    exact ⟨_, fd, He.glo_ok X G (c.fact 35 (f := .glo "_law_kinds") rfl), F⟩
  have D__law_is_begun : Def0 K mg "_law_is_begun" s_law_is_begun := by
    obtain ⟨fd, F⟩ := c.def_ 36 (d := dOf "_law_is_begun" s_law_is_begun) rfl
    exact ⟨_, fd, He.glo_ok X G (c.fact 36 (f := .glo "_law_is_begun") rfl), F⟩
  have D__law_hole_paths : Def0 K mg "_law_hole_paths" s_law_hole_paths := by
    obtain ⟨fd, F⟩ := c.def_ 37 (d := dOf "_law_hole_paths" s_law_hole_paths) rfl
    exact ⟨_, fd, He.glo_ok X G (c.fact 37 (f := .glo "_law_hole_paths") rfl), F⟩
  have D__law_branches_at : Def0 K mg "_law_branches_at" s_law_branches_at := by
    obtain ⟨fd, F⟩ := c.def_ 38 (d := dOf "_law_branches_at" s_law_branches_at) rfl
    exact ⟨_, fd, He.glo_ok X G (c.fact 38 (f := .glo "_law_branches_at") rfl), F⟩
  have D__law_cut_down : Def0 K mg "_law_cut_down" s_law_cut_down := by
    obtain ⟨fd, F⟩ := c.def_ 39 (d := dOf "_law_cut_down" s_law_cut_down) rfl
    exact ⟨_, fd, He.glo_ok X G (c.fact 39 (f := .glo "_law_cut_down") rfl), F⟩
  have D__law_pieces : Def0 K mg "_law_pieces" s_law_pieces := by
    obtain ⟨fd, F⟩ := c.def_ 40 (d := dOf "_law_pieces" s_law_pieces) rfl
    exact ⟨_, fd, He.glo_ok X G (c.fact 40 (f := .glo "_law_pieces") rfl), F⟩
  have D__law_with_pieces : Def0 K mg "_law_with_pieces" s_law_with_pieces := by
    obtain ⟨fd, F⟩ := c.def_ 41 (d := dOf "_law_with_pieces" s_law_with_pieces) rfl
    exact ⟨_, fd, He.glo_ok X G (c.fact 41 (f := .glo "_law_with_pieces") rfl), F⟩
  have D__law_related : Def0 K mg "_law_related" s_law_related := by
    obtain ⟨fd, F⟩ := c.def_ 42 (d := dOf "_law_related" s_law_related) rfl
    exact ⟨_, fd, He.glo_ok X G (c.fact 42 (f := .glo "_law_related") rfl), F⟩
  have D__law_filled : Def0 K mg "_law_filled" s_law_filled := by
    obtain ⟨fd, F⟩ := c.def_ 43 (d := dOf "_law_filled" s_law_filled) rfl
    exact ⟨_, fd, He.glo_ok X G (c.fact 43 (f := .glo "_law_filled") rfl), F⟩
  have D__law_common : Def0 K mg "_law_common" s_law_common := by
    obtain ⟨fd, F⟩ := c.def_ 44 (d := dOf "_law_common" s_law_common) rfl
    exact ⟨_, fd, He.glo_ok X G (c.fact 44 (f := .glo "_law_common") rfl), F⟩
  have D__law_common_right : Def0 K mg "_law_common_right" s_law_common_right := by
    obtain ⟨fd, F⟩ := c.def_ 45 (d := dOf "_law_common_right" s_law_common_right) rfl
    exact ⟨_, fd, He.glo_ok X G (c.fact 45 (f := .glo "_law_common_right") rfl), F⟩
  have D__law_united_right : Def0 K mg "_law_united_right" s_law_united_right := by
    obtain ⟨fd, F⟩ := c.def_ 46 (d := dOf "_law_united_right" s_law_united_right) rfl
    exact ⟨_, fd, He.glo_ok X G (c.fact 46 (f := .glo "_law_united_right") rfl), F⟩
  have D__law_pair_right : Def0 K mg "_law_pair_right" s_law_pair_right := by
    obtain ⟨fd, F⟩ := c.def_ 47 (d := dOf "_law_pair_right" s_law_pair_right) rfl
    exact ⟨_, fd, He.glo_ok X G (c.fact 47 (f := .glo "_law_pair_right") rfl), F⟩
  have D__law_alone_right : Def0 K mg "_law_alone_right" s_law_alone_right := by
    obtain ⟨fd, F⟩ := c.def_ 48 (d := dOf "_law_alone_right" s_law_alone_right) rfl
    exact ⟨_, fd, He.glo_ok X G (c.fact 48 (f := .glo "_law_alone_right") rfl), F⟩
  have D__law_fill_right : Def0 K mg "_law_fill_right" s_law_fill_right := by
    obtain ⟨fd, F⟩ := c.def_ 49 (d := dOf "_law_fill_right" s_law_fill_right) rfl
    exact ⟨_, fd, He.glo_ok X G (c.fact 49 (f := .glo "_law_fill_right") rfl), F⟩
  have D__law_short_right : Def0 K mg "_law_short_right" s_law_short_right := by
    obtain ⟨fd, F⟩ := c.def_ 50 (d := dOf "_law_short_right" s_law_short_right) rfl
    exact ⟨_, fd, He.glo_ok X G (c.fact 50 (f := .glo "_law_short_right") rfl), F⟩
  have D__law_long_met : Def0 K mg "_law_long_met" s_law_long_met := by
    obtain ⟨fd, F⟩ := c.def_ 51 (d := dOf "_law_long_met" s_law_long_met) rfl
    exact ⟨_, fd, He.glo_ok X G (c.fact 51 (f := .glo "_law_long_met") rfl), F⟩
  have D__law_long_right : Def0 K mg "_law_long_right" s_law_long_right := by
    obtain ⟨fd, F⟩ := c.def_ 52 (d := dOf "_law_long_right" s_law_long_right) rfl
    exact ⟨_, fd, He.glo_ok X G (c.fact 52 (f := .glo "_law_long_right") rfl), F⟩
  obtain ⟨fdL, F_law⟩ := c.def_ 53 (d := dOf "law" s_law) rfl
  have e := hfa.symm.trans (He.glo_ok X G (c.fact 53 (f := .glo "law") rfl))
  cases e
  have bnd := FunD.bindsA (ps := ["script"]) F_law fun _ _ _ _ _ _ us hl => match us, hl with | [_], _ => rfl
  have T0 : Bl mg := ⟨He.free_ok X G (c.fact 62 (f := .free "len") rfl), He.free_ok X G (c.fact 63 (f := .free "range") rfl), He.free_ok X G (c.fact 64 (f := .free "abs") rfl), He.free_ok X G (c.fact 65 (f := .free "int") rfl), He.free_ok X G (c.fact 66 (f := .free "max") rfl), He.free_ok X G (c.fact 67 (f := .free "all") rfl), He.free_ok X G (c.fact 68 (f := .free "isinstance") rfl), He.free_ok X G (c.fact 69 (f := .free "set") rfl), He.free_ok X G (c.fact 70 (f := .free "list") rfl), He.free_ok X G (c.fact 71 (f := .free "tuple") rfl), He.free_ok X G (c.fact 72 (f := .free "bool") rfl), He.free_ok X G (c.fact 73 (f := .free "str") rfl), He.free_ok X G (c.fact 74 (f := .free "enumerate") rfl), He.int_ok X G (c.fact 76 (f := .int "MOST_KINDS" 8) rfl), He.int_ok X G (c.fact 77 (f := .int "MOST_BRANCHES" 3) rfl), He.int_ok X G (c.fact 78 (f := .int "MOST_KNOTS" 2000) rfl), He.int_ok X G (c.fact 79 (f := .int "LONGEST_NAME" 8) rfl), He.str_ok X G (c.fact 80 (f := .str "LETTERS" "abcdefghijklmnopqrstuvwxyz") rfl)⟩
  have T : Bk mg := ⟨T0, He.free_ok X G (c.fact 81 (f := .free "zip") rfl), He.free_ok X G (c.fact 82 (f := .free "ValueError") rfl), He.str_ok X G (c.fact 83 (f := .str "HOLE" "*") rfl)⟩
  have gs : mg "super" = none := He.free_ok X G (c.fact 75 (f := .free "super") rfl)
  have B : BedT K (He.ga K "Bed") := ⟨He.cls_ok (c.fact 55 (f := .cls "Bed") rfl), He.noat_ok (c.fact 58 (f := .noat "Bed" "rows") rfl), He.noat_ok (c.fact 59 (f := .noat "Bed" "kinds") rfl), He.noat_ok (c.fact 60 (f := .noat "Bed" "widths") rfl), He.noat_ok (c.fact 61 (f := .noat "Bed" "ranks") rfl)⟩
  obtain ⟨fdI, F_init⟩ := c.def_ 54 (d := dM "Bed" "__init__" "Bed.__init__" s_init__) rfl
  obtain ⟨fdB, F_br⟩ := c.def_ 55 (d := dM "Bed" "branches" "Bed.branches" s_branches) rfl
  have gBed := He.glo_ok X G (c.fact 54 (f := .glo "Bed") rfl)
  have mkBed := He.mkr_ok (c.fact 56 (f := .mkr "Bed") rfl)
  have mtBed := He.meth_ok (c.fact 57 (f := .meth "Bed" "branches") rfl)
  have gY := He.glo_ok X G (c.fact 84 (f := .glo "YardError") rfl)
  obtain ⟨ea0, eb0⟩ := Hx.x_of x1 x2 0 (d := xTooMany) rfl
  have FTooMany : Hx.XFacts TL.prog K xTooMany [zTooMany0, zTooMany1] := Hx.facts_of ea0 eb0 (fun z hz => by
    rcases List.mem_cons.mp hz with h | h
    · rw [h]; exact List.mem_cons_self
    · rw [List.mem_singleton.mp h]; exact List.mem_cons_of_mem _ List.mem_cons_self)
  obtain ⟨ea1, eb1⟩ := Hx.x_of x1 x2 1 (d := xInvalidStump) rfl
  have FInvalidStump : Hx.XFacts TL.prog K xInvalidStump [zInvalidStump0] := Hx.facts_of ea1 eb1 (fun z hz => by rw [List.mem_singleton.mp hz]; exact List.mem_cons_self)
  obtain ⟨ea2, eb2⟩ := Hx.x_of x1 x2 2 (d := xUnknownKind) rfl
  have FUnknownKind : Hx.XFacts TL.prog K xUnknownKind [zUnknownKind0] := Hx.facts_of ea2 eb2 (fun z hz => by rw [List.mem_singleton.mp hz]; exact List.mem_cons_self)
  obtain ⟨ea3, eb3⟩ := Hx.x_of x1 x2 3 (d := xWrongBranches) rfl
  have FWrongBranches : Hx.XFacts TL.prog K xWrongBranches [zWrongBranches0, zWrongBranches1] := Hx.facts_of ea3 eb3 (fun z hz => by
    rcases List.mem_cons.mp hz with h | h
    · rw [h]; exact List.mem_cons_self
    · rw [List.mem_singleton.mp h]; exact List.mem_cons_of_mem _ List.mem_cons_self)
  have x : XS TL.prog w K mg (AK K) := ⟨sup_TooMany X G gs FTooMany, sup_InvalidStump X G gs FInvalidStump, sup_UnknownKind X G gs FUnknownKind, sup_WrongBranches X G gs FWrongBranches⟩
  have o_TooMany : XOk K (AK K).T ["what", "limit"] := ⟨FTooMany.xf, FTooMany.no, FTooMany.me⟩
  have o_InvalidStump : XOk K (AK K).S ["place"] := ⟨FInvalidStump.xf, FInvalidStump.no, FInvalidStump.me⟩
  have o_UnknownKind : XOk K (AK K).U ["kind"] := ⟨FUnknownKind.xf, FUnknownKind.no, FUnknownKind.me⟩
  have o_WrongBranches : XOk K (AK K).W ["wanted", "given"] := ⟨FWrongBranches.xf, FWrongBranches.no, FWrongBranches.me⟩
  refine ⟨fdL, fun s v => bnd s [v] rfl, fun base _ _ => ?_⟩
  have c_law_draw := ok_draw (P := TL.prog) (w := w) (base := base) T0 D__law_draw
  have c_law_bag := ok_bag (P := TL.prog) (w := w) (base := base) T0 D__law_bag
  have c_law_word := ok_word (P := TL.prog) (w := w) (base := base) T0 c_law_draw D__law_word
  have c_law_name := ok_name (P := TL.prog) (w := w) (base := base) T0 c_law_draw c_law_word D__law_name
  have c_law_rows := ok_rows (P := TL.prog) (w := w) (base := base) T0 c_law_draw c_law_name D__law_rows
  have c_all_letters := ok_all_letters (P := TL.prog) (w := w) (base := base) T0 D_all_letters
  have c_is_name := ok_is_name (P := TL.prog) (w := w) (base := base) T0 c_all_letters D_is_name
  have c_check_pairs := ok_check_pairs (P := TL.prog) (w := w) (base := base) T0 c_is_name D_check_pairs
  have c_Bed : BedOk TL.prog w K mg base (He.ga K "Bed") 5 := by
    refine ⟨gBed, _, mkBed, ?_⟩
    obtain ⟨oc, od, dV, kV, doc, pm, an, cdv, ct, osl, rfl, lk, hcd, hdv, _⟩ := F_init.ex
    have hd : dV = .none := by
      rcases hdv with ⟨_, h⟩ | h
      · exact h
      · exact absurd rfl h.1
    subst hd
    refine (StX.fn_star (ps := ["self"]) (pv := "kinds") lk hcd sc_init__ StX.cxUp_none (StX.bind_star1 (B := fun us => bindArgs (PySem.W.fnOf "__init__" "Bed.__init__" (defArgs s_init__) (defBody s_init__) (defScope s_init__) .none kV doc pm an cdv ct) ⟨us, []⟩) (fun _ => rfl) (fun _ _ _ => rfl)) (sp := spBedI (He.ga K "Bed")) (k := 3) fun A outer s H vs Q E hr hsp => ?_).mono (by decide)
    obtain ⟨t, a, b⟩ := body_bedI T0 B c_check_pairs hr hsp
    exact ⟨t, a.nox, b⟩
  have c_law_bed := ok_law_bed (P := TL.prog) (w := w) (base := base) T0 c_Bed D__law_bed
  have c_check_size := ok_check_size (P := TL.prog) (w := w) (base := base) T x D_check_size
  have c_fault_place := ok_fault_place (P := TL.prog) (w := w) (base := base) T B D_fault_place
  have c_check_stump := ok_check_stump (P := TL.prog) (w := w) (base := base) T x c_check_size c_fault_place D_check_stump
  have c_law_number := ok_law_number (P := TL.prog) (w := w) (base := base) T D__law_number
  have c_ends_of := ok_ends_of (P := TL.prog) (w := w) (base := base) T B D_ends_of
  have c_paths_of := ok_paths_of (P := TL.prog) (w := w) (base := base) T B D_paths_of
  have c_branches : BrOk TL.prog w K mg base (He.ga K "Bed") (AK K) := ok_branches (y := "branches") x B F_br mtBed
  have c_check_stumps := ok_check_stumps (P := TL.prog) (w := w) (base := base) T c_check_stump D_check_stumps
  have c_stump_key := ok_stump_key (P := TL.prog) (w := w) (base := base) T B c_check_stump D_stump_key
  have c_holes := ok_holes (P := TL.prog) (w := w) (base := base) T B c_check_stump c_paths_of D_holes
  have c_filled_holes := ok_filled_holes (P := TL.prog) (w := w) (base := base) T D_filled_holes
  have c_filled := ok_filled (P := TL.prog) (w := w) (base := base) T x c_check_size c_check_stump c_check_stumps c_filled_holes D_filled
  have c_parts_from := ok_parts_from (P := TL.prog) (w := w) (base := base) T D_parts_from
  have c_parts_in := ok_parts_in (P := TL.prog) (w := w) (base := base) T c_ends_of c_parts_from D_parts_in
  have c_parts := ok_parts (P := TL.prog) (w := w) (base := base) T c_check_stumps c_parts_in D_parts
  have c_begins := ok_begins (P := TL.prog) (w := w) (base := base) T c_parts D_begins
  have c_compared := ok_compared (P := TL.prog) (w := w) (base := base) T c_ends_of D_compared
  have c_shared_stump := ok_shared_stump (P := TL.prog) (w := w) (base := base) T c_compared D_shared_stump
  have c_common := ok_common (P := TL.prog) (w := w) (base := base) T c_check_stumps c_shared_stump D_common
  have c_union_of := ok_union_of (P := TL.prog) (w := w) (base := base) T D_union_of
  have c_united := ok_united (P := TL.prog) (w := w) (base := base) T x c_check_size c_check_stumps c_ends_of c_union_of D_united
  have c_law_plant := ok_law_plant (P := TL.prog) (w := w) (base := base) T c_law_draw D__law_plant
  have c_law_ends := ok_law_ends (P := TL.prog) (w := w) (base := base) T c_law_number D__law_ends
  have c_law_fault := ok_law_fault (P := TL.prog) (w := w) (base := base) T c_law_number D__law_fault
  have c_law_same := ok_law_same (P := TL.prog) (w := w) (base := base) T D__law_same 3
  have c_law_stump := ok_law_stump (P := TL.prog) (w := w) (base := base) T c_law_fault D__law_stump
  have c_law_paths := ok_law_paths (P := TL.prog) (w := w) (base := base) T c_law_number c_law_ends D__law_paths
  have c_law_kinds := ok_law_kinds (P := TL.prog) (w := w) (base := base) T c_law_paths D__law_kinds
  have c_law_is_begun := ok_law_is_begun (P := TL.prog) (w := w) (base := base) T D__law_is_begun
  have c_law_hole_paths := ok_law_hole_paths (P := TL.prog) (w := w) (base := base) T c_law_paths D__law_hole_paths
  have c_law_branches_at := ok_law_branches_at (P := TL.prog) (w := w) (base := base) T c_law_paths c_law_ends D__law_branches_at
  have c_law_cut_down := ok_law_cut_down (P := TL.prog) (w := w) (base := base) T c_law_draw c_law_ends D__law_cut_down
  have c_law_pieces := ok_law_pieces (P := TL.prog) (w := w) (base := base) T c_law_draw c_law_plant D__law_pieces
  have c_law_with_pieces := ok_law_with_pieces (P := TL.prog) (w := w) (base := base) T D__law_with_pieces
  have c_law_filled := ok_law_filled (P := TL.prog) (w := w) (base := base) T c_filled D__law_filled
  have c_law_filled_t := ok_law_filled_t (P := TL.prog) (w := w) (base := base) T c_filled D__law_filled
  have c_law_common := ok_law_common (P := TL.prog) (w := w) (base := base) T c_common D__law_common
  have c_law_related := ok_law_related (P := TL.prog) (w := w) (base := base) T c_law_draw c_law_plant c_law_cut_down c_law_pieces c_law_with_pieces D__law_related
  have c_law_common_right := ok_law_common_right (P := TL.prog) (w := w) (base := base) T c_law_stump c_law_kinds c_law_is_begun c_law_hole_paths D__law_common_right
  have c_law_united_right := ok_law_united_right (P := TL.prog) (w := w) (base := base) T c_law_stump c_law_kinds c_law_is_begun D__law_united_right
  have c_law_pair_right := ok_law_pair_right (P := TL.prog) (w := w) (base := base) T c_law_kinds c_law_is_begun c_law_hole_paths c_law_branches_at c_begins c_parts c_law_same c_law_filled_t D__law_pair_right
  have c_law_alone_right := ok_law_alone_right (P := TL.prog) (w := w) (base := base) T c_holes c_stump_key c_law_hole_paths c_law_same D__law_alone_right
  have c_law_fill_right := ok_law_fill_right (P := TL.prog) (w := w) (base := base) T c_law_pieces c_law_with_pieces c_parts c_law_same c_law_filled D__law_fill_right
  have c_law_short_right := ok_law_short_right (P := TL.prog) (w := w) (base := base) T c_law_rows c_law_bed c_law_draw c_law_plant c_law_related c_law_common c_law_common_right c_common c_united c_law_united_right c_law_alone_right c_law_fill_right c_law_pair_right c_law_same D__law_short_right
  have c_law_long_met := ok_law_long_met (P := TL.prog) (w := w) (base := base) T x o_TooMany c_filled c_united D__law_long_met
  have c_law_long_right := ok_law_long_right (P := TL.prog) (w := w) (base := base) T c_law_name c_Bed c_law_draw c_begins c_parts c_united c_common c_holes c_law_long_met c_law_same D__law_long_right
  exact ok_law T c_law_bag c_law_draw c_law_long_right c_law_short_right F_law
end Sh
end
set_option Elab.async false
set_option linter.all false
set_option maxRecDepth 100000
set_option maxHeartbeats 4000000
open PySem PySem.W PySem.Calls PyProof.Rows
theorem PySem.Challenge.cw_shearyard_k03_whole_common_and_united_st_holds : PySem.Challenge.rw_shearyard_k03_whole_common_and_united_st.Holds := by
  w_on; o_law
  refine HandSHeadRun.head_any (r := OpenLaw.row PySem.Challenge.rw_shearyard_k03_whole_common_and_united_st) (q := view (OpenLaw.row PySem.Challenge.rw_shearyard_k03_whole_common_and_united_st).prog [75]) (H := Sh.hk) (ob := Sh.ob) (M := 9000) (loose := Sh.names) (d := HandSHeadRun.topDef (OpenLaw.row PySem.Challenge.rw_shearyard_k03_whole_common_and_united_st).prog 75) (kwd := []) Sh.ob_eq
    (by kernel_rfl) (fun s => by kernel_rfl) Sh.run (by kernel_rfl) (by kernel_rfl) (by kernel_rfl) (by rfl) (by first | assumption | decide +kernel) (by decide +kernel) ⟨rfl, rfl, rfl, rfl, rfl, by decide +kernel⟩ ?hw ?hc
  case hw => w_witness2
  case hc =>
    refine L2.walk_ofE (l := PySem.Challenge.rw_shearyard_k03_whole_common_and_united_st) (n := 63) (k := 11) (x := "script") (CX := L2.CX0) rfl (by decide) (by kernel_rfl) ⟨rfl, by decide, by decide⟩ ?F (fun _ _ _ _ z => z)
    intro w mg fa h Y G hmg0
    obtain ⟨K, KX, c, x1, x2, x3⟩ := Y
    have hmg : mg ("law" : PySem.Str) = some (.ref fa) := by
      have e : (HandSHeadRun.topDef (OpenLaw.row PySem.Challenge.rw_shearyard_k03_whole_common_and_united_st).prog 75).name = ("law" : PySem.Str) := by kernel_rfl
      rw [← e]
      exact hmg0
    obtain ⟨fd, hb, hF⟩ := Sh.facts (w := w) KX G hmg c x1 x2 x3
    exact ⟨K, fd, Sh.spLaw K, KX, hb, fun H a ns hn _ hS => ⟨a, ns, rfl, hS, hn, fun _ => rfl⟩, hF⟩
